
/- What the code's processes do when they are called; no conditions but lengths. -/
import Derived.Test.YtiklclmpealllaaPrT
namespace Go.Proofs.Ytiklclmpealllaa
open Go.RowKit
set_option maxRecDepth 100000
set_option linter.unusedSimpArgs false

theorem pbit_w (i : Int) (w : World) (h : 0 ≤ i) (h' : i < 16) : Calls Try.prog 24 #[.int .i64 i] w fun e w' => e = .returned (.int .i64 (pw i)) ∧ w' = w := by
  have hp := pw_wrap h h'
  go_enter Try.func24, Try.ntmps24
  go_wp2
  rw [hp]
  go_ret
  exact ⟨rfl, rfl⟩

theorem pone_w (i : Int) (w : World) : Calls Try.prog 26 #[.int .i64 i] w fun e w' => e = .returned (.int .i64 (wrap64 (i + 1))) ∧ w' = w := by
  go_enter Try.func26, Try.ntmps26
  go_wp2
  go_ret
  exact ⟨rfl, rfl⟩

theorem pfd_w (i : Int) (w : World) : Calls Try.prog 29 #[.int .i64 i] w fun e w' => e = .returned (.bool (decide (0 ≤ i ∧ i < 6))) ∧ w' = w := by
  by_cases h : 0 ≤ i
  · by_cases h' : i < 6
    · rw [decide_eq_true (⟨h, h'⟩ : 0 ≤ i ∧ i < 6)]
      go_enter Try.func29, Try.ntmps29
      go_wp2
      go_ret
      exact ⟨rfl, rfl⟩
    · rw [decide_eq_false (by omega : ¬ (0 ≤ i ∧ i < 6))]
      go_enter Try.func29, Try.ntmps29
      go_wp2
      go_ret
      exact ⟨rfl, rfl⟩
  · rw [decide_eq_false (by omega : ¬ (0 ≤ i ∧ i < 6))]
    go_enter Try.func29, Try.ntmps29
    go_wp2
    go_ret
    exact ⟨rfl, rfl⟩

theorem pobject_w (i : Int) (w : World) : Calls Try.prog 27 #[.int .i64 i] w fun e w' => e = .returned (.agg #[.int .i64 4, .int .i64 i]) ∧ Kept (fun _ => False) w w' := by
  go_enter Try.func27, Try.ntmps27
  go_wp2
  exact bodyPost_ret (results_cell_row Try.results27 _ _ w.heap.size _ _ _ _ rfl (alloc_at _ _) Try.underlying53 rfl wide_K.size) rfl ⟨rfl, (Kept.refl _ _).alloc _⟩

theorem pmem_w (i : Int) (w : World) : Calls Try.prog 30 #[.int .i64 i] w fun e w' => e = .returned (.agg #[.int .i64 12, .int .i64 i]) ∧ Kept (fun _ => False) w w' := by
  go_enter Try.func30, Try.ntmps30
  go_wp2
  exact bodyPost_ret (results_cell_row Try.results30 _ _ w.heap.size _ _ _ _ rfl (alloc_at _ _) Try.underlying53 rfl wide_K.size) rfl ⟨rfl, (Kept.refl _ _).alloc _⟩

theorem ptable_w (w : World) : Calls Try.prog 23 #[] w fun e w' => e = .returned (.agg #[.int .i64 3, .int .i64 0]) ∧ Kept (fun _ => False) w w' := by
  go_enter Try.func23, Try.ntmps23
  go_wp2
  exact bodyPost_ret (results_cell_row Try.results23 _ _ w.heap.size _ _ _ _ rfl (alloc_at _ _) Try.underlying53 rfl wide_K.size) rfl ⟨rfl, (Kept.refl _ _).alloc _⟩

theorem index_n1 (x : V) (w : World) : (Instr.index 54 (av x) (.int .i64 1)).run Try.prog w = .ok (.int .i64 x.n1) w := by kernel_rfl
theorem index_n2 (x : V) (w : World) : (Instr.index 54 (av x) (.int .i64 2)).run Try.prog w = .ok (.int .i64 x.n2) w := by kernel_rfl
theorem index_dsc (x : V) {d : Int} (h : 0 ≤ d) (h' : d < 6) (w : World) : (Instr.index 54 (av x) (.int .i64 (8 + d))).run Try.prog w = .ok (.int .i64 (dsc x d)) w := by
  rcases below6 h h' with rfl | rfl | rfl | rfl | rfl | rfl <;> kernel_rfl

set_option maxHeartbeats 1000000 in
theorem state_w (q N p B : Nat) (f : StF) (g : VwF) (i : Int) (w : World) (h : ViewIn q N p g w) (hs : StoreIn p B f w) (hNB : N ≠ B) : Calls Try.prog 15 #[.pointer (some ⟨q, 0, none⟩), .int .i64 i] w
    fun e w' => e = .returned (.int .i64 (stA f g i)) ∧ ViewIn q N p (stT f g i) w' ∧ Kept (fun n => n = N) w w' := by
  have hpN : p ≠ N := h.map.off hs.cell
  have hsk : ∀ w', Kept (fun n => n = N) w w' → StoreIn p B f w' := fun w' hk => hs.kept hk hpN (fun e => hNB e.symm)
  by_cases hr : 0 ≤ i ∧ i < 8
  · have HV : Hid (isU f g i = hasB (vgetF f g (3, 0)).n0 i ∧ usT g i = vgetT g (3, 0)) := isU_in hr
    obtain ⟨r1, r2⟩ := hr
    go_enter Try.func15, Try.ntmps15
    go_wp2_with fail
    refine (ptable_w _).mono ?_
    rintro e w1 ⟨rfl, hk1⟩
    go_wp2_with fail
    refine (vget_w q N p B f g 3 0 w1 (h.still hk1) (hs.still hk1) hNB).mono ?_
    rintro e w2 ⟨rfl, hv2, hk2⟩
    have HZ : Hid (ViewIn q N p (usT g i) w2 ∧ Kept (fun n => n = N) w w2) := ⟨by rw [HV.out.2]; exact hv2, (hk1.mono (fun _ _ e => e.elim)).trans hk2 (fun _ _ e => e)⟩
    have hf := field_arr (vgetF f g (3, 0)) w2
    have hx := index_n0 (vgetF f g (3, 0)) w2
    clear hv2 hk2 hk1 h hs
    generalize vgetF f g (3, 0) = x at *
    have hb := and_b x.n0 i r1 (by omega)
    cases hbit : hasB x.n0 i with
    | true =>
      rw [hbit, if_pos rfl] at hb
      have hz : (pw i == 0) = false := by have := pw_pos (i := i) r1 (by omega); simp; omega
      have HE : Hid (isU f g i = true) := by show _ = _; rw [HV.out.1]; exact hbit
      have HA : Hid (stA f g i = (prV f g i).n0 ∧ stT f g i = vgetT (usT g i) (4, i)) := by constructor; (unfold stA; rw [if_pos HE.out]); (unfold stT; rw [if_pos HE.out])
      clear hbit HV
      go_wp2_with fail
      refine (pbit_w i _ r1 (by omega)).mono ?_
      rintro e w3 ⟨rfl, hw3⟩
      subst hw3
      go_wp2_with fail
      clear hf hx hb hz
      refine (pobject_w i _).mono ?_
      rintro e w4 ⟨rfl, hk4⟩
      have K4 : Kept (fun n => n = N) w w4 := HZ.out.2.trans hk4 (fun _ _ e => e.elim)
      go_wp2_with fail
      refine (vget_w q N p B f (usT g i) 4 i w4 (HZ.out.1.still hk4) (hsk _ K4) hNB).mono ?_
      rintro e w5 ⟨rfl, hv5, hk5⟩
      rw [show vgetF f (usT g i) (4, i) = prV f g i from get_usT _ _]
      have HZ2 : Hid (ViewIn q N p (stT f g i) w5 ∧ Kept (fun n => n = N) w w5) := ⟨by rw [HA.out.2]; exact hv5, K4.trans hk5 (fun _ _ e => e)⟩
      have HB : Hid (stA f g i = (prV f g i).n0) := HA.out.1
      have hf := field_arr (prV f g i) w5
      have hx := index_n0 (prV f g i) w5
      clear hv5 hk5 hk4 K4 HZ HA HE
      generalize prV f g i = y at *
      go_wp2_with fail
      go_ret
      exact ⟨by rw [HB.out]; rfl, HZ2.out⟩
    | false =>
      rw [hbit] at hb
      simp only [Bool.false_eq_true, if_false] at hb
      have HE : Hid (isU f g i = false) := by show _ = _; rw [HV.out.1]; exact hbit
      have HA : Hid (stA f g i = 0 ∧ stT f g i = usT g i) := by constructor; (unfold stA; rw [HE.out]; rfl); (unfold stT; rw [HE.out]; rfl)
      clear hbit HV
      go_wp2_with fail
      refine (pbit_w i _ r1 (by omega)).mono ?_
      rintro e w3 ⟨rfl, hw3⟩
      subst hw3
      go_wp2_with fail
      go_ret
      exact ⟨by rw [HA.out.1]; rfl, by rw [HA.out.2]; exact HZ.out.1, HZ.out.2⟩
  · have HV : isU f g i = false ∧ usT g i = g := isU_out hr
    have HA : Hid (stA f g i = 0 ∧ stT f g i = g) := by constructor; (unfold stA; rw [HV.1]; rfl); (unfold stT; rw [HV.1, HV.2]; rfl)
    have HZ : Hid (ViewIn q N p (stT f g i) w ∧ Kept (fun n => n = N) w w) := ⟨by rw [HA.out.2]; exact h, Kept.refl _ _⟩
    clear h hs HV hsk hpN
    by_cases r1 : 0 ≤ i
    · have r2 : ¬ i < 8 := by omega
      clear hr
      go_enter Try.func15, Try.ntmps15
      go_wp2
      go_ret
      exact ⟨by rw [HA.out.1]; rfl, HZ.out⟩
    · clear hr
      go_enter Try.func15, Try.ntmps15
      go_wp2
      go_ret
      exact ⟨by rw [HA.out.1]; rfl, HZ.out⟩
end Go.Proofs.Ytiklclmpealllaa

namespace Go.Proofs.Ytiklclmpealllaa
open Go.RowKit
set_option maxRecDepth 100000
set_option linter.unusedSimpArgs false

set_option maxHeartbeats 1000000 in
theorem haspid_w (q N p B : Nat) (f : StF) (g : VwF) (i m : Int) (w : World) (h : ViewIn q N p g w) (hs : StoreIn p B f w) (hNB : N ≠ B) : Calls Try.prog 28 #[.pointer (some ⟨q, 0, none⟩), .int .i64 i, .int .i64 2, .int .i64 m] w
    fun e w' => e = .returned (.bool (pidB f g i m)) ∧ ViewIn q N p (hsT f g i) w' ∧ Kept (fun n => n = N) w w' := by
  have hpN : p ≠ N := h.map.off hs.cell
  have hsk : ∀ w', Kept (fun n => n = N) w w' → StoreIn p B f w' := fun w' hk => hs.kept hk hpN (fun e => hNB e.symm)
  cases hR : isR f g i with
  | false =>
    have t0 : (stA f g i != 0) = false := hR
    have HA : Hid (pidB f g i m = false ∧ hsT f g i = stT f g i) := by constructor; (unfold pidB; rw [hR]; rfl); (unfold hsT; rw [hR]; rfl)
    clear hR
    go_enter Try.func28, Try.ntmps28
    go_wp2_with fail
    refine (state_w q N p B f g i w h hs hNB).mono ?_
    rintro e w1 ⟨rfl, hv1, hk1⟩
    have HZ : Hid (ViewIn q N p (stT f g i) w1 ∧ Kept (fun n => n = N) w w1) := ⟨hv1, hk1⟩
    clear h hs hv1 hk1 hsk
    go_wp2_with fail
    go_ret
    exact ⟨by rw [HA.out.1]; rfl, by rw [HA.out.2]; exact HZ.out.1, HZ.out.2⟩
  | true =>
    have t0 : (stA f g i != 0) = true := hR
    have HA : Hid (pidB f g i m = ((prV f g i).n2 == m) ∧ hsT f g i = vgetT (stT f g i) (4, i)) := by constructor; (unfold pidB; rw [hR]; rfl); (unfold hsT; rw [hR]; rfl)
    clear hR
    go_enter Try.func28, Try.ntmps28
    go_wp2_with fail
    refine (state_w q N p B f g i w h hs hNB).mono ?_
    rintro e w1 ⟨rfl, hv1, hk1⟩
    go_wp2_with fail
    refine (pobject_w i _).mono ?_
    rintro e w4 ⟨rfl, hk4⟩
    have K4 : Kept (fun n => n = N) w w4 := hk1.trans hk4 (fun _ _ e => e.elim)
    go_wp2_with fail
    refine (vget_w q N p B f (stT f g i) 4 i w4 (hv1.still hk4) (hsk _ K4) hNB).mono ?_
    rintro e w5 ⟨rfl, hv5, hk5⟩
    rw [show vgetF f (stT f g i) (4, i) = prV f g i from get_stT _ _]
    have HZ2 : Hid (ViewIn q N p (hsT f g i) w5 ∧ Kept (fun n => n = N) w w5) := ⟨by rw [HA.out.2]; exact hv5, K4.trans hk5 (fun _ _ e => e)⟩
    have HB : Hid (pidB f g i m = ((prV f g i).n2 == m)) := HA.out.1
    have hf := field_arr (prV f g i) w5
    have hx := index_n2 (prV f g i) w5
    clear hv5 hk5 hk4 K4 hv1 hk1 HA hsk h hs
    generalize prV f g i = y at *
    go_wp2_with fail
    go_ret
    exact ⟨by rw [HB.out]; rfl, HZ2.out⟩

set_option maxHeartbeats 1000000 in
theorem haspar_w (q N p B : Nat) (f : StF) (g : VwF) (i m : Int) (w : World) (h : ViewIn q N p g w) (hs : StoreIn p B f w) (hNB : N ≠ B) : Calls Try.prog 28 #[.pointer (some ⟨q, 0, none⟩), .int .i64 i, .int .i64 1, .int .i64 m] w
    fun e w' => e = .returned (.bool (parB f g i m)) ∧ ViewIn q N p (hsT f g i) w' ∧ Kept (fun n => n = N) w w' := by
  have hpN : p ≠ N := h.map.off hs.cell
  have hsk : ∀ w', Kept (fun n => n = N) w w' → StoreIn p B f w' := fun w' hk => hs.kept hk hpN (fun e => hNB e.symm)
  cases hR : isR f g i with
  | false =>
    have t0 : (stA f g i != 0) = false := hR
    have HA : Hid (parB f g i m = false ∧ hsT f g i = stT f g i) := by constructor; (unfold parB; rw [hR]; rfl); (unfold hsT; rw [hR]; rfl)
    clear hR
    go_enter Try.func28, Try.ntmps28
    go_wp2_with fail
    refine (state_w q N p B f g i w h hs hNB).mono ?_
    rintro e w1 ⟨rfl, hv1, hk1⟩
    have HZ : Hid (ViewIn q N p (stT f g i) w1 ∧ Kept (fun n => n = N) w w1) := ⟨hv1, hk1⟩
    clear h hs hv1 hk1 hsk
    go_wp2_with fail
    go_ret
    exact ⟨by rw [HA.out.1]; rfl, by rw [HA.out.2]; exact HZ.out.1, HZ.out.2⟩
  | true =>
    have t0 : (stA f g i != 0) = true := hR
    have HA : Hid (parB f g i m = ((prV f g i).n1 == m) ∧ hsT f g i = vgetT (stT f g i) (4, i)) := by constructor; (unfold parB; rw [hR]; rfl); (unfold hsT; rw [hR]; rfl)
    clear hR
    go_enter Try.func28, Try.ntmps28
    go_wp2_with fail
    refine (state_w q N p B f g i w h hs hNB).mono ?_
    rintro e w1 ⟨rfl, hv1, hk1⟩
    go_wp2_with fail
    refine (pobject_w i _).mono ?_
    rintro e w4 ⟨rfl, hk4⟩
    have K4 : Kept (fun n => n = N) w w4 := hk1.trans hk4 (fun _ _ e => e.elim)
    go_wp2_with fail
    refine (vget_w q N p B f (stT f g i) 4 i w4 (hv1.still hk4) (hsk _ K4) hNB).mono ?_
    rintro e w5 ⟨rfl, hv5, hk5⟩
    rw [show vgetF f (stT f g i) (4, i) = prV f g i from get_stT _ _]
    have HZ2 : Hid (ViewIn q N p (hsT f g i) w5 ∧ Kept (fun n => n = N) w w5) := ⟨by rw [HA.out.2]; exact hv5, K4.trans hk5 (fun _ _ e => e)⟩
    have HB : Hid (parB f g i m = ((prV f g i).n1 == m)) := HA.out.1
    have hf := field_arr (prV f g i) w5
    have hx := index_n1 (prV f g i) w5
    clear hv5 hk5 hk4 K4 hv1 hk1 HA hsk h hs
    generalize prV f g i = y at *
    go_wp2_with fail
    go_ret
    exact ⟨by rw [HB.out]; rfl, HZ2.out⟩
end Go.Proofs.Ytiklclmpealllaa
