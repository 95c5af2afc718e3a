
/- Processes and pages of the reference: State, keys; no conditions but lengths. -/
import Derived.Test.YtbhpkjedkccdpaaDoorSpF
namespace Go.Proofs.YtbhpkjedkccdpaaDoor
open Go.RowKit
set_option maxRecDepth 100000
set_option linter.unusedSimpArgs false

theorem rpkey_w (i : Int) (w : World) : Calls Tryd.prog 44 #[.int .i64 i] w fun e w' => e = .returned (.agg #[.int .i64 4, .int .i64 i]) ∧ Kept (fun _ => False) w w' := by
  go_enter Tryd.func44, Tryd.ntmps44
  go_wp2
  exact bodyPost_ret (results_cell_row Tryd.results44 _ _ w.heap.size _ _ _ _ rfl (alloc_at _ _) Tryd.underlying54 rfl wide_K.size) rfl ⟨rfl, (Kept.refl _ _).alloc _⟩
theorem rmkey_w (i : Int) (w : World) : Calls Tryd.prog 45 #[.int .i64 i] w fun e w' => e = .returned (.agg #[.int .i64 12, .int .i64 i]) ∧ Kept (fun _ => False) w w' := by
  go_enter Tryd.func45, Tryd.ntmps45
  go_wp2
  exact bodyPost_ret (results_cell_row Tryd.results45 _ _ w.heap.size _ _ _ _ rfl (alloc_at _ _) Tryd.underlying54 rfl wide_K.size) rfl ⟨rfl, (Kept.refl _ _).alloc _⟩

set_option maxHeartbeats 1000000 in
theorem rstate_w {q R W p B : Nat} {f : StF} {g : VwF} {w : World} (h : RBoth q R W p B f g w) (i : Int) : Calls Tryd.prog 42 #[.pointer (some ⟨q, 0, none⟩), .int .i64 i] w
    fun e w' => e = .returned (.int .i64 (stA f g i)) ∧ RBoth q R W p B f (stT f g i) w' ∧ Kept (RW R W) w w' := by
  by_cases hr : 0 ≤ i ∧ i < 8
  · have HV : Hid (isU f g i = hasB (vgetF f g (3, 0)).n0 i ∧ usT g i = vgetT g (3, 0)) := isU_in hr
    obtain ⟨r1, r2⟩ := hr
    have r3 : i ≤ 64 := by omega
    go_enter Tryd.func42, Tryd.ntmps42
    go_wp2_with fail
    refine (rg_w h 3 0).mono ?_
    rintro e w2 ⟨rfl, hv2, hk2⟩
    have HZ : Hid (RBoth q R W p B f (usT g i) w2 ∧ Kept (RW R W) w w2) := ⟨by rw [HV.out.2]; exact hv2, hk2⟩
    have hf := field_arr (vgetF f g (3, 0)) w2
    have hx := index_n0 (vgetF f g (3, 0)) w2
    clear hv2 hk2 h
    generalize vgetF f g (3, 0) = x at *
    have hb := and_one (x.n0 / 2 ^ i.toNat)
    cases hbit : hasB x.n0 i with
    | true =>
      have hm : x.n0 / 2 ^ i.toNat % 2 = 1 := by simpa [hasB] using hbit
      rw [hm] at hb
      have HE : Hid (isU f g i = true) := by show _ = _; rw [HV.out.1]; exact hbit
      have HA : Hid (stA f g i = (prV f g i).n0 ∧ stT f g i = vgetT (usT g i) (4, i)) := by constructor; (unfold stA; rw [if_pos HE.out]); (unfold stT; rw [if_pos HE.out])
      clear hbit HV hm
      go_wp2_with fail
      clear hf hx hb
      refine (rpkey_w i _).mono ?_
      rintro e w4 ⟨rfl, hk4⟩
      have K4 : Kept (RW R W) w w4 := HZ.out.2.trans hk4 (fun _ _ e => e.elim)
      go_wp2_with fail
      refine (rg_w (HZ.out.1.still hk4) 4 i).mono ?_
      rintro e w5 ⟨rfl, hv5, hk5⟩
      rw [show vgetF f (usT g i) (4, i) = prV f g i from get_usT _ _]
      have HZ2 : Hid (RBoth q R W p B f (stT f g i) w5 ∧ Kept (RW R W) w w5) := ⟨by rw [HA.out.2]; exact hv5, K4.trans hk5 (fun _ _ e => e)⟩
      have HB : Hid (stA f g i = (prV f g i).n0) := HA.out.1
      have hf := field_arr (prV f g i) w5
      have hx := index_n0 (prV f g i) w5
      clear hv5 hk5 hk4 K4 HZ HA HE
      generalize prV f g i = y at *
      go_wp2_with fail
      go_ret
      exact ⟨by rw [HB.out]; rfl, HZ2.out⟩
    | false =>
      have hm : x.n0 / 2 ^ i.toNat % 2 = 0 := by
        have : ¬ x.n0 / 2 ^ i.toNat % 2 = 1 := by simpa [hasB] using hbit
        omega
      rw [hm] at hb
      have HE : Hid (isU f g i = false) := by show _ = _; rw [HV.out.1]; exact hbit
      have HA : Hid (stA f g i = 0 ∧ stT f g i = usT g i) := by constructor; (unfold stA; rw [HE.out]; rfl); (unfold stT; rw [HE.out]; rfl)
      clear hbit HV hm
      go_wp2_with fail
      go_ret
      exact ⟨by rw [HA.out.1]; rfl, by rw [HA.out.2]; exact HZ.out.1, HZ.out.2⟩
  · have HV : isU f g i = false ∧ usT g i = g := isU_out hr
    have HA : Hid (stA f g i = 0 ∧ stT f g i = g) := by constructor; (unfold stA; rw [HV.1]; rfl); (unfold stT; rw [HV.1, HV.2]; rfl)
    have HZ : Hid (RBoth q R W p B f (stT f g i) w ∧ Kept (RW R W) w w) := ⟨by rw [HA.out.2]; exact h, Kept.refl _ _⟩
    clear h HV
    by_cases r1 : 0 ≤ i
    · have r2 : ¬ i < 8 := by omega
      clear hr
      go_enter Tryd.func42, Tryd.ntmps42
      go_wp2
      go_ret
      exact ⟨by rw [HA.out.1]; rfl, HZ.out⟩
    · clear hr
      go_enter Tryd.func42, Tryd.ntmps42
      go_wp2
      go_ret
      exact ⟨by rw [HA.out.1]; rfl, HZ.out⟩
end Go.Proofs.YtbhpkjedkccdpaaDoor
