
/- Processes: whose children, whose pid; no conditions but lengths. -/
import Derived.Test.YtiklclmpealllaaPrA
import Derived.Test.YtiklclmpealllaaPrI
namespace Go.Proofs.Ytiklclmpealllaa
open Go.RowKit
set_option maxRecDepth 100000
set_option linter.unusedSimpArgs false

set_option maxHeartbeats 1000000 in
theorem bypid_w (q N p B : Nat) (f : StF) (g : VwF) (m : Int) (w : World) (h : ViewIn q N p g w) (hs : StoreIn p B f w) (hNB : N ≠ B) : Calls Try.prog 9 #[.pointer (some ⟨q, 0, none⟩), .int .i64 m] w
    fun e w' => e = .returned (nwR (pidA f g m)) ∧ ViewIn q N p (pidT f g m) w' ∧ Kept (fun n => n = N) w w' := by
  have hpN : p ≠ N := h.map.off hs.cell
  have hsk : ∀ w', Kept (fun n => n = N) w w' → StoreIn p B f w' := fun w' hk => hs.kept hk hpN (fun e => hNB e.symm)
  have H0 : Hid (ViewIn q N p (walkT f g 0) w ∧ Kept (fun n => n = N) w w) := ⟨h, Kept.refl _ _⟩
  clear h hs
  go_enter Try.func9, Try.ntmps9
  go_wp2_with fail
  go_loopw [6, 7] (fun _ v wr => ∃ i : Nat, v = .int .i64 i ∧ i ≤ 8 ∧ Hid (∀ j : Nat, j < i → pidB f g (j : Int) m = false) ∧ Hid (ViewIn q N p (walkT f g i) wr ∧ Kept (fun n => n = N) w wr)) (fun _ v _ => 8 - (intOf v).toNat)
  case atStart => exact ⟨0, rfl, Nat.zero_le _, fun j hj => by omega, H0.out⟩
  case round =>
    obtain ⟨i, rfl, hi, HB, HV⟩ := hrel
    clear H0
    by_cases hlt : i < 8
    · have t1 : (i : Int) < 8 := by omega
      have hE : pidB f (walkT f g i) (i : Int) m = pidB f g (i : Int) m := sees_pidB (get_walk i) _ _
      go_wp2_with fail
      refine (haspid_w q N p B f (walkT f g i) i m wr HV.out.1 (hsk _ HV.out.2) hNB).mono ?_
      rintro e w1 ⟨rfl, hv1, hk1⟩
      rw [hE]
      have HW : Hid (ViewIn q N p (walkT f g (i + 1)) w1 ∧ Kept (fun n => n = N) w w1) := ⟨hv1, HV.out.2.trans hk1 (fun _ _ e => e)⟩
      clear hE hv1 hk1 HV
      cases hb : pidB f g (i : Int) m with
      | true =>
        have HA : Hid (pidA f g m = (i : Int)) := pidA_at hlt HB.out hb
        have HR : Hid (nwR (pidA f g m) = .tuple #[.int .i64 i, .bool true]) := by
          show _ = _
          rw [HA.out]; unfold nwR; rw [if_pos t1, decide_eq_true t1]
        have HT : Hid (pidT f g m = walkT f g (i + 1)) := by
          show _ = _
          unfold pidT; rw [HA.out, if_pos t1, Int.toNat_natCast]
        clear hb HB
        go_wp2_with fail
        exact bodyPost_ret (v := .tuple #[.int .i64 i, .bool true]) (by simp [results, Try.results9, go_sem]) rfl ⟨by rw [HR.out], by rw [HT.out]; exact HW.out.1, HW.out.2⟩
      | false =>
        have HB2 : Hid (∀ j : Nat, j < i + 1 → pidB f g (j : Int) m = false) := fun j hj => by
          by_cases e : j = i
          · rw [e]; exact hb
          · exact HB.out j (by omega)
        clear hb HB
        go_wp2
        go_roundw
        case rel => exact ⟨i + 1, by go_num, by omega, HB2.out, HW.out⟩
        case measure => simp [intOf]; omega
    · obtain rfl : i = 8 := by omega
      have HA : Hid (pidA f g m = 8) := pidA_none HB.out
      have HR : Hid (nwR (pidA f g m) = .tuple #[.int .i64 0, .bool false]) := by show _ = _; rw [HA.out]; rfl
      have HT : Hid (pidT f g m = walkT f g 8) := by show _ = _; unfold pidT; rw [HA.out, if_neg (by decide)]
      clear HB
      go_wp2_with fail
      exact bodyPost_ret (v := .tuple #[.int .i64 0, .bool false]) (by simp [results, Try.results9, go_sem]) rfl ⟨by rw [HR.out], by rw [HT.out]; exact HV.out.1, HV.out.2⟩

set_option maxHeartbeats 1000000 in
theorem kids_w (q N p B : Nat) (f : StF) (g : VwF) (m : Int) (w : World) (h : ViewIn q N p g w) (hs : StoreIn p B f w) (hNB : N ≠ B) : Calls Try.prog 8 #[.pointer (some ⟨q, 0, none⟩), .int .i64 m] w
    fun e w' => ∃ v, e = .returned v ∧ OwnX (fun n => n = N) w v (kidsN f g (wrap64 (m + 1)) 8) w' ∧ ViewIn q N p (walkT f g 8) w' := by
  have hpN : p ≠ N := h.map.off hs.cell
  have hN : N < w.heap.size := h.map.lt
  have hq : q < w.heap.size := lt_at h.cell
  have hsk : ∀ w', Kept (fun n => n = N) w w' → StoreIn p B f w' := fun w' hk => hs.kept hk hpN (fun e => hNB e.symm)
  have H0 : Hid (OwnX (fun n => n = N) w (.slice none 0 0) (kidsN f g (wrap64 (m + 1)) 0) w ∧ ViewIn q N p (walkT f g 0) w) := ⟨OwnX.nil w, h⟩
  clear h hs
  obtain ⟨n, hn⟩ : ∃ n, wrap64 (m + 1) = n := ⟨_, rfl⟩
  rw [hn] at H0 ⊢
  go_enter Try.func8, Try.ntmps8
  go_wp2_with fail
  go_loopw [5, 6, 7] (fun u _ v wr => ∃ i : Nat, v = .int .i64 i ∧ i ≤ 8 ∧ Hid (OwnX (fun n => n = N) w u (kidsN f g n i) wr ∧ ViewIn q N p (walkT f g i) wr)) (fun _ _ v _ => 8 - (intOf v).toNat)
  case atStart => exact ⟨0, rfl, Nat.zero_le _, H0.out⟩
  case round =>
    obtain ⟨i, rfl, hi, HV⟩ := hrel
    clear H0
    by_cases hlt : i < 8
    · have t1 : (i : Int) < 8 := by omega
      have hE : parB f (walkT f g i) (i : Int) n = parB f g (i : Int) n := sees_parB (get_walk i) _ _
      have hS := kids_succ (f := f) (g := g) n i
      have hL := kids_len (f := f) (g := g) n i
      go_wp2_with fail
      refine (pone_w m _).mono ?_
      rintro e w0 ⟨rfl, hw0⟩
      subst hw0
      go_wp2_with fail
      refine (haspar_w q N p B f (walkT f g i) i n _ HV.out.2 (hsk _ HV.out.1.kept) hNB).mono ?_
      rintro e w1 ⟨rfl, hv1, hk1⟩
      rw [hE]
      have HO := HV.out.1.still hk1 (fun k e => by omega)
      have HW : Hid (ViewIn q N p (walkT f g (i + 1)) w1) := hv1
      clear hE hv1 hk1 HV
      cases hb : parB f g (i : Int) n with
      | true =>
        rw [hb, if_pos rfl] at hS
        obtain ⟨E, hE⟩ : ∃ E : Nat, w1.heap.size = E := ⟨_, rfl⟩
        have k1 : Kept (fun _ => False) w1 (w1.alloc (.cells #[.int .i64 i] 3)) := (Kept.refl _ _).alloc _
        have HS : Hid _ := HO.still (k1.mono (Y := fun n => n = N) (fun _ _ e => e.elim)) (fun k e => by omega)
        have HN : Hid (SrcI (.slice (some ⟨E, 0, none⟩) 1 1) [(i : Int)] (w1.alloc (.cells #[.int .i64 i] 3))) := SrcI.lone (alloc_at' _ hE)
        have HW2 : Hid (ViewIn q N p (walkT f g (i + 1)) (w1.alloc (.cells #[.int .i64 i] 3)) ∧ N < (w1.alloc (.cells #[.int .i64 i] 3)).heap.size) := ⟨HW.out.still k1, (HW.out.still k1).map.lt⟩
        have hy : ∀ k, u5.ownBlock = some k → w.heap.size ≤ k := fun k e => (HO.young e).1
        clear hb HO k1 HW
        go_wp2_with (at_builtin; refine listI_app rfl _ _ rfl (fun n => n = N) w _ [(i : Int)] HS.out HN.out (by simp; omega) ?_; intro v w6 h6 hg6)
        have HV2 : Hid (OwnX (fun n => n = N) w v (kidsN f g n (i + 1)) w6 ∧ ViewIn q N p (walkT f g (i + 1)) w6) := ⟨by rw [hS]; exact h6, HW2.out.1.kept (Kept.grown (X := fun k => w.heap.size ≤ k) (Kept.refl _ _) hg6 (fun k e _ => hy k e)) (by omega) (by omega)⟩
        clear h6 hg6 HS HN hS HW2 hy
        go_wp2
        go_roundw
        case rel => exact ⟨i + 1, by go_num, by omega, HV2.out⟩
        case measure => simp [intOf]; omega
      | false =>
        rw [hb] at hS
        simp only [Bool.false_eq_true, if_false, List.append_nil] at hS
        clear hb
        have HO2 : Hid (OwnX (fun n => n = N) w u5 (kidsN f g n (i + 1)) w1) := by rw [hS]; exact HO
        clear hS HO
        go_wp2
        go_roundw
        case rel => exact ⟨i + 1, by go_num, by omega, HO2.out, HW.out⟩
        case measure => simp [intOf]; omega
    · obtain rfl : i = 8 := by omega
      go_wp2_with fail
      go_ret
      exact ⟨_, rfl, HV.out⟩
end Go.Proofs.Ytiklclmpealllaa
