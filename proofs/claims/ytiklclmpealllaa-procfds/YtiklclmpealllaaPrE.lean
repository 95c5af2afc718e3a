
/- Processes: descriptors; no conditions but lengths. -/
import Derived.Test.YtiklclmpealllaaPrA
namespace Go.Proofs.Ytiklclmpealllaa
open Go.RowKit
set_option maxRecDepth 100000
set_option linter.unusedSimpArgs false

set_option maxHeartbeats 1000000 in
theorem fd_w (q N p B : Nat) (f : StF) (g : VwF) (i d : Int) (w : World) (h : ViewIn q N p g w) (hs : StoreIn p B f w) (hNB : N ≠ B) : Calls Try.prog 16 #[.pointer (some ⟨q, 0, none⟩), .int .i64 i, .int .i64 d] w
    fun e w' => e = .returned (fdV f g i d) ∧ ViewIn q N p (fdT f g i d) w' ∧ Kept (fun n => n = N) w w' := by
  have hpN : p ≠ N := h.map.off hs.cell
  have hsk : ∀ w', Kept (fun n => n = N) w w' → StoreIn p B f w' := fun w' hk => hs.kept hk hpN (fun e => hNB e.symm)
  cases hR : isR f g i with
  | false =>
    have t0 : (stA f g i == 0) = true := by have : (stA f g i != 0) = false := hR; simpa using this
    have HF : fdR f g i d = false := by unfold fdR; rw [hR]; rfl
    have HB : fdB f g i d = false := by unfold fdB; rw [HF]; rfl
    have HA : Hid (fdV f g i d = .tuple #[.int .i64 0, .bool false] ∧ fdT f g i d = stT f g i) := by constructor; (unfold fdV fdA; rw [HB]; rfl); (unfold fdT; rw [HF]; rfl)
    clear hR HF HB
    go_enter Try.func16, Try.ntmps16
    go_wp2_with fail
    refine (state_w q N p B f g i w h hs hNB).mono ?_
    rintro e w1 ⟨rfl, hv1, hk1⟩
    have HZ : Hid (ViewIn q N p (stT f g i) w1 ∧ Kept (fun n => n = N) w w1) := ⟨hv1, hk1⟩
    clear h hs hv1 hk1 hsk
    go_wp2_with fail
    exact bodyPost_ret (v := .tuple #[.int .i64 0, .bool false]) (by simp [results, Try.results16, go_sem]) rfl ⟨by rw [HA.out.1], by rw [HA.out.2]; exact HZ.out.1, HZ.out.2⟩
  | true =>
    have t0 : (stA f g i == 0) = false := by have : (stA f g i != 0) = true := hR; simpa using this
    cases hD : decide (0 ≤ d ∧ d < 6) with
    | false =>
      have HF : fdR f g i d = false := by unfold fdR; rw [hR, hD]; rfl
      have HB : fdB f g i d = false := by unfold fdB; rw [HF]; rfl
      have HA : Hid (fdV f g i d = .tuple #[.int .i64 0, .bool false] ∧ fdT f g i d = stT f g i) := by constructor; (unfold fdV fdA; rw [HB]; rfl); (unfold fdT; rw [HF]; rfl)
      clear hR HF HB
      go_enter Try.func16, Try.ntmps16
      go_wp2_with fail
      refine (state_w q N p B f g i w h hs hNB).mono ?_
      rintro e w1 ⟨rfl, hv1, hk1⟩
      have HZ : Hid (ViewIn q N p (stT f g i) w1 ∧ Kept (fun n => n = N) w w1) := ⟨hv1, hk1⟩
      clear h hs hv1 hk1 hsk
      go_wp2_with fail
      refine (pfd_w d _).mono ?_
      rintro e w2 ⟨rfl, hw2⟩
      subst hw2
      rw [hD]
      go_wp2_with fail
      exact bodyPost_ret (v := .tuple #[.int .i64 0, .bool false]) (by simp [results, Try.results16, go_sem]) rfl ⟨by rw [HA.out.1], by rw [HA.out.2]; exact HZ.out.1, HZ.out.2⟩
    | true =>
      have hD' : 0 ≤ d ∧ d < 6 := by simpa using hD
      obtain ⟨d1, d2⟩ := hD'
      have HF : fdR f g i d = true := by unfold fdR; rw [hR, hD]; rfl
      have HA : Hid (fdB f g i d = decide (1 ≤ dsc (prV f g i) d ∧ dsc (prV f g i) d ≤ 12) ∧ fdT f g i d = vgetT (stT f g i) (4, i)) := by constructor; (unfold fdB; rw [HF]; rfl); (unfold fdT; rw [HF]; rfl)
      have hw8 : wrap64 (8 + d) = 8 + d := by unfold wrap64; omega
      clear hR HF
      go_enter Try.func16, Try.ntmps16
      go_wp2_with fail
      refine (state_w q N p B f g i w h hs hNB).mono ?_
      rintro e w1 ⟨rfl, hv1, hk1⟩
      go_wp2_with fail
      refine (pfd_w d _).mono ?_
      rintro e w2 ⟨rfl, hw2⟩
      subst hw2
      rw [hD]
      go_wp2_with fail
      refine (pobject_w i _).mono ?_
      rintro e w4 ⟨rfl, hk4⟩
      have K4 : Kept (fun n => n = N) w w4 := hk1.trans hk4 (fun _ _ e => e.elim)
      go_wp2_with fail
      refine (vget_w q N p B f (stT f g i) 4 i w4 (hv1.still hk4) (hsk _ K4) hNB).mono ?_
      rintro e w5 ⟨rfl, hv5, hk5⟩
      rw [show vgetF f (stT f g i) (4, i) = prV f g i from get_stT _ _]
      have HZ2 : Hid (ViewIn q N p (fdT f g i d) w5 ∧ Kept (fun n => n = N) w w5) := ⟨by rw [HA.out.2]; exact hv5, K4.trans hk5 (fun _ _ e => e)⟩
      have HB : Hid (fdB f g i d = decide (1 ≤ dsc (prV f g i) d ∧ dsc (prV f g i) d ≤ 12)) := HA.out.1
      have HC : Hid (fdA f g i d = if fdB f g i d = true then dsc (prV f g i) d - 1 else 0) := rfl
      have hf := field_arr (prV f g i) w5
      have hx := index_dsc (prV f g i) d1 d2 w5
      clear hv5 hk5 hk4 K4 hv1 hk1 HA hsk h hs hD
      generalize prV f g i = y at *
      obtain ⟨z, hz⟩ : ∃ z, dsc y d = z := ⟨_, rfl⟩
      rw [hz] at hx HB HC
      clear hz
      by_cases z1 : 1 ≤ z
      · by_cases z2 : z ≤ 12
        · have HR : Hid (fdV f g i d = .tuple #[.int .i64 (z - 1), .bool true]) := by
            show _ = _
            unfold fdV; rw [HC.out, HB.out, decide_eq_true (⟨z1, z2⟩ : 1 ≤ z ∧ z ≤ 12)]; rfl
          clear HB HC
          go_wp2_with fail
          exact bodyPost_ret (v := .tuple #[.int .i64 (z - 1), .bool true]) (by simp [results, Try.results16, go_sem]) rfl ⟨by rw [HR.out], HZ2.out⟩
        · have HR : Hid (fdV f g i d = .tuple #[.int .i64 0, .bool false]) := by
            show _ = _
            unfold fdV; rw [HC.out, HB.out, decide_eq_false (by omega : ¬ (1 ≤ z ∧ z ≤ 12))]; rfl
          clear HB HC
          go_wp2_with fail
          exact bodyPost_ret (v := .tuple #[.int .i64 0, .bool false]) (by simp [results, Try.results16, go_sem]) rfl ⟨by rw [HR.out], HZ2.out⟩
      · have HR : Hid (fdV f g i d = .tuple #[.int .i64 0, .bool false]) := by
          show _ = _
          unfold fdV; rw [HC.out, HB.out, decide_eq_false (by omega : ¬ (1 ≤ z ∧ z ≤ 12))]; rfl
        clear HB HC
        go_wp2_with fail
        exact bodyPost_ret (v := .tuple #[.int .i64 0, .bool false]) (by simp [results, Try.results16, go_sem]) rfl ⟨by rw [HR.out], HZ2.out⟩

set_option maxHeartbeats 1000000 in
theorem ff_w (q N p B : Nat) (f : StF) (g : VwF) (i : Int) (w : World) (h : ViewIn q N p g w) (hs : StoreIn p B f w) (hNB : N ≠ B) : Calls Try.prog 11 #[.pointer (some ⟨q, 0, none⟩), .int .i64 i] w
    fun e w' => e = .returned (ffV f g i) ∧ ViewIn q N p (ffT f g i) w' ∧ Kept (fun n => n = N) w w' := by
  have hpN : p ≠ N := h.map.off hs.cell
  have hsk : ∀ w', Kept (fun n => n = N) w w' → StoreIn p B f w' := fun w' hk => hs.kept hk hpN (fun e => hNB e.symm)
  cases hR : isR f g i with
  | false =>
    have t0 : (stA f g i == 0) = true := by have : (stA f g i != 0) = false := hR; simpa using this
    have HB : ffB f g i = false := by unfold ffB; rw [hR]; rfl
    have HA : Hid (ffV f g i = .tuple #[.int .i64 0, .bool false] ∧ ffT f g i = stT f g i) := by constructor; (unfold ffV; rw [HB]; rfl); (unfold ffT; rw [hR]; rfl)
    clear hR HB
    go_enter Try.func11, Try.ntmps11
    go_wp2_with fail
    refine (state_w q N p B f g i w h hs hNB).mono ?_
    rintro e w1 ⟨rfl, hv1, hk1⟩
    have HZ : Hid (ViewIn q N p (stT f g i) w1 ∧ Kept (fun n => n = N) w w1) := ⟨hv1, hk1⟩
    clear h hs hv1 hk1 hsk
    go_wp2_with fail
    exact bodyPost_ret (v := .tuple #[.int .i64 0, .bool false]) (by simp [results, Try.results11, go_sem]) rfl ⟨by rw [HA.out.1], by rw [HA.out.2]; exact HZ.out.1, HZ.out.2⟩
  | true =>
    have t0 : (stA f g i == 0) = false := by have : (stA f g i != 0) = true := hR; simpa using this
    have HR : Hid (isR f g i = true) := hR
    clear hR
    go_enter Try.func11, Try.ntmps11
    go_wp2_with fail
    refine (state_w q N p B f g i w h hs hNB).mono ?_
    rintro e w1 ⟨rfl, hv1, hk1⟩
    have H0 : Hid (ViewIn q N p (ffN f g i 0) w1 ∧ Kept (fun n => n = N) w w1) := ⟨hv1, hk1⟩
    clear h hs hv1 hk1
    go_wp2_with fail
    go_loopw [6, 7, 8, 13] (fun _ _ _ v wr => ∃ j : Nat, v = .int .i64 j ∧ j ≤ 6 ∧ Hid (∀ k : Nat, k < j → fdB f g i (k : Int) = true) ∧ Hid (ViewIn q N p (ffN f g i j) wr ∧ Kept (fun n => n = N) w wr)) (fun _ _ _ v _ => 6 - (intOf v).toNat)
    case atStart => exact ⟨0, rfl, Nat.zero_le _, fun j hj => by omega, H0.out⟩
    case round =>
      obtain ⟨j, rfl, hi, HB, HV⟩ := hrel
      clear H0
      by_cases hlt : j < 6
      · have t1 : (j : Int) < 6 := by omega
        have hE : fdV f (ffN f g i j) i (j : Int) = fdV f g i (j : Int) := sees_fdV (get_ffN i j) _ _
        go_wp2_with fail
        refine (fd_w q N p B f (ffN f g i j) i j _ HV.out.1 (hsk _ HV.out.2) hNB).mono ?_
        rintro e w2 ⟨rfl, hv2, hk2⟩
        rw [hE]
        have HW : Hid (ViewIn q N p (ffN f g i (j + 1)) w2 ∧ Kept (fun n => n = N) w w2) := ⟨hv2, HV.out.2.trans hk2 (fun _ _ e => e)⟩
        clear hE hv2 hk2 HV
        obtain ⟨a, ha⟩ : ∃ a, fdA f g i (j : Int) = a := ⟨_, rfl⟩
        unfold fdV
        rw [ha]
        cases hb : fdB f g i (j : Int) with
        | false =>
          have HA : Hid (ffA f g i = (j : Int)) := ffA_at hlt HB.out hb
          have HB1 : Hid (ffB f g i = true) := by show _ = _; unfold ffB; rw [HR.out, HA.out, decide_eq_true t1]; rfl
          have HX : Hid (ffV f g i = .tuple #[.int .i64 j, .bool true]) := by
            show _ = _
            unfold ffV; rw [HB1.out, HA.out]; rfl
          have HT : Hid (ffT f g i = ffN f g i (j + 1)) := by
            show _ = _
            unfold ffT; rw [if_pos HR.out, HA.out, if_pos t1, Int.toNat_natCast]
          clear hb HB ha
          go_wp2_with fail
          exact bodyPost_ret (v := .tuple #[.int .i64 j, .bool true]) (by simp [results, Try.results11, go_sem]) rfl ⟨by rw [HX.out], by rw [HT.out]; exact HW.out.1, HW.out.2⟩
        | true =>
          have HB2 : Hid (∀ k : Nat, k < j + 1 → fdB f g i (k : Int) = true) := fun k hk => by
            by_cases e : k = j
            · rw [e]; exact hb
            · exact HB.out k (by omega)
          clear hb HB ha
          go_wp2
          go_roundw
          case rel => exact ⟨j + 1, by go_num, by omega, HB2.out, HW.out⟩
          case measure => simp [intOf]; omega
      · obtain rfl : j = 6 := by omega
        have HA : Hid (ffA f g i = 6) := ffA_none HB.out
        have HB1 : Hid (ffB f g i = false) := by show _ = _; unfold ffB; rw [HA.out]; simp
        have HX : Hid (ffV f g i = .tuple #[.int .i64 0, .bool false]) := by show _ = _; unfold ffV; rw [HB1.out]; rfl
        have HT : Hid (ffT f g i = ffN f g i 6) := by show _ = _; unfold ffT; rw [if_pos HR.out, HA.out, if_neg (by decide)]
        clear HB
        go_wp2_with fail
        exact bodyPost_ret (v := .tuple #[.int .i64 0, .bool false]) (by simp [results, Try.results11, go_sem]) rfl ⟨by rw [HX.out], by rw [HT.out]; exact HV.out.1, HV.out.2⟩
end Go.Proofs.Ytiklclmpealllaa

namespace Go.Proofs.Ytiklclmpealllaa
open Go.RowKit
set_option maxRecDepth 100000
set_option linter.unusedSimpArgs false

theorem setD_cells (x : V) {d : Int} (h : 0 ≤ d) (h' : d < 6) (a : Int) {w : World} {F : Nat} (hF : w.heap[F]? = some (.cells (vc x).toArray 56 (0, 0))) :
    ∃ z : Int, w.cell? ⟨F, (8 + d).toNat, none⟩ = some (.int .i64 z) ∧ w.frozen? ⟨F, (8 + d).toNat, none⟩ = false ∧
      (w.setCell ⟨F, (8 + d).toNat, none⟩ (.int .i64 a)).heap[F]? = some (.cells (vc (setD x d a)).toArray 56 (0, 0)) := by
  rcases below6 h h' with rfl | rfl | rfl | rfl | rfl | rfl
  · exact ⟨x.n8, cell_at hF rfl, free_at hF _, by rw [set_at hF]; rfl⟩
  · exact ⟨x.n9, cell_at hF rfl, free_at hF _, by rw [set_at hF]; rfl⟩
  · exact ⟨x.n10, cell_at hF rfl, free_at hF _, by rw [set_at hF]; rfl⟩
  · exact ⟨x.n11, cell_at hF rfl, free_at hF _, by rw [set_at hF]; rfl⟩
  · exact ⟨x.n12, cell_at hF rfl, free_at hF _, by rw [set_at hF]; rfl⟩
  · exact ⟨x.n13, cell_at hF rfl, free_at hF _, by rw [set_at hF]; rfl⟩

set_option maxHeartbeats 1000000 in
theorem sd_w (q N p B : Nat) (f : StF) (g : VwF) (i d a : Int) (w : World) (h : ViewIn q N p g w) (hs : StoreIn p B f w) (hNB : N ≠ B) : Calls Try.prog 10 #[.pointer (some ⟨q, 0, none⟩), .int .i64 i, .int .i64 d, .int .i64 a] w
    fun e w' => e = .returned (.bool (sdB f g i d a)) ∧ ViewIn q N p (sdT f g i d a) w' ∧ Kept (fun n => n = N) w w' := by
  have hN : N < w.heap.size := h.map.lt
  have hq : q < w.heap.size := lt_at h.cell
  have hpN : p ≠ N := h.map.off hs.cell
  have hsk : ∀ w', Kept (fun n => n = N) w w' → StoreIn p B f w' := fun w' hk => hs.kept hk hpN (fun e => hNB e.symm)
  cases hR : isR f g i with
  | false =>
    have t0 : (stA f g i == 0) = true := by have : (stA f g i != 0) = false := hR; simpa using this
    have HB : sdB f g i d a = false := by unfold sdB fdR; rw [hR]; rfl
    have HA : Hid (sdB f g i d a = false ∧ sdT f g i d a = stT f g i) := ⟨HB, sd_no HB⟩
    clear hR HB
    go_enter Try.func10, Try.ntmps10
    go_wp2_with fail
    refine (state_w q N p B f g i w h hs hNB).mono ?_
    rintro e w1 ⟨rfl, hv1, hk1⟩
    have HZ : Hid (ViewIn q N p (stT f g i) w1 ∧ Kept (fun n => n = N) w w1) := ⟨hv1, hk1⟩
    clear h hs hv1 hk1 hsk
    go_wp2_with fail
    exact bodyPost_ret (v := .bool false) (by simp [results, Try.results10, go_sem]) rfl ⟨by rw [HA.out.1], by rw [HA.out.2]; exact HZ.out.1, HZ.out.2⟩
  | true =>
    have t0 : (stA f g i == 0) = false := by have : (stA f g i != 0) = true := hR; simpa using this
    cases hD : decide (0 ≤ d ∧ d < 6) with
    | false =>
      have HB : sdB f g i d a = false := by unfold sdB fdR; rw [hR, hD]; rfl
      have HA : Hid (sdB f g i d a = false ∧ sdT f g i d a = stT f g i) := ⟨HB, sd_no HB⟩
      clear hR HB
      go_enter Try.func10, Try.ntmps10
      go_wp2_with fail
      refine (state_w q N p B f g i w h hs hNB).mono ?_
      rintro e w1 ⟨rfl, hv1, hk1⟩
      have HZ : Hid (ViewIn q N p (stT f g i) w1 ∧ Kept (fun n => n = N) w w1) := ⟨hv1, hk1⟩
      clear h hs hv1 hk1 hsk
      go_wp2_with fail
      refine (pfd_w d _).mono ?_
      rintro e w2 ⟨rfl, hw2⟩
      subst hw2
      rw [hD]
      go_wp2_with fail
      exact bodyPost_ret (v := .bool false) (by simp [results, Try.results10, go_sem]) rfl ⟨by rw [HA.out.1], by rw [HA.out.2]; exact HZ.out.1, HZ.out.2⟩
    | true =>
      have hD' : 0 ≤ d ∧ d < 6 := by simpa using hD
      obtain ⟨d1, d2⟩ := hD'
      by_cases h12 : a < 12
      · have HB : sdB f g i d a = true := by unfold sdB fdR; rw [hR, hD, decide_eq_true h12]; rfl
        have HT : Hid (sdB f g i d a = true ∧ sdT f g i d a = vputT (vgetT (stT f g i) (4, i)) (4, i) (setD (prV f g i) d (sdN a))) := ⟨HB, by unfold sdT; rw [if_pos HB]⟩
        have hpv : vgetF f (stT f g i) (4, i) = prV f g i := get_stT _ _
        clear hR HB
        go_enter Try.func10, Try.ntmps10
        go_wp2_with fail
        refine (state_w q N p B f g i w h hs hNB).mono ?_
        rintro e w1 ⟨rfl, hv1, hk1⟩
        clear h hs
        go_wp2_with fail
        refine (pfd_w d _).mono ?_
        rintro e w2 ⟨rfl, hw2⟩
        subst hw2
        rw [hD]
        go_wp2_with fail
        refine (pobject_w i _).mono ?_
        rintro e w2 ⟨rfl, hk2⟩
        have K2 := hk1.trans hk2 (fun _ _ e => e.elim)
        go_wp2_with fail
        refine (vget_w q N p B f (stT f g i) 4 i w2 (hv1.still hk2) (hsk _ K2) hNB).mono ?_
        rintro e w3 ⟨rfl, hv3, hk3⟩
        rw [hpv]
        clear hpv hk1 hk2 hv1
        generalize prV f g i = x at *
        have K3 : Kept (fun n => n = N) w w3 := K2.trans hk3 (fun _ _ e => e)
        clear K2 hk3 hsk
        obtain ⟨F, hF⟩ : ∃ F : Nat, w3.heap.size = F := ⟨_, rfl⟩
        have lF : w.heap.size ≤ F := by have := K3.size; omega
        obtain ⟨w4, h4⟩ : ∃ w4, w3.alloc (.cells (vc x).toArray 56) = w4 := ⟨_, rfl⟩
        have hF4 : w4.heap[F]? = some (.cells (vc x).toArray 56 (0, 0)) := by subst h4; exact alloc_at' _ hF
        have k34 : Kept (fun _ => False) w3 w4 := by subst h4; exact (Kept.refl _ _).alloc _
        have hv4 := hv3.still k34
        have K4 : Kept (fun n => n = N) w w4 := K3.trans k34 (fun _ _ e => e.elim)
        clear hv3 K3 k34
        obtain ⟨z, cz, fz, hFy⟩ := setD_cells x d1 d2 (sdN a) hF4
        obtain ⟨y, hy⟩ : ∃ y, setD x d (sdN a) = y := ⟨_, rfl⟩
        rw [hy] at hFy HT
        have hw8 : wrap64 (8 + d) = 8 + d := by unfold wrap64; omega
        obtain ⟨s, hs⟩ : ∃ s : Nat, 8 + d = s := ⟨(8 + d).toNat, by omega⟩
        rw [hs] at hw8 cz fz hFy
        rw [Int.toNat_natCast] at cz fz hFy
        have hs0 : (0 : Int) ≤ (s : Int) := by omega
        have hs2 : (s : Int) < 16 := by omega
        have k6 : Kept (fun n => n = F) w4 (w4.setCell ⟨F, s, none⟩ (.int .i64 (sdN a))) := by refine Kept.setCell (Kept.refl _ _) ?_ _; intro _; rfl
        clear hy hD
        go_wp2_with (first | (refine list_wnew rfl wide_V _ _ rfl F rfl (vc x) rfl _ rfl hF rfl (vc_one _) ?_))
        all_goals
          first
          | (refine (pone_w a _).mono ?_
             have hs1 : wrap64 (a + 1) = sdN a := by unfold sdN wrap64; split <;> omega)
          | (refine (pone_w (-1) _).mono ?_
             have hs1 : wrap64 (-1 + 1) = sdN a := by unfold sdN wrap64; split <;> omega)
          rintro e w5 ⟨rfl, hw5⟩
          subst hw5
          rw [hs1]
          clear hs1
          generalize sdN a = b at *
          go_wp2_with fail
          generalize w5.setCell ⟨F, s, none⟩ (.int .i64 b) = w6 at *
          have hv6 := hv4.kept k6 (by omega) (by omega)
          have K6 : Kept (fun n => n = N) w w6 := K4.trans k6 (fun k h1 h2 => by omega)
          clear cz fz hF4 hv4 K4 k6
          have KS : ∀ w', Kept (fun n => n = N) w6 w' → True := fun _ _ => trivial
          have KV : ∀ w', Kept (fun n => n = N) w6 w' → w'.rangeAt F 0 (vc y) := fun w' hk' => range_kept (whole_range hFy) hk' (by omega)
          refine wp_region_held_drew (S := fun w' => Kept (fun n => n = N) w6 w') (by kernel_rfl) ((Kept.refl _ _).drew) (fun hHeld => ?_)
          refine h_take 0 (some 34) (Op.move (Operand.tmp 0)) 25 ?v1 rfl rfl (by kernel_rfl) (by kernel_rfl) (by kernel_rfl) (fun _ _ _ h => h) ?hy1 hHeld ?_
          case hy1 => (intro _ _ _ w hSw; have hcs := KS _ hSw; go_simp; try with_reducible rfl)
          simp only [Act.put, List.setIfInBounds_toArray, List.set_cons_zero, List.set_cons_succ]
          refine h_take 1 (some 35) (Op.move (Operand.tmp 1)) 3 ?v2 rfl rfl (by kernel_rfl) (by kernel_rfl) (by kernel_rfl) (fun _ _ _ h => h) ?hy2 hHeld ?_
          case hy2 => (intro _ _ _ w hSw; have hcs := KS _ hSw; go_simp; try with_reducible rfl)
          simp only [Act.put, List.setIfInBounds_toArray, List.set_cons_zero, List.set_cons_succ]
          refine h_take 3 (some 37) (Op.load 56 (Operand.tmp 9)) 56 (vv y) rfl rfl (by kernel_rfl) (by kernel_rfl) (by kernel_rfl) (fun _ _ _ h => h) (fun _ _ _ w hSw => exec_load rfl (load_wide wide_V (KV w hSw) rfl)) hHeld ?_
          simp only [Act.put, List.setIfInBounds_toArray, List.set_cons_zero, List.set_cons_succ]
          refine h_step 2 (some 36) (Op.call { callee := Callee.value (Operand.func 27), args := #[Operand.tmp 35], argTypes := #[3] }) 53 rfl rfl (by kernel_rfl) (fun _ _ _ K hK => ?_)
          go_simp
          refine (pobject_w i _).mono ?_
          rintro e w7 ⟨rfl, hk7⟩
          replace hk7 : Kept (fun _ => False) w6 w7 := (Kept.refl _ w6).drew.thru hk7
          go_wp2_with fail
          refine hK.out _ _ (hk7.mono (fun _ _ e => e.elim)) (fun hHeld => ?_)
          clear hK K
          try simp only [Act.put, List.setIfInBounds_toArray, List.set_cons_zero, List.set_cons_succ]
          refine h_step 4 (some 38) (Op.call { callee := Callee.value (Operand.func 25), args := #[Operand.tmp 34, Operand.tmp 36, Operand.tmp 37], argTypes := #[25, 53, 56] }) 0 rfl rfl (by kernel_rfl) (fun _ _ _ K hK => ?_)
          go_simp
          refine (vput_w q N p _ 4 i y w7 (hv6.still hk7)).mono ?_
          rintro e w8 ⟨rfl, hv8, hk8⟩
          replace hk8 : Kept (fun n => n = N) w6 w8 := (hk7.mono (fun _ _ e => e.elim)).trans hk8 (fun _ _ e => e)
          go_wp2_with fail
          refine hK.out _ _ (hk8) (fun hHeld => ?_)
          clear hK K
          try simp only [Act.put, List.setIfInBounds_toArray, List.set_cons_zero, List.set_cons_succ]
          refine wpAnyH_done (by kernel_rfl) ?_ _
          have HZ : Hid (ViewIn q N p (sdT f g i d a) w8 ∧ Kept (fun n => n = N) w w8) := ⟨by rw [HT.out.2]; exact hv8, K6.trans hk8 (fun _ _ e => e)⟩
          clear hHeld KS KV hk7 hv6 hk8 hv8 hFy K6
          go_wp2_with fail
          exact bodyPost_ret (v := .bool true) (by simp [results, Try.results10, go_sem]) rfl ⟨by rw [HT.out.1], HZ.out⟩
      · have HB : sdB f g i d a = false := by unfold sdB; rw [decide_eq_false h12]; simp
        have HA : Hid (sdB f g i d a = false ∧ sdT f g i d a = stT f g i) := ⟨HB, sd_no HB⟩
        clear hR HB
        go_enter Try.func10, Try.ntmps10
        go_wp2_with fail
        refine (state_w q N p B f g i w h hs hNB).mono ?_
        rintro e w1 ⟨rfl, hv1, hk1⟩
        have HZ : Hid (ViewIn q N p (stT f g i) w1 ∧ Kept (fun n => n = N) w w1) := ⟨hv1, hk1⟩
        clear h hs hv1 hk1 hsk
        go_wp2_with fail
        refine (pfd_w d _).mono ?_
        rintro e w2 ⟨rfl, hw2⟩
        subst hw2
        rw [hD]
        go_wp2_with fail
        exact bodyPost_ret (v := .bool false) (by simp [results, Try.results10, go_sem]) rfl ⟨by rw [HA.out.1], by rw [HA.out.2]; exact HZ.out.1, HZ.out.2⟩
end Go.Proofs.Ytiklclmpealllaa
