
/- The code's Free, Pages and Back; no conditions but lengths. -/
import Derived.Test.YtbhpkjedkccdpaaDoorSwB
import Derived.Test.YtbhpkjedkccdpaaDoorSgY
import Derived.Deep.CutBlock
namespace Go.Proofs.YtbhpkjedkccdpaaDoor
open Go.RowKit
set_option maxRecDepth 100000
set_option linter.unusedSimpArgs false

theorem OwnX.cap {X : Nat → Prop} {w0 w : World} {v : Value} {xs : List Int} (h : OwnX X w0 v xs w) : CapI v := fun a n c e => by
  subst e
  rcases h.own.2 with ⟨e, h0⟩ | ⟨g, cap, cur, e, hb, hg, hnc, hcm, hcs, htake⟩
  · cases e; exact Nat.le_refl _
  · cases e; exact hnc

theorem sfree_w (q N p B : Nat) (f : StF) (g : VwF) (w : World) (h : ViewIn q N p g w) (hs : StoreIn p B f w) (hNB : N ≠ B) : Calls Tryd.prog 12 #[.pointer (some ⟨q, 0, none⟩)] w
    fun e w' => e = .returned (.int .i64 (cntB (poV f g).n0 : Nat)) ∧ ViewIn q N p (vgetT g (2, 0)) w' ∧ Kept (fun n => n = N) w w' := by
  go_enter Tryd.func12, Tryd.ntmps12
  go_wp2_with fail
  refine (spool_w _).mono ?_
  rintro e w1 ⟨rfl, hk1⟩
  go_wp2_with fail
  refine (vget_w q N p B f g 2 0 w1 (h.still hk1) (hs.still hk1) hNB).mono ?_
  rintro e w2 ⟨rfl, hv2, hk2⟩
  have HZ : Hid (ViewIn q N p (vgetT g (2, 0)) w2 ∧ Kept (fun n => n = N) w w2) := ⟨hv2, (hk1.mono (fun _ _ e => e.elim)).trans hk2 (fun _ _ e => e)⟩
  have hf := field_arr (vgetF f g (2, 0)) w2
  have hx := index_n0 (vgetF f g (2, 0)) w2
  clear hv2 hk2 hk1 h hs
  have HP : Hid (poV f g = vgetF f g (2, 0)) := rfl
  generalize vgetF f g (2, 0) = x at *
  go_wp2_with fail
  clear hf hx
  refine (scount_w x.n0 _).mono ?_
  rintro e w3 ⟨rfl, hw3⟩
  subst hw3
  go_wp2
  go_ret
  exact ⟨by rw [HP.out]; rfl, HZ.out⟩

theorem spages_w (q N p B : Nat) (f : StF) (g : VwF) (i : Int) (w : World) (h : ViewIn q N p g w) (hs : StoreIn p B f w) (hNB : N ≠ B) (hx : (prV f g i).s.size ≤ 1000000) : Calls Tryd.prog 10 #[.pointer (some ⟨q, 0, none⟩), .int .i64 i] w
    fun e w' => ∃ v, e = .returned v ∧ CapI v ∧ SrcI v (pgL f g i) w' ∧ (∀ b, v.ownBlock = some b → w.heap.size ≤ b) ∧ ViewIn q N p (pgT f g i) w' ∧ Kept (fun n => n = N) w w' := by
  cases hR : isR f g i with
  | false =>
    have t0 : (stA f g i == 0) = true := by have : (stA f g i != 0) = false := hR; simpa using this
    have HA : Hid (pgT f g i = stT f g i ∧ pgL f g i = []) := ⟨by unfold pgT; rw [hR]; rfl, by unfold pgL; rw [hR]; rfl⟩
    clear hR hx
    go_enter Tryd.func10, Tryd.ntmps10
    go_wp2_with fail
    refine (state_w q N p B f g i w h hs hNB).mono ?_
    rintro e w1 ⟨rfl, hv1, hk1⟩
    have HZ : Hid (ViewIn q N p (stT f g i) w1 ∧ Kept (fun n => n = N) w w1) := ⟨hv1, hk1⟩
    clear h hs hv1 hk1
    go_wp2_with fail
    exact bodyPost_ret (v := .slice none 0 0) (by simp [results, Tryd.results10, go_sem]) rfl ⟨_, rfl, fun a n c e => (by cases e; exact Nat.le_refl _), .inr ⟨rfl, HA.out.2⟩, fun b e => (by cases e), by rw [HA.out.1]; exact HZ.out.1, HZ.out.2⟩
  | true =>
    have t0 : (stA f g i == 0) = false := by have : (stA f g i != 0) = true := hR; simpa using this
    have HA : Hid (pgT f g i = vgetT (stT f g i) (4, i) ∧ pgL f g i = (pagesN (prV f g i).s).map (fun j : Nat => (j : Int))) := ⟨by unfold pgT; rw [hR]; rfl, by unfold pgL; rw [hR]; rfl⟩
    have hpN : p ≠ N := h.map.off hs.cell
    clear hR
    go_enter Tryd.func10, Tryd.ntmps10
    go_wp2_with fail
    refine (state_w q N p B f g i w h hs hNB).mono ?_
    rintro e w1 ⟨rfl, hv1, hk1⟩
    go_wp2_with fail
    refine (spkey_w i _).mono ?_
    rintro e w2 ⟨rfl, hk2⟩
    have K2 : Kept (fun n => n = N) w w2 := hk1.trans hk2 (fun _ _ e => e.elim)
    go_wp2_with fail
    refine (vget_w q N p B f (stT f g i) 4 i w2 (hv1.still hk2) (hs.kept K2 hpN (fun e => hNB e.symm)) hNB).mono ?_
    rintro e w3 ⟨rfl, hv3, hk3⟩
    rw [show vgetF f (stT f g i) (4, i) = prV f g i from get_stT _ _]
    have K3 : Kept (fun n => n = N) w w3 := K2.trans hk3 (fun _ _ e => e)
    have HZ : Hid (ViewIn q N p (pgT f g i) w3 ∧ Kept (fun n => n = N) w w3 ∧ N < w3.heap.size) := ⟨by rw [HA.out.1]; exact hv3, K3, hv3.map.lt⟩
    have HP : Hid (pgL f g i = (pagesN (prV f g i).s).map (fun j : Nat => (j : Int))) := HA.out.2
    clear hv1 hk1 hk2 K2 hv3 hk3 K3 h hs HA
    generalize prV f g i = x at *
    have hf := field_s x w3
    go_wp2_with fail
    clear hf
    refine (pages_w x.s hx _).mono ?_
    rintro e w4 ⟨v, rfl, hO⟩
    have HV : Hid (CapI v ∧ SrcI v (pgL f g i) w4 ∧ (∀ b, v.ownBlock = some b → w.heap.size ≤ b) ∧ ViewIn q N p (pgT f g i) w4 ∧ Kept (fun n => n = N) w w4) := by
      refine ⟨hO.cap, by rw [HP.out]; exact hO.src, fun b e => ?_, HZ.out.1.still hO.kept, HZ.out.2.1.trans hO.kept (fun _ _ e => e.elim)⟩
      have := (hO.young e).1
      have := HZ.out.2.1.size
      omega
    clear hO HZ HP
    go_wp2
    exact bodyPost_ret (v := v) (by simp [results, Tryd.results10, go_sem]) rfl ⟨v, rfl, HV.out⟩

theorem spage_yes {i : Int} (w : World) (h : 0 ≤ i) (h' : i < 64) : Calls Tryd.prog 36 #[.int .i64 i] w fun e w' => e = .returned (.bool true) ∧ w' = w := by
  have := spage_w i w
  rwa [decide_eq_true ⟨h, h'⟩] at this
theorem spage_no {i : Int} (w : World) (h : ¬ (0 ≤ i ∧ i < 64)) : Calls Tryd.prog 36 #[.int .i64 i] w fun e w' => e = .returned (.bool false) ∧ w' = w := by
  have := spage_w i w
  rwa [decide_eq_false h] at this
theorem sbit_i {i : Int} (w : World) (h : 0 ≤ i) (h' : i < 64) : Calls Tryd.prog 35 #[.int .i64 i] w fun e w' => e = .returned (.int .i64 (wrap64 (pw i))) ∧ w' = w := by
  obtain ⟨k, rfl⟩ : ∃ k : Nat, i = (k : Int) := ⟨i.toNat, by omega⟩
  exact sbit_w k w (by omega)
theorem and_i64 (n : Int) {i : Int} (h : 0 ≤ i) (h' : i < 64) : (bits .and .i64 n (wrap64 (pw i)) == 0) = !hasB n i := by
  obtain ⟨k, rfl⟩ : ∃ k : Nat, i = (k : Int) := ⟨i.toNat, by omega⟩
  have := and_b64 n (i := k) (by omega)
  cases hb : hasB n (k : Int) with
  | false => simpa using this.2 hb
  | true =>
    have h1 : ¬ bits .and .i64 n (wrap64 (pw (k : Int))) = 0 := fun e => by rw [this.1 e] at hb; cases hb
    simpa using h1

set_option maxHeartbeats 2000000 in
theorem sback_w (q N p B : Nat) (f : StF) (g : VwF) (w : World) (h : ViewIn q N p g w) (hs : StoreIn p B f w) (hNB : N ≠ B) (v : Value) (l : List Int) (hl : l.length ≤ 1000000) (hv : SrcI v l w) (hvb : ∀ b, v.ownBlock = some b → b < w.heap.size ∧ b ≠ N) : Calls Tryd.prog 13 #[.pointer (some ⟨q, 0, none⟩), v] w
    fun e w' => e = .returned (.tuple #[]) ∧ ViewIn q N p (baT f g l) w' ∧ Kept (fun n => n = N) w w' := by
  have hN : N < w.heap.size := h.map.lt
  have hq : q < w.heap.size := lt_at h.cell
  obtain ⟨ao, b, o, c, rfl, hao, hcell⟩ := hv.ways
  obtain ⟨L, hL⟩ : ∃ L : Nat, l.length = L := ⟨_, rfl⟩
  rw [hL] at hl hvb hao hcell ⊢
  have HB : Hid (∀ j, j < L → ao = some ⟨b, o, none⟩ ∧ b < w.heap.size ∧ b ≠ N ∧ w.cell? ⟨b, o + j, none⟩ = some (.int .i64 (zd l j))) := fun j hj => ⟨(hao (by omega)).1, (hvb b (hao (by omega)).2).1, (hvb b (hao (by omega)).2).2, hcell j hj⟩
  have HLL : Hid (l.length = L) := hL
  clear hv hvb hao hcell hL
  go_enter Tryd.func13, Tryd.ntmps13
  go_wp2_with fail
  refine (spool_w _).mono ?_
  rintro e w1 ⟨rfl, hk1⟩
  go_wp2_with fail
  refine (vget_w q N p B f g 2 0 w1 (h.still hk1) (hs.still hk1) hNB).mono ?_
  rintro e w2 ⟨rfl, hv2, hk2⟩
  have K2 : Kept (fun n => n = N) w w2 := (hk1.mono (fun _ _ e => e.elim)).trans hk2 (fun _ _ e => e)
  have HT : Hid (baT f g l = vputT (vgetT g (2, 0)) (2, 0) (baV (vgetF f g (2, 0)) l)) := rfl
  generalize vgetF f g (2, 0) = y at *
  obtain ⟨Y, hY⟩ : ∃ Y : Nat, w2.heap.size = Y := ⟨_, rfl⟩
  have lY0 : w.heap.size ≤ Y := by have := K2.size; omega
  obtain ⟨w3, h3⟩ : ∃ w3, w2.alloc (.cells (vc y).toArray 51) = w3 := ⟨_, rfl⟩
  have k3 : Kept (fun _ => False) w2 w3 := by subst h3; exact (Kept.refl _ _).alloc _
  have bY3 : w3.heap[Y]? = some (.cells (vc y).toArray 51 (0, 0)) := by subst h3; exact alloc_at' _ hY
  have hv3 := hv2.still k3
  have K3 : Kept (fun n => n = N) w w3 := K2.trans k3 (fun _ _ e => e.elim)
  clear k3 hv2 K2 hk1 hk2 h hs
  go_upto_region 1 with (first | (refine list_wnew rfl wide_V _ _ rfl Y rfl (vc y) rfl _ rfl hY rfl (vc_one _) ?_))
  try rw [h3]
  clear h3 hY
  have HK : Hid (ViewIn q N p (vgetT g (2, 0)) w3 ∧ Kept (fun n => n = N) w w3) := ⟨hv3, K3⟩
  have H0 : Hid (Kept (fun b => b = Y) w3 w3 ∧ w3.heap[Y]? = some (.cells (vc (baV y (l.take 0))).toArray 51 (0, 0))) := ⟨Kept.refl _ _, bY3⟩
  clear bY3 hv3 K3
  go_wp2_with fail
  go_loopw [12] (fun v wr => ∃ j : Nat, v = .int .i64 j ∧ j ≤ L ∧ Hid (Kept (fun b => b = Y) w3 wr ∧ wr.heap[Y]? = some (.cells (vc (baV y (l.take j))).toArray 51 (0, 0)))) (fun v _ => L - (intOf v).toNat)
  case atStart => exact ⟨0, rfl, by omega, H0.out⟩
  case round =>
    clear H0
    obtain ⟨j, rfl, hj, HG⟩ := hrel
    by_cases hlt : j < L
    · skip
      as_aux_lemma =>
      have t1 : (j : Int) < (L : Int) := by omega
      have HN : Hid (baV y (l.take (j + 1)) = ba1 (baV y (l.take j)) (zd l j)) := ba_next y (by have := HLL.out; omega)
      obtain ⟨hao, hb1, hb2, hcl⟩ := HB.out j hlt
      subst hao
      have cl : wr.cell? ⟨b, o + j, none⟩ = some (.int .i64 (zd l j)) := HG.out.1.cell (HK.out.2.cell hcl hb2) (by show ¬ b = Y; omega)
      generalize zd l j = x at *
      generalize baV y (l.take j) = y1 at *
      have g4 := HG.out.2
      have c1 : wr.cell? ⟨Y, 1, none⟩ = some (.int .i64 y1.n1) := cell_at g4 rfl
      have hL9 : (L : Int) ≤ 1000000 := by omega
      have HW : Hid (w.heap.size ≤ Y ∧ j < L) := ⟨lY0, hlt⟩
      clear hq hN lY0 hb1 hb2 hcl hlt hj hl
      by_cases xr : 0 ≤ x ∧ x < 64
      · obtain ⟨x0, x1⟩ := xr
        have hb := and_i64 y1.n1 x0 x1
        cases hbit : hasB y1.n1 x with
        | false =>
          rw [hbit] at hb
          have hb : (bits .and .i64 y1.n1 (wrap64 (pw x)) == 0) = true := hb
          have HN2 : Hid (Kept (fun b => b = Y) w3 wr ∧ wr.heap[Y]? = some (.cells (vc (baV y (l.take (j + 1)))).toArray 51 (0, 0))) := ⟨HG.out.1, by rw [HN.out, ba1_no (by rw [hbit]; simp)]; exact g4⟩
          clear HN HG g4 hbit
          go_wp2_with fail
          go_quiet (first | exact Calls.quiet_of_same (spage_yes _ x0 x1) | exact Calls.quiet_of_same (sbit_i _ x0 x1))
          have HN3 : Hid (Kept (fun b => b = Y) w3 (wr.drewN nq) ∧ (wr.drewN nq).heap[Y]? = some (.cells (vc (baV y (l.take (j + 1)))).toArray 51 (0, 0))) := ⟨HN2.out.1.trans (kept_drewN _ _) (fun _ _ e => e.elim), (kept_drewN _ _).at HN2.out.2 (fun e => e)⟩
          clear HN2
          generalize wr.drewN nq = wz at *
          clear c1 cl
          go_wp2
          go_roundw
          case rel => exact ⟨j + 1, by go_num, by have := HW.out.2; omega, HN3⟩
          case measure => have := HW.out.2; simp [intOf]; omega
        | true =>
          rw [hbit] at hb
          have hb : (bits .and .i64 y1.n1 (wrap64 (pw x)) == 0) = false := hb
          have HBT : Hid (hasB y1.n1 x = true) := hbit
          have hc := clr_w64 y1.n1 x
          have ho := or_w64 y1.n0 x
          clear hbit
          go_wp2_with fail
          go_quiet (first | exact Calls.quiet_of_same (spage_yes _ x0 x1) | exact Calls.quiet_of_same (sbit_i _ x0 x1))
          have HG2 : Hid (Kept (fun b => b = Y) w3 (wr.drewN nq)) := HG.out.1.trans (kept_drewN _ _) (fun _ _ e => e.elim)
          have g5 := (kept_drewN wr nq).at g4 (fun e => e)
          clear HG g4 c1 cl
          generalize wr.drewN nq = wz at *
          have c1 : wz.cell? ⟨Y, 1, none⟩ = some (.int .i64 y1.n1) := cell_at g5 rfl
          have f1 := free_at g5 1
          have HG4 : Hid (wz.heap[Y]? = some (.cells (vc y1).toArray 51 (0, 0))) := g5
          clear g5
          go_upto_region 5 with fail
          go_cut [4] from 28 to 35 (fun v wx => v = .pointer (some ⟨Y, 0, none⟩) ∧ Hid (Kept (fun b => b = Y) wz wx ∧ wx.heap[Y]? = some (.cells (vc { y1 with n1 := clrN y1.n1 x }).toArray 51 (0, 0))))
          case first =>
            clear HN HK HB HT HLL HBT ho hb HG2
            go_region_with (refine (sbit_i _ x0 x1).mono ?_; rintro e w4 ⟨rfl, hw4⟩; subst hw4)
            all_goals
              go_wp2
              go_meet
              case rel => exact And.intro rfl (And.intro (by refine Kept.drew (Kept.setCell (Kept.refl _ _) ?_ _); intro _; rfl) (by show (World.setCell _ _ _).heap[Y]? = _; rw [set_at HG4.out]; rfl))
          case rest =>
            obtain ⟨rfl, HC⟩ := hcut
            have h4 := HC.out.2
            have c0 : wc.cell? ⟨Y, 0, none⟩ = some (.int .i64 y1.n0) := cell_at h4 rfl
            have f0 := free_at h4 0
            have HG5 : Hid (wc.heap[Y]? = some (.cells (vc { y1 with n1 := clrN y1.n1 x }).toArray 51 (0, 0))) := h4
            clear h4 c1 f1 hc hb
            go_upto_region 6 with fail
            have HN3 : Hid (Kept (fun b => b = Y) w3 ((wc.setCell ⟨Y, 0, none⟩ (.int .i64 (orN y1.n0 x))).drew) ∧ (wc.setCell ⟨Y, 0, none⟩ (.int .i64 (orN y1.n0 x))).drew.heap[Y]? = some (.cells (vc (baV y (l.take (j + 1)))).toArray 51 (0, 0))) := by
              refine ⟨(HG2.out.trans HC.out.1 (fun _ _ e => e)).trans (show Kept (fun b => b = Y) wc _ from Kept.drew (Kept.setCell (X := fun b => b = Y) (Kept.refl _ _) (fun _ => rfl) _)) (fun _ _ e => e), ?_⟩
              rw [HN.out, ba1_yes ⟨⟨x0, x1⟩, HBT.out⟩]
              show (wc.setCell _ _).heap[Y]? = _
              rw [set_at HG5.out]; rfl
            clear HN HG2 HC HG4 HG5 HBT HK HB HT HLL
            go_region_with (refine (sbit_i _ x0 x1).mono ?_; rintro e w4 ⟨rfl, hw4⟩; subst hw4)
            all_goals
              generalize (World.setCell _ ⟨Y, 0, none⟩ (.int .i64 (orN y1.n0 x))).drew = wz at *
              clear c0 f0 ho
              go_wp2
              go_roundw
              case rel => exact ⟨j + 1, by go_num, by have := HW.out.2; omega, HN3⟩
              case measure => have := HW.out.2; simp [intOf]; omega
      · have HN2 : Hid (Kept (fun b => b = Y) w3 wr ∧ wr.heap[Y]? = some (.cells (vc (baV y (l.take (j + 1)))).toArray 51 (0, 0))) := ⟨HG.out.1, by rw [HN.out, ba1_no (fun e => xr e.1)]; exact g4⟩
        clear HN HG g4
        go_wp2_with fail
        go_quiet (exact Calls.quiet_of_same (spage_no _ xr))
        have HN3 : Hid (Kept (fun b => b = Y) w3 (wr.drewN nq) ∧ (wr.drewN nq).heap[Y]? = some (.cells (vc (baV y (l.take (j + 1)))).toArray 51 (0, 0))) := ⟨HN2.out.1.trans (kept_drewN _ _) (fun _ _ e => e.elim), (kept_drewN _ _).at HN2.out.2 (fun e => e)⟩
        clear HN2
        generalize wr.drewN nq = wz at *
        clear c1 cl
        go_wp2
        go_roundw
        case rel => exact ⟨j + 1, by go_num, by have := HW.out.2; omega, HN3⟩
        case measure => have := HW.out.2; simp [intOf]; omega
    · skip
      as_aux_lemma =>
      obtain rfl : j = L := by omega
      obtain ⟨g1, g4⟩ := HG.out
      rw [List.take_of_length_le (by have := HLL.out; omega)] at g4
      have t1 : ¬ (j : Int) < (j : Int) := by omega
      have hvw : ViewIn q N p (vgetT g (2, 0)) wr := HK.out.1.kept g1 (by omega) (by omega)
      have hKw : Kept (fun n => n = N) w wr := HK.out.2.trans g1 (fun b h1 h2 => by omega)
      have hYN : ¬ Y = N := by omega
      generalize baV y l = y2 at *
      clear HG HK HB HLL hlt hj g1
      go_wp2_with fail
      have KS : ∀ w', Kept (fun n => n = N) wr w' → True := fun _ _ => trivial
      have KV : ∀ w', Kept (fun n => n = N) wr w' → w'.rangeAt Y 0 (vc y2) := fun w' hk' => range_kept (whole_range g4) hk' hYN
      refine wp_region_held_drew (S := fun w' => Kept (fun n => n = N) wr w') (by kernel_rfl) ((Kept.refl _ _).drew) (fun hHeld => ?_)
      refine h_take 0 (some 45) (Op.move (Operand.tmp 0)) 25 ?v1 rfl rfl (by kernel_rfl) (by kernel_rfl) (by kernel_rfl) (fun _ _ _ h => h) ?hy1 hHeld ?_
      case hy1 => (intro _ _ _ w hSw; have hcs := KS _ hSw; go_simp; try with_reducible rfl)
      simp only [Act.put, List.setIfInBounds_toArray, List.set_cons_zero, List.set_cons_succ]
      refine h_take 2 (some 47) (Op.load 51 (Operand.tmp 4)) 51 (vv y2) rfl rfl (by kernel_rfl) (by kernel_rfl) (by kernel_rfl) (fun _ _ _ h => h) (fun _ _ _ w hSw => exec_load rfl (load_wide wide_V (KV w hSw) rfl)) hHeld ?_
      simp only [Act.put, List.setIfInBounds_toArray, List.set_cons_zero, List.set_cons_succ]
      refine h_step 1 (some 46) (Op.call { callee := Callee.value (Operand.func 30), args := #[], argTypes := #[] }) 54 rfl rfl (by kernel_rfl) (fun _ _ _ K hK => ?_)
      go_simp
      refine (spool_w _).mono ?_
      rintro e w5 ⟨rfl, hk5⟩
      replace hk5 : Kept (fun _ => False) wr w5 := (Kept.refl _ wr).drew.thru hk5
      go_wp2_with fail
      refine hK.out _ _ (hk5.mono (fun _ _ e => e.elim)) (fun hHeld => ?_)
      clear hK K
      try simp only [Act.put, List.setIfInBounds_toArray, List.set_cons_zero, List.set_cons_succ]
      refine h_step 3 (some 48) (Op.call { callee := Callee.value (Operand.func 25), args := #[Operand.tmp 45, Operand.tmp 46, Operand.tmp 47], argTypes := #[25, 54, 51] }) 0 rfl rfl (by kernel_rfl) (fun _ _ _ K hK => ?_)
      go_simp
      refine (vput_w q N p (vgetT g (2, 0)) 2 0 y2 w5 (hvw.still hk5)).mono ?_
      rintro e w6 ⟨rfl, hv6, hk6⟩
      replace hk6 : Kept (fun n => n = N) wr w6 := (hk5.mono (fun _ _ e => e.elim)).trans hk6 (fun _ _ e => e)
      go_wp2_with fail
      refine hK.out _ _ (hk6) (fun hHeld => ?_)
      clear hK K
      try simp only [Act.put, List.setIfInBounds_toArray, List.set_cons_zero, List.set_cons_succ]
      refine wpAnyH_done (by kernel_rfl) ?_ _
      have HZ : Hid (ViewIn q N p (baT f g l) w6 ∧ Kept (fun n => n = N) w w6) := ⟨by rw [HT.out]; exact hv6, hKw.trans hk6 (fun _ _ e => e)⟩
      clear hHeld KS KV hk5 hvw hKw hk6 hv6 g4
      go_wp2
      go_end0
      exact ⟨rfl, HZ.out⟩
end Go.Proofs.YtbhpkjedkccdpaaDoor
