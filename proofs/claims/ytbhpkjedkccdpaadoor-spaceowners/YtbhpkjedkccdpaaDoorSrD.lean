
/- Pages of the reference: Back; no conditions but lengths. -/
import Derived.Test.YtbhpkjedkccdpaaDoorSrA
import Derived.Test.YtbhpkjedkccdpaaDoorPrI
import Derived.Deep.CutBlock
namespace Go.Proofs.YtbhpkjedkccdpaaDoor
open Go.RowKit
set_option maxRecDepth 100000
set_option linter.unusedSimpArgs false

theorem back_snoc (y : Int × Int) (l : List Int) (x : Int) : backI y (l ++ [x]) = backF (backI y l) x := by unfold backI; rw [List.foldl_append]; rfl
theorem take_zd {l : List Int} {j : Nat} (h : j < l.length) : l.take (j + 1) = l.take j ++ [zd l j] := by rw [List.take_succ_eq_append_getElem h, zd_get h]
def ba1 (y : V) (x : Int) : V := { y with n0 := (backF (y.n0, y.n1) x).1, n1 := (backF (y.n0, y.n1) x).2 }
theorem ba_next (y : V) {l : List Int} {j : Nat} (h : j < l.length) : baV y (l.take (j + 1)) = ba1 (baV y (l.take j)) (zd l j) := by
  unfold baV ba1
  rw [take_zd h, back_snoc]
theorem ba1_no {y : V} {x : Int} (h : ¬ ((0 ≤ x ∧ x < 64) ∧ hasB y.n1 x = true)) : ba1 y x = y := by unfold ba1 backF; rw [if_neg h]
theorem ba1_yes {y : V} {x : Int} (h : (0 ≤ x ∧ x < 64) ∧ hasB y.n1 x = true) : ba1 y x = { y with n0 := orN y.n0 x, n1 := clrN y.n1 x } := by unfold ba1 backF; rw [if_pos h]
theorem SrcI.ways {v : Value} {l : List Int} {w : World} (h : SrcI v l w) : ∃ (ao : Option Addr) (b o c : Nat), v = .slice ao l.length c ∧ (0 < l.length → ao = some ⟨b, o, none⟩ ∧ v.ownBlock = some b) ∧ ∀ j, j < l.length → w.cell? ⟨b, o + j, none⟩ = some (.int .i64 (zd l j)) := by
  rcases h.form with ⟨b, o, c, rfl⟩ | ⟨rfl, rfl⟩
  · exact ⟨_, b, o, c, rfl, fun _ => ⟨rfl, rfl⟩, fun j hj => h.cell hj⟩
  · exact ⟨none, 0, 0, 0, rfl, fun h => by simp at h, fun j hj => by simp at hj⟩

set_option maxHeartbeats 4000000 in
theorem rback_w {q R W p B : Nat} {f : StF} {g : VwF} {w : World} (h : RBoth q R W p B f g w) (v : Value) (l : List Int) (hl : l.length ≤ 1000000) (hv : SrcI v l w) (hvb : ∀ b, v.ownBlock = some b → b < w.heap.size ∧ ¬ RW R W b) : Calls Tryd.prog 18 #[.pointer (some ⟨q, 0, none⟩), v] w
    fun e w' => e = .returned (.tuple #[]) ∧ RBoth q R W p B f (baT f g l) w' ∧ Kept (RW R W) w w' := by
  obtain ⟨lq, lR, lW, lp, lB⟩ := h.lt
  obtain ⟨ao, b, o, c, rfl, hao, hcell⟩ := hv.ways
  obtain ⟨L, hL⟩ : ∃ L : Nat, l.length = L := ⟨_, rfl⟩
  rw [hL] at hl hvb hao hcell ⊢
  have HB : Hid (∀ j, j < L → ao = some ⟨b, o, none⟩ ∧ b < w.heap.size ∧ ¬ RW R W b ∧ w.cell? ⟨b, o + j, none⟩ = some (.int .i64 (zd l j))) := fun j hj => ⟨(hao (by omega)).1, (hvb b (hao (by omega)).2).1, (hvb b (hao (by omega)).2).2, hcell j hj⟩
  have HLL : Hid (l.length = L) := hL
  clear hv hvb hao hcell hL
  obtain ⟨K0, hK0⟩ : ∃ K0 : Nat, w.heap.size = K0 := ⟨_, rfl⟩
  go_enter Tryd.func18, Tryd.ntmps18
  go_wp2_with fail
  obtain ⟨w9, h9⟩ : ∃ w9, w.alloc (.cells #[.int .i64 2, .int .i64 0] 54) = w9 := ⟨_, rfl⟩
  have k9 : Kept (fun _ => False) w w9 := by subst h9; exact (Kept.refl _ _).alloc _
  have hKy : w9.heap[K0]? = some (.cells #[.int .i64 2, .int .i64 0] 54 (0, 0)) := by subst h9; exact alloc_at' _ hK0
  have hv9 := h.still k9
  have K9 : Kept (RW R W) w w9 := k9.mono (fun _ _ e => e.elim)
  clear h k9
  try rw [h9]
  clear h9
  refine (rg_w hv9 2 0).mono ?_
  rintro e w10 ⟨rfl, hv10, hk10⟩
  have K10 : Kept (RW R W) w w10 := K9.trans hk10 (fun _ _ e => e)
  have bK10 := hk10.at hKy (by unfold RW; omega)
  clear hv9 K9 hKy hk10
  have HT : Hid (baT f g l = vputT (vgetT g (2, 0)) (2, 0) (baV (vgetF f g (2, 0)) l)) := rfl
  generalize vgetF f g (2, 0) = y at *
  obtain ⟨Y, hY⟩ : ∃ Y : Nat, w10.heap.size = Y := ⟨_, rfl⟩
  obtain ⟨w3, h3⟩ : ∃ w3, w10.alloc (.cells (vc y).toArray 51) = w3 := ⟨_, rfl⟩
  have k3 : Kept (fun _ => False) w10 w3 := by subst h3; exact (Kept.refl _ _).alloc _
  have bY3 : w3.heap[Y]? = some (.cells (vc y).toArray 51 (0, 0)) := by subst h3; exact alloc_at' _ hY
  have bK3 := k3.at bK10 (fun e => e)
  have hv3 := hv10.still k3
  have K3 : Kept (RW R W) w w3 := K10.trans k3 (fun _ _ e => e.elim)
  have lKY : K0 < Y := by have := lt_at bK10; omega
  clear k3 bK10 hv10 K10
  go_upto_region 3 with (first | (refine list_wnew rfl wide_V _ _ rfl Y rfl (vc y) rfl _ rfl hY rfl (vc_one _) ?_))
  try rw [h3]
  clear h3 hY
  have HK : Hid (RBoth q R W p B f (vgetT g (2, 0)) w3 ∧ Kept (RW R W) w w3 ∧ w3.heap[K0]? = some (.cells #[.int .i64 2, .int .i64 0] 54 (0, 0))) := ⟨hv3, K3, bK3⟩
  have H0 : Hid (Kept (fun b => b = Y) w3 w3 ∧ w3.heap[Y]? = some (.cells (vc (baV y (l.take 0))).toArray 51 (0, 0))) := ⟨Kept.refl _ _, bY3⟩
  clear bY3 hv3 K3 bK3
  go_loopw [14] (fun v wr => ∃ j : Nat, v = .int .i64 j ∧ j ≤ L ∧ Hid (Kept (fun b => b = Y) w3 wr ∧ wr.heap[Y]? = some (.cells (vc (baV y (l.take j))).toArray 51 (0, 0)))) (fun v _ => L - (intOf v).toNat)
  case atStart => exact ⟨0, rfl, by omega, H0.out⟩
  case round =>
    clear H0
    obtain ⟨j, rfl, hj, HG⟩ := hrel
    by_cases hlt : j < L
    · skip
      as_aux_lemma =>
      have t1 : (j : Int) < (L : Int) := by omega
      have HN : Hid (baV y (l.take (j + 1)) = ba1 (baV y (l.take j)) (zd l j)) := ba_next y (by have := HLL.out; omega)
      obtain ⟨hao, hb1, hb2, hcl⟩ := HB.out j hlt
      subst hao
      have lY : w.heap.size ≤ Y := by omega
      have cl : wr.cell? ⟨b, o + j, none⟩ = some (.int .i64 (zd l j)) := HG.out.1.cell (HK.out.2.1.cell hcl hb2) (by show ¬ b = Y; omega)
      generalize zd l j = x at *
      generalize baV y (l.take j) = y1 at *
      have g4 := HG.out.2
      have c1 : wr.cell? ⟨Y, 1, none⟩ = some (.int .i64 y1.n1) := cell_at g4 rfl
      have hL9 : (L : Int) ≤ 1000000 := by omega
      have HW : Hid (w.heap.size ≤ Y ∧ j < L) := ⟨lY, hlt⟩
      clear lq lR lW lp lB hK0 lKY hb1 hb2 hcl lY hlt hj hl
      by_cases x0 : 0 ≤ x
      · by_cases x1 : x < 64
        · have hb := and_one (y1.n1 / 2 ^ x.toNat)
          have x64 : x ≤ 64 := by omega
          cases hbit : hasB y1.n1 x with
          | false =>
            have hm : y1.n1 / 2 ^ x.toNat % 2 = 0 := by
              have : ¬ y1.n1 / 2 ^ x.toNat % 2 = 1 := by simpa [hasB] using hbit
              omega
            rw [hm] at hb
            have HN2 : Hid (Kept (fun b => b = Y) w3 wr ∧ wr.heap[Y]? = some (.cells (vc (baV y (l.take (j + 1)))).toArray 51 (0, 0))) := ⟨HG.out.1, by rw [HN.out, ba1_no (by rw [hbit]; simp)]; exact g4⟩
            clear HN HG g4 hbit hm
            go_wp2
            exact ⟨⟨j + 1, by go_num, by have := HW.out.2; omega, HN2⟩, by have := HW.out.2; simp [intOf]; omega⟩
          | true =>
            have hm : y1.n1 / 2 ^ x.toNat % 2 = 1 := by simpa [hasB] using hbit
            rw [hm] at hb
            have HBT : Hid (hasB y1.n1 x = true) := hbit
            clear hm hbit
            have hc := clr_w64 y1.n1 x
            have ho := or_w64 y1.n0 x
            unfold pw at hc ho
            have f1 := free_at g4 1
            have HG4 : Hid (wr.heap[Y]? = some (.cells (vc y1).toArray 51 (0, 0))) := g4
            clear g4
            go_upto_region 6 with fail
            go_cut [5] from 33 to 40 (fun v wx => v = .pointer (some ⟨Y, 0, none⟩) ∧ Hid (Kept (fun b => b = Y) wr wx ∧ wx.heap[Y]? = some (.cells (vc { y1 with n1 := clrN y1.n1 x }).toArray 51 (0, 0))))
            case first =>
              clear HG HN HK HB HT HLL HBT ho hb cl
              go_region
              all_goals
                go_wp2
                go_meet
                case rel => exact And.intro rfl (And.intro (by refine Kept.drew (Kept.setCell (Kept.refl _ _) ?_ _); intro _; rfl) (by show (wr.setCell _ _).heap[Y]? = _; rw [set_at HG4.out]; rfl))
            case rest =>
              obtain ⟨rfl, HC⟩ := hcut
              have h4 := HC.out.2
              have c0 : wc.cell? ⟨Y, 0, none⟩ = some (.int .i64 y1.n0) := cell_at h4 rfl
              have f0 := free_at h4 0
              have HG5 : Hid (wc.heap[Y]? = some (.cells (vc { y1 with n1 := clrN y1.n1 x }).toArray 51 (0, 0))) := h4
              clear h4 c1 f1 hc cl hb
              go_upto_region 7 with fail
              have HN2 : Hid (Kept (fun b => b = Y) w3 ((wc.setCell ⟨Y, 0, none⟩ (.int .i64 (orN y1.n0 x))).drew) ∧ (wc.setCell ⟨Y, 0, none⟩ (.int .i64 (orN y1.n0 x))).drew.heap[Y]? = some (.cells (vc (baV y (l.take (j + 1)))).toArray 51 (0, 0))) := by
                refine ⟨(HG.out.1.trans HC.out.1 (fun _ _ e => e)).trans (show Kept (fun b => b = Y) wc _ from Kept.drew (Kept.setCell (X := fun b => b = Y) (Kept.refl _ _) (fun _ => rfl) _)) (fun _ _ e => e), ?_⟩
                rw [HN.out, ba1_yes ⟨⟨x0, x1⟩, HBT.out⟩]
                show (wc.setCell _ _).heap[Y]? = _
                rw [set_at HG5.out]; rfl
              clear HN HG HC HG4 HG5 HBT HK HB HT HLL
              go_region
              all_goals
                generalize (wc.setCell ⟨Y, 0, none⟩ (.int .i64 (orN y1.n0 x))).drew = wz at *
                clear c0 f0 ho
                go_wp2
                exact ⟨⟨j + 1, by go_num, by have := HW.out.2; omega, HN2⟩, by have := HW.out.2; simp [intOf]; omega⟩
        · have HN2 : Hid (Kept (fun b => b = Y) w3 wr ∧ wr.heap[Y]? = some (.cells (vc (baV y (l.take (j + 1)))).toArray 51 (0, 0))) := ⟨HG.out.1, by rw [HN.out, ba1_no (fun e => x1 e.1.2)]; exact g4⟩
          clear HN HG g4
          go_wp2
          exact ⟨⟨j + 1, by go_num, by have := HW.out.2; omega, HN2⟩, by have := HW.out.2; simp [intOf]; omega⟩
      · have HN2 : Hid (Kept (fun b => b = Y) w3 wr ∧ wr.heap[Y]? = some (.cells (vc (baV y (l.take (j + 1)))).toArray 51 (0, 0))) := ⟨HG.out.1, by rw [HN.out, ba1_no (fun e => x0 e.1.1)]; exact g4⟩
        clear HN HG g4
        go_wp2
        exact ⟨⟨j + 1, by go_num, by have := HW.out.2; omega, HN2⟩, by have := HW.out.2; simp [intOf]; omega⟩
    · skip
      as_aux_lemma =>
      obtain rfl : j = L := by omega
      obtain ⟨g1, g4⟩ := HG.out
      rw [List.take_of_length_le (by have := HLL.out; omega)] at g4
      have hv : RBoth q R W p B f (vgetT g (2, 0)) wr := HK.out.1.kept g1 (by omega) (by omega) (by omega) (by omega) (by omega)
      have hKw : Kept (RW R W) w wr := HK.out.2.1.trans g1 (fun b h1 h2 => by omega)
      have hKy := g1.at HK.out.2.2 (by show ¬ K0 = Y; omega)
      have k0 := cell_at hKy (i := 0) rfl
      have k1 := cell_at hKy (i := 1) rfl
      generalize baV y l = y2 at *
      have hr := whole_range g4
      clear HG HK HB HLL hlt hj g1
      go_wp2_with (first | (refine list_wload rfl wide_V _ rfl Y 0 rfl (vc y2) hr rfl ?_))
      refine (rp_w hv 2 0 y2).mono ?_
      rintro e w11 ⟨rfl, hv11, hk11⟩
      have HZ : Hid (RBoth q R W p B f (baT f g l) w11 ∧ Kept (RW R W) w w11) := ⟨by rw [HT.out]; exact hv11, hKw.trans hk11 (fun _ _ e => e)⟩
      clear hv hKw hv11 hk11 hKy k0 k1 hr g4
      go_wp2_with fail
      go_end0
      exact ⟨rfl, HZ.out⟩
end Go.Proofs.YtbhpkjedkccdpaaDoor
