
/- The code's Shrink; no conditions but lengths. -/
import Derived.Test.YtbhpkjedkccdpaaDoorSwD
import Derived.Deep.CutBlock
namespace Go.Proofs.YtbhpkjedkccdpaaDoor
open Go.RowKit
set_option maxRecDepth 100000
set_option linter.unusedSimpArgs false

set_option maxHeartbeats 4000000 in
theorem sshrink_w (q N p B : Nat) (f : StF) (g : VwF) (i n : Int) (w : World) (h : ViewIn q N p g w) (hs : StoreIn p B f w) (hNB : N ≠ B) (hn9 : n ≤ 9223372036854775807) (hsx : (prV f g i).s.size ≤ 1000000) : Calls Tryd.prog 11 #[.pointer (some ⟨q, 0, none⟩), .int .i64 i, .int .i64 n] w
    fun e w' => ∃ v, e = .returned (.tuple #[v, .bool (shOk f g i n)]) ∧ SrcI v (shL f g i n) w' ∧ (∀ b, v.ownBlock = some b → w.heap.size ≤ b) ∧ ViewIn q N p (shT f g i n) w' ∧ Kept (fun n => n = N) w w' := by
  have hN : N < w.heap.size := h.map.lt
  have hq : q < w.heap.size := lt_at h.cell
  have hpN : p ≠ N := h.map.off hs.cell
  have HSK : Hid (∀ w', Kept (fun n => n = N) w w' → StoreIn p B f w') := fun w' hk => hs.kept hk hpN (fun e => hNB e.symm)
  cases hR : isR f g i with
  | false =>
    have t0 : (stA f g i == 0) = true := by have : (stA f g i != 0) = false := hR; simpa using this
    have HS : spIn f g i n = false := by unfold spIn; rw [hR]; rfl
    have HO : shOk f g i n = false := by unfold shOk; rw [HS]; rfl
    have HA : Hid (shOk f g i n = false ∧ shL f g i n = [] ∧ shT f g i n = stT f g i) := ⟨HO, by unfold shL; rw [HO]; rfl, by unfold shT; rw [HO, HS]; rfl⟩
    clear hR HS HO hsx
    go_enter Tryd.func11, Tryd.ntmps11
    go_wp2_with fail
    refine (state_w q N p B f g i w h hs hNB).mono ?_
    rintro e w1 ⟨rfl, hv1, hk1⟩
    have HZ : Hid (ViewIn q N p (stT f g i) w1 ∧ Kept (fun n => n = N) w w1) := ⟨hv1, hk1⟩
    clear h hs hv1 hk1
    go_wp2_with fail
    exact bodyPost_ret (v := .tuple #[.slice none 0 0, .bool false]) (by simp [results, Tryd.results11, go_sem]) rfl ⟨.slice none 0 0, by rw [HA.out.1], by rw [HA.out.2.1]; exact srcI_nil _, fun b e => (by simp [Value.ownBlock] at e), by rw [HA.out.2.2]; exact HZ.out.1, HZ.out.2⟩
  | true =>
    have t0 : (stA f g i == 0) = false := by have : (stA f g i != 0) = true := hR; simpa using this
    by_cases hn : 0 ≤ n
    · have HS : Hid (spIn f g i n = true) := by show _ = _; unfold spIn; rw [hR, decide_eq_true hn]; rfl
      go_enter Tryd.func11, Tryd.ntmps11
      go_wp2_with fail
      refine (state_w q N p B f g i w h hs hNB).mono ?_
      rintro e w1 ⟨rfl, hv1, hk1⟩
      clear h hs hR
      go_wp2_with fail
      refine (spkey_w i _).mono ?_
      rintro e w2 ⟨rfl, hk2⟩
      have K2 := hk1.trans hk2 (fun _ _ e => e.elim)
      have hv2 := hv1.still hk2
      go_wp2_with fail
      refine (vget_w q N p B f (stT f g i) 4 i w2 hv2 (HSK.out _ K2) hNB).mono ?_
      rintro e w3 ⟨rfl, hv3, hk3⟩
      have K3 : Kept (fun n => n = N) w w3 := K2.trans hk3 (fun _ _ e => e)
      rw [show vgetF f (stT f g i) (4, i) = prV f g i from get_stT _ _]
      clear hv1 hk1 hk2 hv2 K2 hk3
      go_wp2_with fail
      refine (smkey_w i _).mono ?_
      rintro e w4 ⟨rfl, hk4⟩
      have K4 := K3.trans hk4 (fun _ _ e => e.elim)
      have hv4 := hv3.still hk4
      go_wp2_with fail
      refine (vget_w q N p B f _ 12 i w4 hv4 (HSK.out _ K4) hNB).mono ?_
      rintro e w5 ⟨rfl, hv5, hk5⟩
      have K5 : Kept (fun n => n = N) w w5 := K4.trans hk5 (fun _ _ e => e)
      rw [show vgetF f (vgetT (stT f g i) (4, i)) (12, i) = meV f g i from by rw [get_get, get_stT]]
      clear hv3 hk4 hv4 K3 K4 hk5
      have hv5 : ViewIn q N p (twoT f g i) w5 := hv5
      have HM : Hid (shOk f g i n = decide (n ≤ ((prV f g i).s.size : Int))) := by show _ = _; unfold shOk; rw [HS.out]; rfl
      have HT : Hid (shT f g i n = if shOk f g i n = true then put3 (threeT f g i) i (shP (poV f g) (goneN (prV f g i) n)) (withS (prV f g i) (bs ((bl (prV f g i).s).take (left (prV f g i) n)))) (withS (meV f g i) (bs ((bl (meV f g i).s).take (left (prV f g i) n * 16)))) else twoT f g i) := by show _ = _; unfold shT; rw [HS.out]; rfl
      have HL : Hid (shL f g i n = if shOk f g i n = true then (goneN (prV f g i) n).map (fun j : Nat => (j : Int)) else []) := rfl
      generalize prV f g i = x at *
      generalize meV f g i = m at *
      obtain ⟨X, hX⟩ : ∃ X : Nat, w5.heap.size = X := ⟨_, rfl⟩
      have lX : w.heap.size ≤ X := by have := K5.size; omega
      obtain ⟨w6, h6⟩ : ∃ w6, (w5.alloc (.cells (vc zeroV).toArray 51)).alloc (.cells (vc zeroV).toArray 51) = w6 := ⟨_, rfl⟩
      have bX : w6.heap[X]? = some (.cells (vc zeroV).toArray 51 (0, 0)) := by subst h6; exact alloc_off (alloc_at' _ hX)
      have bM : w6.heap[X + 1]? = some (.cells (vc zeroV).toArray 51 (0, 0)) := by subst h6; exact alloc_at' _ (by simp [hX])
      have k6 : Kept (fun _ => False) w5 w6 := by subst h6; exact ((Kept.refl _ _).alloc _).alloc _
      rw [zero_cells] at h6
      have k7 := kept_setRow w6 X (vc x).toArray
      have bX7 := setRow_at bX (vc x).toArray
      have bM7 := k7.at bM (by show ¬ X + 1 = X; omega)
      obtain ⟨w7, h7⟩ : ∃ w7, w6.setRow X (vc x).toArray = w7 := ⟨_, rfl⟩
      rw [h7] at k7 bX7 bM7
      have k8 := kept_setRow w7 (X + 1) (vc m).toArray
      have bM8 := setRow_at bM7 (vc m).toArray
      have bX8 := k8.at bX7 (by show ¬ X = X + 1; omega)
      obtain ⟨w8, h8⟩ : ∃ w8, w7.setRow (X + 1) (vc m).toArray = w8 := ⟨_, rfl⟩
      rw [h8] at k8 bM8 bX8
      have K8 : Kept (fun n => n = N) w w8 := ((K5.trans k6 (fun _ _ e => e.elim)).trans k7 (fun k h1 h2 => by omega)).trans k8 (fun k h1 h2 => by omega)
      have hv8 : ViewIn q N p (twoT f g i) w8 := ((hv5.still k6).kept k7 (by omega) (by omega)).kept k8 (by omega) (by omega)
      go_upto_region 4 with (first | (refine list_wstore rfl wide_V _ _ rfl X rfl (vc x) rfl bX rfl rfl (vc_one _) ?_; rw [h7]) | (refine list_wstore rfl wide_V _ _ rfl (X + 1) rfl (vc m) rfl bM7 rfl rfl (vc_one _) ?_; rw [h8]))
      have cx : w8.cell? ⟨X, 16, none⟩ = some (.string x.s) := cell_at bX8 rfl
      clear h6 h7 h8 bX bM k6 k7 k8 bX7 bM7 K5 hX hv5
      by_cases hroom : n ≤ (x.s.size : Int)
      · skip
        as_aux_lemma =>
        have HO : Hid (shOk f g i n = true ∧ shL f g i n = (goneN x n).map (fun j : Nat => (j : Int)) ∧ shT f g i n = put3 (threeT f g i) i (shP (poV f g) (goneN x n)) (withS x (bs ((bl x.s).take (left x n)))) (withS m (bs ((bl m.s).take (left x n * 16))))) := by
          have e2 : shOk f g i n = true := by rw [HM.out]; exact decide_eq_true hroom
          exact ⟨e2, by rw [HL.out, if_pos e2], by rw [HT.out, if_pos e2]⟩
        clear HM HT HL
        have hgl := goneN_len hn hroom
        obtain ⟨M, rfl⟩ : ∃ M : Nat, n = M := ⟨n.toNat, by omega⟩
        rw [Int.toNat_natCast] at hgl
        have hlf : left x (M : Int) = x.s.size - M := by unfold left; rw [Int.toNat_natCast]
        have hNs : M ≤ x.s.size := by omega
        obtain ⟨lf, hlf2⟩ : ∃ lf, left x (M : Int) = lf := ⟨_, rfl⟩
        obtain ⟨tx, htx⟩ : ∃ tx, x.s.extract lf x.s.size = tx := ⟨_, rfl⟩
        have hpg : pagesN tx = goneN x (M : Int) := by
          unfold goneN pagesN
          rw [hlf2, ← htx, bl_extract, List.take_of_length_le (by rw [List.length_drop, bl_len]; omega), List.map_drop]
        have h64 : ∀ g ∈ goneN x (M : Int), g < 64 := by
          intro g hg
          unfold goneN pagesN at hg
          obtain ⟨b, -, rfl⟩ := List.mem_map.1 (List.mem_of_mem_drop hg)
          omega
        have ltx : tx.size ≤ 1000000 := by
          have : (bl tx).length ≤ x.s.size := by rw [← htx, bl_extract, List.length_take, List.length_drop, bl_len]; omega
          rw [bl_len] at this
          omega
        rw [hlf2] at HO hlf
        have hpw := pages_w tx ltx
        rw [hpg] at hpw
        clear hpg
        generalize goneN x (M : Int) = D at *
        have lXw : X + 1 < w8.heap.size := lt_at bM8
        have hsub : (x.s.size : Int) - (M : Int) = (lf : Int) := by omega
        have lf0 : (0 : Int) ≤ (lf : Int) := by omega
        have lfx : (lf : Int) ≤ (x.s.size : Int) := by omega
        have HF : Hid (D.length = M ∧ lf + M = x.s.size ∧ (∀ g ∈ D, g < 64) ∧ M ≤ 1000000 ∧ x.s.size ≤ 1000000) := ⟨hgl, by omega, h64, by omega, by omega⟩
        have fX := free_at bX8 16
        clear hgl hlf hNs hlf2 h64 hroom ltx
        go_upto_region 8 with (refine (hpw _).mono ?_; rintro e w9 ⟨v, rfl, hO9⟩)
        have hO := hO9
        have bX9 := hO9.kept.at bX8 (fun e => e)
        have bM9 := hO9.kept.at bM8 (fun e => e)
        have hv9 := hv8.still hO9.kept
        have K9 := K8.trans hO9.kept (fun _ _ e => e.elim)
        clear hv8 K8 bX8 bM8 cx fX htx hpw hO9 hsub lf0
        go_wp2_with fail
        refine (spool_w _).mono ?_
        rintro e w10 ⟨rfl, k10⟩
        have hO10 := hO.still k10 (fun _ e => e.elim)
        have bX10 := k10.at bX9 (fun e => e)
        have bM10 := k10.at bM9 (fun e => e)
        have hv10 := hv9.still k10
        have K10 := K9.trans k10 (fun _ _ e => e.elim)
        clear hO hv9 K9 bX9 bM9 k10
        go_wp2_with fail
        refine (vget_w q N p B f _ 2 0 w10 hv10 (HSK.out _ K10) hNB).mono ?_
        rintro e w11 ⟨rfl, hv11, hk11⟩
        have K11 : Kept (fun n => n = N) w w11 := K10.trans hk11 (fun _ _ e => e)
        rw [show vgetF f (twoT f g i) (2, 0) = poV f g from get_two _ _]
        have hv11 : ViewIn q N p (threeT f g i) w11 := hv11
        have bX11 := hk11.at bX10 (by show ¬ X = N; omega)
        have bM11 := hk11.at bM10 (by show ¬ X + 1 = N; omega)
        have hN8 : N < w8.heap.size := by omega
        have hSv : SrcI v (D.map (fun j : Nat => (j : Int))) w11 := hO10.src.kept hk11 (fun b e h => by have := (hO10.young e).1; omega)
        have hyv : ∀ b, v.ownBlock = some b → w8.heap.size ≤ b ∧ b < w11.heap.size := fun b e => ⟨(hO10.young e).1, by have := (hO10.young e).2; have := hk11.size; omega⟩
        clear hv10 K10 bX10 bM10 hk11 hO10
        generalize poV f g = y at *
        obtain ⟨Y, hY⟩ : ∃ Y : Nat, w11.heap.size = Y := ⟨_, rfl⟩
        obtain ⟨w3, h3⟩ : ∃ w3, w11.alloc (.cells (vc y).toArray 51) = w3 := ⟨_, rfl⟩
        have k3 : Kept (fun _ => False) w11 w3 := by subst h3; exact (Kept.refl _ _).alloc _
        have bY3 : w3.heap[Y]? = some (.cells (vc y).toArray 51 (0, 0)) := by subst h3; exact alloc_at' _ hY
        have bX3 := k3.at bX11 (fun e => e)
        have bM3 := k3.at bM11 (fun e => e)
        have hv3 := hv11.still k3
        have K3 : Kept (fun n => n = N) w w3 := K11.trans k3 (fun _ _ e => e.elim)
        have lXY : X + 1 < Y := by have := lt_at bM11; omega
        have hSv := hSv.kept k3 (fun _ _ e => e)
        obtain ⟨ao, b, o, c, rfl, hao, hcl⟩ := hSv.ways
        obtain ⟨L, hL⟩ : ∃ L : Nat, (D.map (fun j : Nat => (j : Int))).length = L := ⟨_, rfl⟩
        have hL2 : D.length = L := by rw [← hL, List.length_map]
        rw [hL] at hao hcl hyv hSv ⊢
        have HB : Hid (∀ j (hj : j < L), ao = some ⟨b, o, none⟩ ∧ b < Y ∧ w3.cell? ⟨b, o + j, none⟩ = some (.int .i64 ((D[j]'(by omega) : Nat) : Int))) := fun j hj => by
          have h1 := hao (by omega)
          refine ⟨h1.1, by have := (hyv b h1.2).2; omega, ?_⟩
          rw [hcl j hj, zd_get (by rw [hL]; exact hj), List.getElem_map]
        have HV : Hid (SrcI (.slice ao L c) (D.map (fun j : Nat => (j : Int))) w3 ∧ (∀ b, (Value.slice ao L c).ownBlock = some b → w.heap.size ≤ b ∧ X + 1 < b ∧ b < Y)) := ⟨hSv, fun b e => by have := hyv b e; omega⟩
        clear k3 bX11 bM11 hv11 K11 hSv hyv hao hcl hL
        go_upto_region 9 with (first | (refine list_wnew rfl wide_V _ _ rfl Y rfl (vc y) rfl _ rfl hY rfl (vc_one _) ?_))
        try rw [h3]
        clear h3 hY
        have HK : Hid (ViewIn q N p (threeT f g i) w3 ∧ Kept (fun n => n = N) w w3 ∧ w3.heap[X]? = some (.cells (vc x).toArray 51 (0, 0)) ∧ w3.heap[X + 1]? = some (.cells (vc m).toArray 51 (0, 0))) := ⟨hv3, K3, bX3, bM3⟩
        have H0 : Hid (Kept (fun b => b = Y) w3 w3 ∧ w3.heap[Y]? = some (.cells (vc (shP y (D.take 0))).toArray 51 (0, 0))) := ⟨Kept.refl _ _, bY3⟩
        have HL9 : Hid (L = D.length ∧ L ≤ 1000000) := ⟨hL2.symm, by have := HF.out; omega⟩
        clear hv3 K3 bX3 bM3 bY3
        go_wp2_with fail
        go_loopw [48] (fun v wr => ∃ j : Nat, v = .int .i64 j ∧ j ≤ L ∧ Hid (Kept (fun b => b = Y) w3 wr ∧ wr.heap[Y]? = some (.cells (vc (shP y (D.take j))).toArray 51 (0, 0)))) (fun v _ => L - (intOf v).toNat)
        case atStart => exact ⟨0, rfl, by omega, H0.out⟩
        case round =>
          clear H0
          obtain ⟨j, rfl, hj, HG⟩ := hrel
          by_cases hlt : j < L
          · skip
            as_aux_lemma =>
            have t1 : (j : Int) < (L : Int) := by omega
            obtain ⟨hao, hb2, hcl⟩ := HB.out j hlt
            subst hao
            have hDl : j < D.length := by omega
            have cl : wr.cell? ⟨b, o + j, none⟩ = some (.int .i64 ((D[j] : Nat) : Int)) := HG.out.1.cell hcl (by show ¬ b = Y; omega)
            have HT2 : Hid (D.take (j + 1) = D.take j ++ [D[j]]) := List.take_succ_eq_append_getElem hDl
            have h64 : D[j] < 64 := HF.out.2.2.1 _ (List.getElem_mem hDl)
            generalize D[j] = gg at *
            have g4 := HG.out.2
            obtain ⟨a, ha⟩ : ∃ a, orAll y.n1 (D.take j) = a := ⟨_, rfl⟩
            have HNX : Hid (shP y (D.take (j + 1)) = { y with n1 := orN a (gg : Int) }) := by show _ = _; unfold shP; rw [HT2.out, orAll_snoc, ha]
            have c1 : wr.cell? ⟨Y, 1, none⟩ = some (.int .i64 a) := by rw [← ha]; exact cell_at g4 rfl
            have f1 := free_at g4 1
            have HGY : Hid (wr.heap[Y]? = some (.cells (vc (shP y (D.take j))).toArray 51 (0, 0))) := g4
            have ho := or_w64 a (gg : Int)
            have HW : Hid (j < L ∧ L ≤ 1000000 ∧ gg < 64) := ⟨hlt, HL9.out.2, h64⟩
            have hL9 : (L : Int) ≤ 1000000 := by have := HL9.out.2; omega
            have HG1 : Hid (Kept (fun b => b = Y) w3 wr) := HG.out.1
            have HNW : Hid (∀ wz, wz = (wr.setCell ⟨Y, 1, none⟩ (.int .i64 (orN a (gg : Int)))).drew → Kept (fun b => b = Y) w3 wz ∧ wz.heap[Y]? = some (.cells (vc (shP y (D.take (j + 1)))).toArray 51 (0, 0))) := by
              rintro wz rfl
              refine ⟨HG1.out.trans (show Kept (fun b => b = Y) wr _ from Kept.drew (Kept.setCell (X := fun b => b = Y) (Kept.refl _ _) (fun _ => rfl) _)) (fun _ _ e => e), ?_⟩
              rw [HNX.out]
              show (wr.setCell _ _).heap[Y]? = _
              rw [set_at HGY.out]; rfl
            clear ha g4 hb2 hcl hDl h64 HG HT2 HNX HB HV HF HK HO HSK hlt hj HG1 HGY
            go_upto_region 12 with fail
            clear cl
            go_region_with (refine (sbit_w gg _ HW.out.2.2).mono ?_; rintro e w4 ⟨rfl, hw4⟩; subst hw4)
            all_goals
              have HN2 : Hid _ := HNW.out _ rfl
              generalize (World.setCell _ ⟨Y, 1, none⟩ (.int .i64 (orN a (gg : Int)))).drew = wz at *
              clear c1 f1 ho HNW
              go_wp2
              go_roundw
              case rel => exact ⟨j + 1, by go_num, by have := HW.out.1; omega, HN2⟩
              case measure => have := HW.out.1; simp [intOf]; omega
          · skip
            as_aux_lemma =>
            obtain rfl : j = L := by omega
            obtain ⟨g1, g4⟩ := HG.out
            rw [List.take_of_length_le (by have := HL9.out.1; omega)] at g4
            have t1 : ¬ (j : Int) < (j : Int) := by omega
            have HV2 : Hid (SrcI (.slice ao j c) (D.map (fun j : Nat => (j : Int))) wr ∧ (∀ b, (Value.slice ao j c).ownBlock = some b → w.heap.size ≤ b ∧ X + 1 < b ∧ b < Y)) := ⟨HV.out.1.kept g1 (fun b e h => by have := HV.out.2 b e; omega), HV.out.2⟩
            have hvw : ViewIn q N p (threeT f g i) wr := HK.out.1.kept g1 (by omega) (by omega)
            have hKw : Kept (fun n => n = N) w wr := HK.out.2.1.trans g1 (fun b h1 h2 => by omega)
            have bX := g1.at HK.out.2.2.1 (by show ¬ X = Y; omega)
            have bM := g1.at HK.out.2.2.2 (by show ¬ X + 1 = Y; omega)
            have nX : ¬ X = N := by omega
            have nM : ¬ X + 1 = N := by omega
            have nY : ¬ Y = N := by omega
            have hxs : x.s.size ≤ 1000000 := HF.out.2.2.2.2
            clear HG HK HB HV g1 hlt hj
            generalize shP y D = y2 at *
            have cX : wr.cell? ⟨X, 16, none⟩ = some (.string x.s) := cell_at bX rfl
            have fX := free_at bX 16
            obtain ⟨sx, hsx2⟩ : ∃ sx, x.s.extract 0 lf = sx := ⟨_, rfl⟩
            have HSX : Hid (sx = bs ((bl x.s).take lf)) := by show _ = _; rw [← hsx2, extract_bs, List.drop_zero, Nat.sub_zero]
            have bX2 : (wr.setCell ⟨X, 16, none⟩ (.string sx)).heap[X]? = some (.cells (vc (withS x sx)).toArray 51 (0, 0)) := by rw [set_at bX]; rfl
            have kX : Kept (fun b => b = X) wr (wr.setCell ⟨X, 16, none⟩ (.string sx)) := by refine Kept.setCell (Kept.refl _ _) ?_ _; intro _; rfl
            have lf16 : (lf : Int) ≤ 1000000 := by omega
            have lf0 : (0 : Int) ≤ (lf : Int) := by omega
            go_upto_region 15 with fail
            generalize wr.setCell ⟨X, 16, none⟩ (.string sx) = wa at *
            have bM2 := kX.at bM (by show ¬ X + 1 = X; omega)
            have cM : wa.cell? ⟨X + 1, 16, none⟩ = some (.string m.s) := cell_at bM2 rfl
            have fM := free_at bM2 16
            obtain ⟨t, ht⟩ : ∃ t : Nat, min m.s.size (lf * 16) = t := ⟨_, rfl⟩
            have hmin : (if (lf : Int) * 16 < (m.s.size : Int) then (lf : Int) * 16 else (m.s.size : Int)) = (t : Int) := by
              split <;> omega
            have hmin2 : min (m.s.size : Int) ((lf : Int) * 16) = (t : Int) := by omega
            have htm : t ≤ m.s.size := by omega
            obtain ⟨sm, hsm2⟩ : ∃ sm, m.s.extract 0 t = sm := ⟨_, rfl⟩
            have HSM : Hid (sm = bs ((bl m.s).take (lf * 16))) := by
              show _ = _
              rw [← hsm2, extract_bs, List.drop_zero, Nat.sub_zero, ← ht]
              congr 1
              rw [← bl_len]
              by_cases c : (bl m.s).length ≤ lf * 16
              · rw [Nat.min_eq_left c, List.take_of_length_le (Nat.le_refl _), List.take_of_length_le c]
              · rw [Nat.min_eq_right (by omega)]
            have bM3 : (wa.setCell ⟨X + 1, 16, none⟩ (.string sm)).heap[X + 1]? = some (.cells (vc (withS m sm)).toArray 51 (0, 0)) := by rw [set_at bM2]; rfl
            have kM : Kept (fun b => b = X + 1) wa (wa.setCell ⟨X + 1, 16, none⟩ (.string sm)) := by refine Kept.setCell (Kept.refl _ _) ?_ _; intro _; rfl
            have htm2 : (t : Int) ≤ (m.s.size : Int) := by omega
            have ht0 : (0 : Int) ≤ (t : Int) := by omega
            clear ht
            go_upto_region 16 with fail
            generalize wa.setCell ⟨X + 1, 16, none⟩ (.string sm) = wd at *
            clear hmin hmin2 cM fM cX fX t1 hsx2 hsm2
            have HV3 : Hid (SrcI (.slice ao j c) (D.map (fun j : Nat => (j : Int))) wd) := (HV2.out.1.kept kX (fun b e h => by have := HV2.out.2 b e; omega)).kept kM (fun b e h => by have := HV2.out.2 b e; omega)
            have hvw : ViewIn q N p (threeT f g i) wd := (hvw.kept kX (by omega) (by omega)).kept kM (by omega) (by omega)
            have hKw : Kept (fun n => n = N) w wd := (hKw.trans kX (fun b h1 h2 => by omega)).trans kM (fun b h1 h2 => by omega)
            have gX := kM.at bX2 (by show ¬ X = X + 1; omega)
            have gM := bM3
            have gY := kM.at (kX.at g4 (by show ¬ Y = X; omega)) (by show ¬ Y = X + 1; omega)
            have HO2 : Hid (shOk f g i (M : Int) = true ∧ shL f g i (M : Int) = D.map (fun j : Nat => (j : Int)) ∧ shT f g i (M : Int) = put3 (threeT f g i) i y2 (withS x sx) (withS m sm)) := ⟨HO.out.1, HO.out.2.1, by rw [HO.out.2.2, HSX.out, HSM.out]⟩
            have hK0 : Hid (Kept (fun n => n = N) w wd) := hKw
            clear HO HSX HSM bX2 bM bM2 bM3 kX kM g4 bX htm htm2 ht0
            generalize withS x sx = x2 at *
            generalize withS m sm = m2 at *
            go_wp2_with fail
            have KS : ∀ w', Kept (fun n => n = N) wd w' → True := fun _ _ => trivial
            have KV : ∀ w', Kept (fun n => n = N) wd w' → w'.rangeAt Y 0 (vc y2) := fun w' hk' => range_kept (whole_range gY) hk' nY
            refine wp_region_held_drew (S := fun w' => Kept (fun n => n = N) wd w') (by kernel_rfl) ((Kept.refl _ _).drew) (fun hHeld => ?_)
            refine h_take 0 (some 76) (Op.move (Operand.tmp 0)) 25 ?v1 rfl rfl (by kernel_rfl) (by kernel_rfl) (by kernel_rfl) (fun _ _ _ h => h) ?hy1 hHeld ?_
            case hy1 => (intro _ _ _ w hSw; have hcs := KS _ hSw; go_simp; try with_reducible rfl)
            simp only [Act.put, List.setIfInBounds_toArray, List.set_cons_zero, List.set_cons_succ]
            refine h_take 2 (some 78) (Op.load 51 (Operand.tmp 12)) 51 (vv y2) rfl rfl (by kernel_rfl) (by kernel_rfl) (by kernel_rfl) (fun _ _ _ h => h) (fun _ _ _ w hSw => exec_load rfl (load_wide wide_V (KV w hSw) rfl)) hHeld ?_
            simp only [Act.put, List.setIfInBounds_toArray, List.set_cons_zero, List.set_cons_succ]
            refine h_step 1 (some 77) (Op.call { callee := Callee.value (Operand.func 30), args := #[], argTypes := #[] }) 54 rfl rfl (by kernel_rfl) (fun _ _ _ K hK => ?_)
            go_simp
            refine (spool_w _).mono ?_
            rintro e wea ⟨rfl, hka⟩
            replace hka : Kept (fun _ => False) wd wea := (Kept.refl _ wd).drew.thru hka
            go_wp2_with fail
            refine hK.out _ _ (hka.mono (fun _ _ e => e.elim)) (fun hHeld => ?_)
            clear hK K
            try simp only [Act.put, List.setIfInBounds_toArray, List.set_cons_zero, List.set_cons_succ]
            refine h_step 3 (some 79) (Op.call { callee := Callee.value (Operand.func 25), args := #[Operand.tmp 76, Operand.tmp 77, Operand.tmp 78], argTypes := #[25, 54, 51] }) 0 rfl rfl (by kernel_rfl) (fun _ _ _ K hK => ?_)
            go_simp
            refine (vput_w q N p (threeT f g i) 2 0 y2 wea (hvw.still hka)).mono ?_
            rintro e we ⟨rfl, hvo, hko⟩
            replace hko : Kept (fun n => n = N) wd we := (hka.mono (fun _ _ e => e.elim)).trans hko (fun _ _ e => e)
            go_wp2_with fail
            refine hK.out _ _ (hko) (fun hHeld => ?_)
            clear hK K
            try simp only [Act.put, List.setIfInBounds_toArray, List.set_cons_zero, List.set_cons_succ]
            refine wpAnyH_done (by kernel_rfl) ?_ _
            clear hHeld KS KV hka hvw
            have hvw := hvo
            have hKw := hKw.trans hko (fun _ _ e => e)
            have gX := hko.at gX nX
            have gM := hko.at gM nM
            have HKD : Hid (Kept (fun n => n = N) wd we) := hko
            clear hvo hko gY
            go_wp2_with fail
            have KS : ∀ w', Kept (fun n => n = N) we w' → True := fun _ _ => trivial
            have KV : ∀ w', Kept (fun n => n = N) we w' → w'.rangeAt X 0 (vc x2) := fun w' hk' => range_kept (whole_range gX) hk' nX
            refine wp_region_held_drew (S := fun w' => Kept (fun n => n = N) we w') (by kernel_rfl) ((Kept.refl _ _).drew) (fun hHeld => ?_)
            refine h_take 0 (some 80) (Op.move (Operand.tmp 0)) 25 ?v2 rfl rfl (by kernel_rfl) (by kernel_rfl) (by kernel_rfl) (fun _ _ _ h => h) ?hy2 hHeld ?_
            case hy2 => (intro _ _ _ w hSw; have hcs := KS _ hSw; go_simp; try with_reducible rfl)
            simp only [Act.put, List.setIfInBounds_toArray, List.set_cons_zero, List.set_cons_succ]
            refine h_take 1 (some 81) (Op.move (Operand.tmp 1)) 3 ?v3 rfl rfl (by kernel_rfl) (by kernel_rfl) (by kernel_rfl) (fun _ _ _ h => h) ?hy3 hHeld ?_
            case hy3 => (intro _ _ _ w hSw; have hcs := KS _ hSw; go_simp; try with_reducible rfl)
            simp only [Act.put, List.setIfInBounds_toArray, List.set_cons_zero, List.set_cons_succ]
            refine h_take 3 (some 83) (Op.load 51 (Operand.tmp 8)) 51 (vv x2) rfl rfl (by kernel_rfl) (by kernel_rfl) (by kernel_rfl) (fun _ _ _ h => h) (fun _ _ _ w hSw => exec_load rfl (load_wide wide_V (KV w hSw) rfl)) hHeld ?_
            simp only [Act.put, List.setIfInBounds_toArray, List.set_cons_zero, List.set_cons_succ]
            refine h_step 2 (some 82) (Op.call { callee := Callee.value (Operand.func 28), args := #[Operand.tmp 81], argTypes := #[3] }) 54 rfl rfl (by kernel_rfl) (fun _ _ _ K hK => ?_)
            go_simp
            refine (spkey_w i _).mono ?_
            rintro e wfa ⟨rfl, hka⟩
            replace hka : Kept (fun _ => False) we wfa := (Kept.refl _ we).drew.thru hka
            go_wp2_with fail
            refine hK.out _ _ (hka.mono (fun _ _ e => e.elim)) (fun hHeld => ?_)
            clear hK K
            try simp only [Act.put, List.setIfInBounds_toArray, List.set_cons_zero, List.set_cons_succ]
            refine h_step 4 (some 84) (Op.call { callee := Callee.value (Operand.func 25), args := #[Operand.tmp 80, Operand.tmp 82, Operand.tmp 83], argTypes := #[25, 54, 51] }) 0 rfl rfl (by kernel_rfl) (fun _ _ _ K hK => ?_)
            go_simp
            refine (vput_w q N p _ 4 i x2 wfa (hvw.still hka)).mono ?_
            rintro e wf ⟨rfl, hvo, hko⟩
            replace hko : Kept (fun n => n = N) we wf := (hka.mono (fun _ _ e => e.elim)).trans hko (fun _ _ e => e)
            go_wp2_with fail
            refine hK.out _ _ (hko) (fun hHeld => ?_)
            clear hK K
            try simp only [Act.put, List.setIfInBounds_toArray, List.set_cons_zero, List.set_cons_succ]
            refine wpAnyH_done (by kernel_rfl) ?_ _
            clear hHeld KS KV hka hvw
            have hvw := hvo
            have hKw := hKw.trans hko (fun _ _ e => e)
            have gM := hko.at gM nM
            have HKD : Hid (Kept (fun n => n = N) wd wf) := HKD.out.trans hko (fun _ _ e => e)
            clear hvo hko gX
            go_wp2_with fail
            have KS : ∀ w', Kept (fun n => n = N) wf w' → True := fun _ _ => trivial
            have KV : ∀ w', Kept (fun n => n = N) wf w' → w'.rangeAt (X + 1) 0 (vc m2) := fun w' hk' => range_kept (whole_range gM) hk' nM
            refine wp_region_held_drew (S := fun w' => Kept (fun n => n = N) wf w') (by kernel_rfl) ((Kept.refl _ _).drew) (fun hHeld => ?_)
            refine h_take 0 (some 85) (Op.move (Operand.tmp 0)) 25 ?v4 rfl rfl (by kernel_rfl) (by kernel_rfl) (by kernel_rfl) (fun _ _ _ h => h) ?hy4 hHeld ?_
            case hy4 => (intro _ _ _ w hSw; have hcs := KS _ hSw; go_simp; try with_reducible rfl)
            simp only [Act.put, List.setIfInBounds_toArray, List.set_cons_zero, List.set_cons_succ]
            refine h_take 1 (some 86) (Op.move (Operand.tmp 1)) 3 ?v5 rfl rfl (by kernel_rfl) (by kernel_rfl) (by kernel_rfl) (fun _ _ _ h => h) ?hy5 hHeld ?_
            case hy5 => (intro _ _ _ w hSw; have hcs := KS _ hSw; go_simp; try with_reducible rfl)
            simp only [Act.put, List.setIfInBounds_toArray, List.set_cons_zero, List.set_cons_succ]
            refine h_take 3 (some 88) (Op.load 51 (Operand.tmp 9)) 51 (vv m2) rfl rfl (by kernel_rfl) (by kernel_rfl) (by kernel_rfl) (fun _ _ _ h => h) (fun _ _ _ w hSw => exec_load rfl (load_wide wide_V (KV w hSw) rfl)) hHeld ?_
            simp only [Act.put, List.setIfInBounds_toArray, List.set_cons_zero, List.set_cons_succ]
            refine h_step 2 (some 87) (Op.call { callee := Callee.value (Operand.func 29), args := #[Operand.tmp 86], argTypes := #[3] }) 54 rfl rfl (by kernel_rfl) (fun _ _ _ K hK => ?_)
            go_simp
            refine (smkey_w i _).mono ?_
            rintro e wga ⟨rfl, hka⟩
            replace hka : Kept (fun _ => False) wf wga := (Kept.refl _ wf).drew.thru hka
            go_wp2_with fail
            refine hK.out _ _ (hka.mono (fun _ _ e => e.elim)) (fun hHeld => ?_)
            clear hK K
            try simp only [Act.put, List.setIfInBounds_toArray, List.set_cons_zero, List.set_cons_succ]
            refine h_step 4 (some 89) (Op.call { callee := Callee.value (Operand.func 25), args := #[Operand.tmp 85, Operand.tmp 87, Operand.tmp 88], argTypes := #[25, 54, 51] }) 0 rfl rfl (by kernel_rfl) (fun _ _ _ K hK => ?_)
            go_simp
            refine (vput_w q N p _ 12 i m2 wga (hvw.still hka)).mono ?_
            rintro e wg ⟨rfl, hvo, hko⟩
            replace hko : Kept (fun n => n = N) wf wg := (hka.mono (fun _ _ e => e.elim)).trans hko (fun _ _ e => e)
            go_wp2_with fail
            refine hK.out _ _ (hko) (fun hHeld => ?_)
            clear hK K
            try simp only [Act.put, List.setIfInBounds_toArray, List.set_cons_zero, List.set_cons_succ]
            refine wpAnyH_done (by kernel_rfl) ?_ _
            clear hHeld KS KV hka hvw
            have hvw := hvo
            have hKw := hKw.trans hko (fun _ _ e => e)
            have HKD : Hid (Kept (fun n => n = N) wd wg) := HKD.out.trans hko (fun _ _ e => e)
            have HZ : Hid (SrcI (.slice ao j c) (shL f g i (M : Int)) wg ∧ (∀ b, (Value.slice ao j c).ownBlock = some b → w.heap.size ≤ b) ∧ ViewIn q N p (shT f g i (M : Int)) wg ∧ Kept (fun n => n = N) w wg) := by
              refine ⟨?_, fun b e => (HV2.out.2 b e).1, by rw [HO2.out.2.2]; exact hvw, hKw⟩
              rw [HO2.out.2.1]
              exact HV3.out.kept HKD.out (fun b e h => by have := HV2.out.2 b e; omega)
            have HO3 : Hid (shOk f g i (M : Int) = true) := HO2.out.1
            clear hvo hko gM hvw hKw HO2 HV2 HV3
            go_wp2
            exact bodyPost_ret (v := .tuple #[.slice ao j c, .bool true]) (by simp [results, Tryd.results11, go_sem]) rfl ⟨.slice ao j c, by rw [HO3.out], HZ.out.1, HZ.out.2.1, HZ.out.2.2.1, HZ.out.2.2.2⟩
      · skip
        as_aux_lemma =>
        have HO : Hid (shOk f g i n = false ∧ shL f g i n = [] ∧ shT f g i n = twoT f g i) := by
          have e2 : shOk f g i n = false := by rw [HM.out]; exact decide_eq_false hroom
          exact ⟨e2, by rw [HL.out, e2]; rfl, by rw [HT.out, e2]; rfl⟩
        have HZ : Hid (ViewIn q N p (twoT f g i) w8 ∧ Kept (fun n => n = N) w w8) := ⟨hv8, K8⟩
        clear HM HT hv8 K8 bX8 bM8 HL
        go_wp2_with fail
        exact bodyPost_ret (v := .tuple #[.slice none 0 0, .bool false]) (by simp [results, Tryd.results11, go_sem]) rfl ⟨.slice none 0 0, by rw [HO.out.1], by rw [HO.out.2.1]; exact srcI_nil _, fun b e => by simp [Value.ownBlock] at e, by rw [HO.out.2.2]; exact HZ.out.1, HZ.out.2⟩
    · have HS : spIn f g i n = false := by unfold spIn; rw [decide_eq_false hn]; simp
      have HO : shOk f g i n = false := by unfold shOk; rw [HS]; rfl
      have HA : Hid (shOk f g i n = false ∧ shL f g i n = [] ∧ shT f g i n = stT f g i) := ⟨HO, by unfold shL; rw [HO]; rfl, by unfold shT; rw [HO, HS]; rfl⟩
      clear hR HS HO hsx
      go_enter Tryd.func11, Tryd.ntmps11
      go_wp2_with fail
      refine (state_w q N p B f g i w h hs hNB).mono ?_
      rintro e w1 ⟨rfl, hv1, hk1⟩
      have HZ : Hid (ViewIn q N p (stT f g i) w1 ∧ Kept (fun n => n = N) w w1) := ⟨hv1, hk1⟩
      clear h hs hv1 hk1
      go_wp2_with fail
      exact bodyPost_ret (v := .tuple #[.slice none 0 0, .bool false]) (by simp [results, Tryd.results11, go_sem]) rfl ⟨.slice none 0 0, by rw [HA.out.1], by rw [HA.out.2.1]; exact srcI_nil _, fun b e => (by simp [Value.ownBlock] at e), by rw [HA.out.2.2]; exact HZ.out.1, HZ.out.2⟩
end Go.Proofs.YtbhpkjedkccdpaaDoor
