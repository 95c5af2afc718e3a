
/- Pages of the reference: Shrink; no conditions but lengths. -/
import Derived.Test.YtbhpkjedkccdpaaDoorSrA
import Derived.Test.YtbhpkjedkccdpaaDoorPrI
import Derived.Deep.CutBlock
namespace Go.Proofs.YtbhpkjedkccdpaaDoor
open Go.RowKit
set_option maxRecDepth 100000
set_option linter.unusedSimpArgs false

theorem srcI_nil (w : World) : SrcI (.slice none 0 0) [] w := .inr ⟨rfl, rfl⟩
theorem goneN_at {x : V} {n : Int} {j : Nat} (hj : left x n + j < x.s.size) : (goneN x n)[j]? = some ((x.s[left x n + j]).toNat % 64) := by
  unfold goneN pagesN
  rw [List.getElem?_drop, List.getElem?_map, bl_at x.s hj]; rfl
theorem goneN_len {x : V} {n : Int} (hn : 0 ≤ n) (h : n ≤ (x.s.size : Int)) : (goneN x n).length = n.toNat := by
  unfold goneN pagesN left
  rw [List.length_drop, List.length_map, bl_len]; omega
theorem take_next {α : Type} {l : List α} {j : Nat} {a : α} (h : l[j]? = some a) : l.take (j + 1) = l.take j ++ [a] := by
  obtain ⟨h1, h2⟩ := List.getElem?_eq_some_iff.1 h
  rw [List.take_succ_eq_append_getElem h1, h2]
theorem orAll_snoc (n : Int) (l : List Nat) (k : Nat) : orAll n (l ++ [k]) = orN (orAll n l) (k : Int) := by unfold orAll; rw [List.foldl_append]; rfl

set_option maxHeartbeats 4000000 in
theorem rshrink_w {q R W p B : Nat} {f : StF} {g : VwF} {w : World} (h : RBoth q R W p B f g w) (i n : Int) (hsx : (prV f g i).s.size ≤ 1000000) : Calls Tryd.prog 17 #[.pointer (some ⟨q, 0, none⟩), .int .i64 i, .int .i64 n] w
    fun e w' => ∃ v, e = .returned (.tuple #[v, .bool (shOk f g i n)]) ∧ SrcI v (shL f g i n) w' ∧ (∀ b, v.ownBlock = some b → w.heap.size ≤ b) ∧ RBoth q R W p B f (shT f g i n) w' ∧ Kept (RW R W) w w' := by
  obtain ⟨lq, lR, lW, lp, lB⟩ := h.lt
  cases hR : isR f g i with
  | false =>
    have t0 : (stA f g i == 0) = true := by have : (stA f g i != 0) = false := hR; simpa using this
    have HS : spIn f g i n = false := by unfold spIn; rw [hR]; rfl
    have HO : shOk f g i n = false := by unfold shOk; rw [HS]; rfl
    have HA : Hid (shOk f g i n = false ∧ shL f g i n = [] ∧ shT f g i n = stT f g i) := ⟨HO, by unfold shL; rw [HO]; rfl, by unfold shT; rw [HO, HS]; rfl⟩
    clear hR HS HO hsx
    go_enter Tryd.func17, Tryd.ntmps17
    go_wp2_with fail
    refine (rstate_w h i).mono ?_
    rintro e w1 ⟨rfl, hv1, hk1⟩
    have HZ : Hid (RBoth q R W p B f (stT f g i) w1 ∧ Kept (RW R W) w w1) := ⟨hv1, hk1⟩
    clear h hv1 hk1
    go_wp2_with fail
    exact bodyPost_ret (v := .tuple #[.slice none 0 0, .bool false]) (by simp [results, Tryd.results17, go_sem]) rfl ⟨.slice none 0 0, by rw [HA.out.1], by rw [HA.out.2.1]; exact srcI_nil _, fun b e => by simp [Value.ownBlock] at e, by rw [HA.out.2.2]; exact HZ.out.1, HZ.out.2⟩
  | true =>
    have t0 : (stA f g i == 0) = false := by have : (stA f g i != 0) = true := hR; simpa using this
    by_cases hn : 0 ≤ n
    · have HS : Hid (spIn f g i n = true) := by show _ = _; unfold spIn; rw [hR, decide_eq_true hn]; rfl
      go_enter Tryd.func17, Tryd.ntmps17
      go_wp2_with fail
      refine (rstate_w h i).mono ?_
      rintro e w1 ⟨rfl, hv1, hk1⟩
      clear h hR
      go_wp2_with fail
      refine (rpkey_w i _).mono ?_
      rintro e w2 ⟨rfl, hk2⟩
      have K2 := hk1.trans hk2 (fun _ _ e => e.elim)
      have hv2 := hv1.still hk2
      go_wp2_with fail
      refine (rg_w hv2 4 i).mono ?_
      rintro e w3 ⟨rfl, hv3, hk3⟩
      have K3 : Kept (RW R W) w w3 := K2.trans hk3 (fun _ _ e => e)
      rw [show vgetF f (stT f g i) (4, i) = prV f g i from get_stT _ _]
      clear hv1 hk1 hk2 hv2 K2 hk3
      go_wp2_with fail
      refine (rmkey_w i _).mono ?_
      rintro e w4 ⟨rfl, hk4⟩
      have K4 := K3.trans hk4 (fun _ _ e => e.elim)
      have hv4 := hv3.still hk4
      go_wp2_with fail
      refine (rg_w hv4 12 i).mono ?_
      rintro e w5 ⟨rfl, hv5, hk5⟩
      have K5 : Kept (RW R W) w w5 := K4.trans hk5 (fun _ _ e => e)
      rw [show vgetF f (vgetT (stT f g i) (4, i)) (12, i) = meV f g i from by rw [get_get, get_stT]]
      clear hv3 hk4 hv4 K3 K4 hk5
      have hv5 : RBoth q R W p B f (twoT f g i) w5 := hv5
      have HM : Hid (shOk f g i n = decide (n ≤ ((prV f g i).s.size : Int))) := by show _ = _; unfold shOk; rw [HS.out]; rfl
      have HT : Hid (shT f g i n = if shOk f g i n = true then put3 (threeT f g i) i (shP (poV f g) (goneN (prV f g i) n)) (withS (prV f g i) (bs ((bl (prV f g i).s).take (left (prV f g i) n)))) (withS (meV f g i) (bs ((bl (meV f g i).s).take (left (prV f g i) n * 16)))) else twoT f g i) := by show _ = _; unfold shT; rw [HS.out]; rfl
      have HL : Hid (shL f g i n = if shOk f g i n = true then (goneN (prV f g i) n).map (fun j : Nat => (j : Int)) else []) := rfl
      generalize prV f g i = x at *
      generalize meV f g i = m at *
      obtain ⟨X, hX⟩ : ∃ X : Nat, w5.heap.size = X := ⟨_, rfl⟩
      have lX : w.heap.size ≤ X := by have := K5.size; omega
      obtain ⟨w6, h6⟩ : ∃ w6, (w5.alloc (.cells (vc zeroV).toArray 51)).alloc (.cells (vc zeroV).toArray 51) = w6 := ⟨_, rfl⟩
      have bX : w6.heap[X]? = some (.cells (vc zeroV).toArray 51 (0, 0)) := by subst h6; exact alloc_off (alloc_at' _ hX)
      have bM : w6.heap[X + 1]? = some (.cells (vc zeroV).toArray 51 (0, 0)) := by subst h6; exact alloc_at' _ (by simp [hX])
      have k6 : Kept (fun _ => False) w5 w6 := by subst h6; exact ((Kept.refl _ _).alloc _).alloc _
      rw [zero_cells] at h6
      have k7 := kept_setRow w6 X (vc x).toArray
      have bX7 := setRow_at bX (vc x).toArray
      have bM7 := k7.at bM (by show ¬ X + 1 = X; omega)
      obtain ⟨w7, h7⟩ : ∃ w7, w6.setRow X (vc x).toArray = w7 := ⟨_, rfl⟩
      rw [h7] at k7 bX7 bM7
      have k8 := kept_setRow w7 (X + 1) (vc m).toArray
      have bM8 := setRow_at bM7 (vc m).toArray
      have bX8 := k8.at bX7 (by show ¬ X = X + 1; omega)
      obtain ⟨w8, h8⟩ : ∃ w8, w7.setRow (X + 1) (vc m).toArray = w8 := ⟨_, rfl⟩
      rw [h8] at k8 bM8 bX8
      have K8 : Kept (RW R W) w w8 := ((K5.trans k6 (fun _ _ e => e.elim)).trans k7 (fun k h1 h2 => by omega)).trans k8 (fun k h1 h2 => by omega)
      have hv8 : RBoth q R W p B f (twoT f g i) w8 := ((hv5.still k6).kept k7 (by omega) (by omega) (by omega) (by omega) (by omega)).kept k8 (by omega) (by omega) (by omega) (by omega) (by omega)
      go_upto_region 4 with (first | (refine list_wstore rfl wide_V _ _ rfl X rfl (vc x) rfl bX rfl rfl (vc_one _) ?_; rw [h7]) | (refine list_wstore rfl wide_V _ _ rfl (X + 1) rfl (vc m) rfl bM7 rfl rfl (vc_one _) ?_; rw [h8]))
      have cx : w8.cell? ⟨X, 16, none⟩ = some (.string x.s) := cell_at bX8 rfl
      clear h6 h7 h8 bX bM k6 k7 k8 bX7 bM7 K5 hX hv5
      by_cases hroom : n ≤ (x.s.size : Int)
      · skip
        as_aux_lemma =>
        have HO : Hid (shOk f g i n = true ∧ shL f g i n = (goneN x n).map (fun j : Nat => (j : Int)) ∧ shT f g i n = put3 (threeT f g i) i (shP (poV f g) (goneN x n)) (withS x (bs ((bl x.s).take (left x n)))) (withS m (bs ((bl m.s).take (left x n * 16))))) := by
          have e2 : shOk f g i n = true := by rw [HM.out]; exact decide_eq_true hroom
          exact ⟨e2, by rw [HL.out, if_pos e2], by rw [HT.out, if_pos e2]⟩
        clear HM HT HL
        have hgl := goneN_len hn hroom
        obtain ⟨N, rfl⟩ : ∃ N : Nat, n = N := ⟨n.toNat, by omega⟩
        rw [Int.toNat_natCast] at hgl
        have hlf : left x (N : Int) = x.s.size - N := by unfold left; rw [Int.toNat_natCast]
        have hNs : N ≤ x.s.size := by omega
        obtain ⟨lf, hlf2⟩ : ∃ lf, left x (N : Int) = lf := ⟨_, rfl⟩
        have hga : ∀ j (hj : lf + j < x.s.size), (goneN x (N : Int))[j]? = some ((x.s[lf + j]).toNat % 64) := by subst hlf2; exact fun j hj => goneN_at hj
        rw [hlf2] at HO hlf
        generalize goneN x (N : Int) = D at *
        have lXw : X + 1 < w8.heap.size := lt_at bM8
        obtain ⟨K0, hK0⟩ : ∃ K0 : Nat, w8.heap.size = K0 := ⟨_, rfl⟩
        go_wp2_with fail
        obtain ⟨w9, h9⟩ : ∃ w9, w8.alloc (.cells #[.int .i64 2, .int .i64 0] 54) = w9 := ⟨_, rfl⟩
        have k9 : Kept (fun _ => False) w8 w9 := by subst h9; exact (Kept.refl _ _).alloc _
        have hKy : w9.heap[K0]? = some (.cells #[.int .i64 2, .int .i64 0] 54 (0, 0)) := by subst h9; exact alloc_at' _ hK0
        have hv9 := hv8.still k9
        have K9 := K8.trans k9 (fun _ _ e => e.elim)
        have bX9 := k9.at bX8 (fun e => e)
        have bM9 := k9.at bM8 (fun e => e)
        clear hv8 K8 bX8 bM8 k9
        try rw [h9]
        clear h9
        refine (rg_w hv9 2 0).mono ?_
        rintro e w10 ⟨rfl, hv10, hk10⟩
        have K10 : Kept (RW R W) w w10 := K9.trans hk10 (fun _ _ e => e)
        rw [show vgetF f (twoT f g i) (2, 0) = poV f g from get_two _ _]
        have hv10 : RBoth q R W p B f (threeT f g i) w10 := hv10
        have bX10 := hk10.at bX9 (by unfold RW; omega)
        have bM10 := hk10.at bM9 (by unfold RW; omega)
        have bK10 := hk10.at hKy (by unfold RW; omega)
        clear hv9 K9 bX9 bM9 hKy hk10 cx
        generalize poV f g = y at *
        obtain ⟨Y, hY⟩ : ∃ Y : Nat, w10.heap.size = Y := ⟨_, rfl⟩
        obtain ⟨w3, h3⟩ : ∃ w3, w10.alloc (.cells (vc y).toArray 51) = w3 := ⟨_, rfl⟩
        have k3 : Kept (fun _ => False) w10 w3 := by subst h3; exact (Kept.refl _ _).alloc _
        have bY3 : w3.heap[Y]? = some (.cells (vc y).toArray 51 (0, 0)) := by subst h3; exact alloc_at' _ hY
        have bX3 := k3.at bX10 (fun e => e)
        have bM3 := k3.at bM10 (fun e => e)
        have bK3 := k3.at bK10 (fun e => e)
        have hv3 := hv10.still k3
        have K3 : Kept (RW R W) w w3 := K10.trans k3 (fun _ _ e => e.elim)
        have lKY : K0 < Y := by have := lt_at bK10; omega
        have lY3 : Y < w3.heap.size := lt_at bY3
        have cX3 : w3.cell? ⟨X, 16, none⟩ = some (.string x.s) := cell_at bX3 rfl
        have hlf3 : (x.s.size : Int) - (N : Int) = (lf : Int) := by omega
        have HLF : Hid (lf + N = x.s.size) := by show _ = _; omega
        have HGA : Hid (∀ j (hj : lf + j < x.s.size), D[j]? = some ((x.s[lf + j]).toNat % 64)) := hga
        have HGL : Hid (D.length = N) := hgl
        clear hlf hlf2 hga hgl
        clear k3 bX10 bM10 bK10 hv10 K10
        go_upto_region 11 with (first | (refine list_wnew rfl wide_V _ _ rfl Y rfl (vc y) rfl _ rfl hY rfl (vc_one _) ?_))
        try rw [h3]
        clear h3 hY hlf3
        have HK : Hid (RBoth q R W p B f (threeT f g i) w3 ∧ Kept (RW R W) w w3 ∧ w3.heap[K0]? = some (.cells #[.int .i64 2, .int .i64 0] 54 (0, 0)) ∧ w3.heap[X]? = some (.cells (vc x).toArray 51 (0, 0)) ∧ w3.heap[X + 1]? = some (.cells (vc m).toArray 51 (0, 0))) := ⟨hv3, K3, bK3, bX3, bM3⟩
        have H0 : Hid (OwnX (fun b => b = Y) w3 (.slice none 0 0) ((D.take 0).map (fun j : Nat => (j : Int))) w3 ∧ w3.heap[Y]? = some (.cells (vc (shP y (D.take 0))).toArray 51 (0, 0))) := ⟨OwnX.nil w3, bY3⟩
        clear bX3 bM3 bY3 hv3 K3 bK3 cX3
        go_loopw [12, 14] (fun u v wr => ∃ j : Nat, v = .int .i64 ((lf + j : Nat) : Int) ∧ j ≤ N ∧ Hid (OwnX (fun b => b = Y) w3 u ((D.take j).map (fun j : Nat => (j : Int))) wr ∧ wr.heap[Y]? = some (.cells (vc (shP y (D.take j))).toArray 51 (0, 0)))) (fun _ v _ => x.s.size - (intOf v).toNat)
        case atStart => exact ⟨0, rfl, by omega, H0.out⟩
        case round =>
          clear H0
          obtain ⟨j, rfl, hj, HG⟩ := hrel
          by_cases hlt : j < N
          · skip
            as_aux_lemma =>
            have hjx : lf + j < x.s.size := by have := HLF.out; omega
            have t1 : ((lf + j : Nat) : Int) < (x.s.size : Int) := by omega
            have hD := HGA.out j hjx
            have HT : Hid (D.take (j + 1) = D.take j ++ [(x.s[lf + j]).toNat % 64]) := take_next hD
            obtain ⟨o1, g4⟩ := HG.out
            have cx := cell_at (o1.kept.at HK.out.2.2.2.1 (by show ¬ X = Y; omega)) (i := 16) (v := .string x.s) rfl
            obtain ⟨b, hb⟩ : ∃ b : Nat, (x.s[lf + j]).toNat = b := ⟨_, rfl⟩
            have hb2 : b < 256 := by rw [← hb]; exact (x.s[lf + j]).toNat_lt
            obtain ⟨gg, hg⟩ : ∃ gg : Nat, b % 64 = gg := ⟨_, rfl⟩
            have hg64 : gg < 64 := by omega
            have hgb : ((b : Int)).tmod 64 = (gg : Int) := by rw [Int.tmod_eq_emod_of_nonneg (by omega)]; omega
            have hwb : wrap64 (b : Int) = b := by unfold wrap64; omega
            rw [hb, hg] at HT
            have HX : Hid ((lf + j : Nat) = lf + j) := rfl
            have hxe : ∀ e (he : e = lf + j) (h : e < x.s.size), (x.s[e]).toNat = b := by intro e he h; subst he; exact hb
            have he0 : (0 : Int) ≤ ((lf + j : Nat) : Int) := by omega
            obtain ⟨e, hee⟩ : ∃ e, lf + j = e := ⟨_, rfl⟩
            have hex : e < x.s.size := hee ▸ hjx
            have hxb := hxe e hee.symm hex
            rw [hee] at t1 he0 ⊢
            have HE : Hid (lf + j = e) := hee
            clear hxe hb hg hD hjx HX hee
            have HB : Hid (X < Y ∧ X + 1 < Y ∧ Y < w3.heap.size ∧ j < N ∧ gg < 64 ∧ j + 1 ≤ 1000000 ∧ e < x.s.size ∧ (e : Int) ≤ 1000000) := ⟨by omega, by omega, lY3, hlt, hg64, by omega, hex, by omega⟩
            clear lq lR lW lp lB t0 hsx lX hn hroom hNs lXw hK0 lKY lY3 hj hlt hb2 hg64 hv5 hv10 o1 g4 HS HO HGA HGL HLF
            go_upto_region 14 with fail
            clear hgb hwb t1 he0 hex hxb cx
            have g4 := HG.out.2
            obtain ⟨a, ha⟩ : ∃ a, orAll y.n1 (D.take j) = a := ⟨_, rfl⟩
            have c1 : wr.cell? ⟨Y, 1, none⟩ = some (.int .i64 a) := by rw [← ha]; exact cell_at g4 rfl
            have f1 := free_at g4 1
            have b5 := HB.out.2.2.2.2.1
            have k64 : (gg : Int) ≤ 64 := by omega
            have k00 : (0 : Int) ≤ (gg : Int) := by omega
            have hc : bits .or .i64 a (wrap64 (2 ^ gg)) = orN a (gg : Int) := by have := or_w64 a (gg : Int); unfold pw at this; rw [Int.toNat_natCast] at this; exact this
            have HNX : Hid (shP y (D.take (j + 1)) = { y with n1 := orN a (gg : Int) }) := by show _ = _; unfold shP; rw [HT.out, orAll_snoc, ha]
            have HGY : Hid (wr.heap[Y]? = some (.cells (vc (shP y (D.take j))).toArray 51 (0, 0))) := g4
            clear ha g4 b5
            go_cut [11] from 60 to 67 (fun v wx => v = .pointer (some ⟨Y, 0, none⟩) ∧ Hid (Kept (fun b => b = Y) wr wx ∧ wx.heap[Y]? = some (.cells (vc { y with n1 := orN a (gg : Int) }).toArray 51 (0, 0))))
            case first =>
              clear HG HT HE HB HNX HK
              go_region
              all_goals
                go_wp2
                go_meet
                case rel => exact And.intro rfl (And.intro (by refine Kept.drew (Kept.setCell (Kept.refl _ _) ?_ _); intro _; rfl) (by show (wr.setCell _ _).heap[Y]? = _; rw [set_at HGY.out]; rfl))
            case rest =>
              obtain ⟨rfl, HC⟩ := hcut
              have hO := HG.out.1.still HC.out.1 (fun b e => by rw [e]; exact HB.out.2.2.1)
              obtain ⟨E, hE⟩ : ∃ E : Nat, wc.heap.size = E := ⟨_, rfl⟩
              have k1 : Kept (fun _ => False) wc (wc.alloc (.cells #[.int .i64 gg] 3)) := (Kept.refl _ _).alloc _
              have HS2 : Hid _ := hO.still (k1.mono (Y := fun b => b = Y) (fun _ _ e => e.elim)) (fun b e => by rw [e]; exact HB.out.2.2.1)
              have HN2 : Hid (SrcI (.slice (some ⟨E, 0, none⟩) 1 1) [(gg : Int)] (wc.alloc (.cells #[.int .i64 gg] 3))) := SrcI.lone (alloc_at' _ hE)
              have HY2 : Hid ((wc.alloc (.cells #[.int .i64 gg] 3)).heap[Y]? = some (.cells (vc (shP y (D.take (j + 1)))).toArray 51 (0, 0)) ∧ ∀ b, u12.ownBlock = some b → w3.heap.size ≤ b) := ⟨by rw [HNX.out]; exact k1.at HC.out.2 (fun e => e), fun b e => (hO.young e).1⟩
              have hlen : (List.map (fun j : Nat => (j : Int)) (D.take j)).length + 1 ≤ 1000000 := by have := HB.out.2.2.2.2.2.1; rw [List.length_map, List.length_take]; omega
              clear c1 f1 hc HC HG HGY hO k1 k64 k00
              go_wp2_with (at_builtin; refine listI_app rfl _ _ rfl (fun b => b = Y) w3 _ [(gg : Int)] HS2.out HN2.out (by simpa using hlen) ?_; intro v w6 h6 hg6)
              have HN3 : Hid (OwnX (fun b => b = Y) w3 v ((D.take (j + 1)).map (fun j : Nat => (j : Int))) w6 ∧ w6.heap[Y]? = some (.cells (vc (shP y (D.take (j + 1)))).toArray 51 (0, 0))) := by
                refine ⟨by rw [HT.out, List.map_append]; exact h6, ?_⟩
                have k := Kept.grown (X := fun b => w3.heap.size ≤ b) (Kept.refl _ _) hg6 (fun b e _ => HY2.out.2 b e)
                exact k.at HY2.out.1 (fun e => by have := HB.out.2.2.1; omega)
              clear h6 hg6 HS2 HN2 HY2 HNX hlen hE
              have HE2 : Hid (((e : Int) + 1) = ((lf + (j + 1) : Nat) : Int) ∧ j + 1 ≤ N ∧ e < x.s.size) := ⟨by have := HE.out; omega, by have := HB.out.2.2.2.1; omega, HB.out.2.2.2.2.2.2.1⟩
              have heb := HB.out.2.2.2.2.2.2.2
              have hwe : wrap64 ((e : Int) + 1) = (e : Int) + 1 := by unfold wrap64; omega
              clear HE HB HT
              go_wp2
              try rw [hwe]
              refine ⟨⟨j + 1, congrArg (Value.int .i64) HE2.out.1, HE2.out.2.1, HN3⟩, ?_⟩
              have := HE2.out.2.2
              simp [intOf]
              omega
          · skip
            as_aux_lemma =>
            obtain rfl : j = N := by omega
            obtain ⟨o1, g4⟩ := HG.out
            rw [List.take_of_length_le (by have := HGL.out; omega)] at o1 g4
            have HV : Hid (SrcI u12 (D.map (fun j : Nat => (j : Int))) wr ∧ (∀ b, u12.ownBlock = some b → w3.heap.size ≤ b)) := ⟨o1.src, fun b e => (o1.young e).1⟩
            have lK0 : X + 1 < K0 := by omega
            have hv : RBoth q R W p B f (threeT f g i) wr := HK.out.1.kept o1.kept (by omega) (by omega) (by omega) (by omega) (by omega)
            have hKw : Kept (RW R W) w wr := HK.out.2.1.trans o1.kept (fun b h1 h2 => by omega)
            have hKy := o1.kept.at HK.out.2.2.1 (by show ¬ K0 = Y; omega)
            have bX := o1.kept.at HK.out.2.2.2.1 (by show ¬ X = Y; omega)
            have bM := o1.kept.at HK.out.2.2.2.2 (by show ¬ X + 1 = Y; omega)
            have hw3 := HK.out.2.1.size
            have hjx : ¬ ((lf + j : Nat) : Int) < (x.s.size : Int) := by have := HLF.out; omega
            have hlx : lf ≤ x.s.size := by have := HLF.out; omega
            clear HG HK o1 HGA HGL HLF hlt hj
            generalize shP y D = y2 at *
            have cX : wr.cell? ⟨X, 16, none⟩ = some (.string x.s) := cell_at bX rfl
            have fX := free_at bX 16
            obtain ⟨e, hee⟩ : ∃ e, lf + j = e := ⟨_, rfl⟩
            rw [hee] at hjx ⊢
            clear hee
            obtain ⟨sx, hsx2⟩ : ∃ sx, x.s.extract 0 lf = sx := ⟨_, rfl⟩
            have HSX : Hid (sx = bs ((bl x.s).take lf)) := by show _ = _; rw [← hsx2, extract_bs, List.drop_zero, Nat.sub_zero]
            have hlx2 : (lf : Int) ≤ (x.s.size : Int) := by omega
            have bX2 : (wr.setCell ⟨X, 16, none⟩ (.string sx)).heap[X]? = some (.cells (vc (withS x sx)).toArray 51 (0, 0)) := by rw [set_at bX]; rfl
            have kX : Kept (fun b => b = X) wr (wr.setCell ⟨X, 16, none⟩ (.string sx)) := by refine Kept.setCell (Kept.refl _ _) ?_ _; intro _; rfl
            have lf16 : (lf : Int) ≤ 1000000 := by omega
            go_upto_region 17 with fail
            generalize wr.setCell ⟨X, 16, none⟩ (.string sx) = wa at *
            have bM2 := kX.at bM (by show ¬ X + 1 = X; omega)
            have cM : wa.cell? ⟨X + 1, 16, none⟩ = some (.string m.s) := cell_at bM2 rfl
            have fM := free_at bM2 16
            obtain ⟨t, ht⟩ : ∃ t : Nat, min m.s.size (lf * 16) = t := ⟨_, rfl⟩
            have hmin : (if (lf : Int) * 16 < (m.s.size : Int) then (lf : Int) * 16 else (m.s.size : Int)) = (t : Int) := by
              split <;> omega
            have htm : t ≤ m.s.size := by omega
            obtain ⟨sm, hsm2⟩ : ∃ sm, m.s.extract 0 t = sm := ⟨_, rfl⟩
            have HSM : Hid (sm = bs ((bl m.s).take (lf * 16))) := by
              show _ = _
              rw [← hsm2, extract_bs, List.drop_zero, Nat.sub_zero, ← ht]
              congr 1
              rw [← bl_len]
              by_cases c : (bl m.s).length ≤ lf * 16
              · rw [Nat.min_eq_left c, List.take_of_length_le (Nat.le_refl _), List.take_of_length_le c]
              · rw [Nat.min_eq_right (by omega)]
            have bM3 : (wa.setCell ⟨X + 1, 16, none⟩ (.string sm)).heap[X + 1]? = some (.cells (vc (withS m sm)).toArray 51 (0, 0)) := by rw [set_at bM2]; rfl
            have kM : Kept (fun b => b = X + 1) wa (wa.setCell ⟨X + 1, 16, none⟩ (.string sm)) := by refine Kept.setCell (Kept.refl _ _) ?_ _; intro _; rfl
            have htm2 : (t : Int) ≤ (m.s.size : Int) := by omega
            have ht0 : (0 : Int) ≤ (t : Int) := by omega
            clear ht
            go_upto_region 18 with fail
            generalize wa.setCell ⟨X + 1, 16, none⟩ (.string sm) = wc at *
            clear hmin cM fM cX fX hjx hsx2 hsm2
            have HKV : Hid (Kept (fun b => b = X ∨ b = X + 1 ∨ RW R W b) wr wc) := (kX.mono (fun _ _ e => .inl e)).trans kM (fun _ _ e => .inr (.inl e))
            have hv : RBoth q R W p B f (threeT f g i) wc := (hv.kept kX (by omega) (by omega) (by omega) (by omega) (by omega)).kept kM (by omega) (by omega) (by omega) (by omega) (by omega)
            have hKw : Kept (RW R W) w wc := (hKw.trans kX (fun b h1 h2 => by omega)).trans kM (fun b h1 h2 => by omega)
            have hKy := kM.at (kX.at hKy (by show ¬ K0 = X; omega)) (by show ¬ K0 = X + 1; omega)
            have g2 := kM.at bX2 (by show ¬ X = X + 1; omega)
            have g3 := bM3
            have g4 := kM.at (kX.at g4 (by show ¬ Y = X; omega)) (by show ¬ Y = X + 1; omega)
            have HO2 : Hid (shOk f g i (j : Int) = true ∧ shL f g i (j : Int) = D.map (fun j : Nat => (j : Int)) ∧ shT f g i (j : Int) = put3 (threeT f g i) i y2 (withS x sx) (withS m sm)) := ⟨HO.out.1, HO.out.2.1, by rw [HO.out.2.2, HSX.out, HSM.out]⟩
            clear kX kM bM3 bX2 bX bM bM2 HO HSX HSM
            generalize withS x sx = x2 at *
            generalize withS m sm = m2 at *
            have k0 := cell_at hKy (i := 0) rfl
            have k1 := cell_at hKy (i := 1) rfl
            have hr := whole_range g4
            go_wp2_with (first | (refine list_wload rfl wide_V _ rfl Y 0 rfl (vc y2) hr rfl ?_))
            refine (rp_w hv 2 0 y2).mono ?_
            rintro e w11 ⟨rfl, hv11, hk11⟩
            have hK11 : Kept (RW R W) w w11 := hKw.trans hk11 (fun _ _ e => e)
            have g2' := hk11.at g2 (by unfold RW; omega)
            have g3' := hk11.at g3 (by unfold RW; omega)
            clear hv hKw hKy k0 k1 hr g2 g3 g4
            have KV : ∀ w', Kept (RW R W) w11 w' → w'.rangeAt X 0 (vc x2) := fun w' hk' => range_kept (whole_range g2') hk' (by unfold RW; omega)
            have KS : ∀ w', Kept (RW R W) w11 w' → True := fun _ _ => trivial
            go_upto_region 19 with fail
            refine wp_region_held_drew (S := fun w' => Kept (RW R W) w11 w') (by kernel_rfl) ((Kept.refl _ _).drew) (fun hHeld => ?_)
            refine h_take 0 (some 91) (Op.move (Operand.tmp 0)) 27 ?v1 rfl rfl (by kernel_rfl) (by kernel_rfl) (by kernel_rfl) (fun _ _ _ h => h) ?hy1 hHeld ?_
            case hy1 => (intro _ _ _ w hSw; have hcs := KS _ hSw; go_simp; try with_reducible rfl)
            simp only [Act.put, List.setIfInBounds_toArray, List.set_cons_zero, List.set_cons_succ]
            refine h_take 1 (some 92) (Op.move (Operand.tmp 1)) 3 ?v2 rfl rfl (by kernel_rfl) (by kernel_rfl) (by kernel_rfl) (fun _ _ _ h => h) ?hy2 hHeld ?_
            case hy2 => (intro _ _ _ w hSw; have hcs := KS _ hSw; go_simp; try with_reducible rfl)
            simp only [Act.put, List.setIfInBounds_toArray, List.set_cons_zero, List.set_cons_succ]
            refine h_take 3 (some 94) (Op.load 51 (Operand.tmp 8)) 51 (vv x2) rfl rfl (by kernel_rfl) (by kernel_rfl) (by kernel_rfl) (fun _ _ _ h => h) (fun _ _ _ w hSw => exec_load rfl (load_wide wide_V (KV w hSw) rfl)) hHeld ?_
            simp only [Act.put, List.setIfInBounds_toArray, List.set_cons_zero, List.set_cons_succ]
            refine h_step 2 (some 93) (Op.call { callee := Callee.value (Operand.func 44), args := #[Operand.tmp 92], argTypes := #[3] }) 54 rfl rfl (by kernel_rfl) (fun _ _ _ K hK => ?_)
            go_simp
            refine (rpkey_w i _).mono ?_
            rintro e w12 ⟨rfl, hk12⟩
            replace hk12 : Kept (fun _ => False) w11 w12 := (Kept.refl _ w11).drew.thru hk12
            go_wp2_with fail
            refine hK.out _ _ (hk12.mono (fun _ _ e => e.elim)) (fun hHeld => ?_)
            clear hK K
            try simp only [Act.put, List.setIfInBounds_toArray, List.set_cons_zero, List.set_cons_succ]
            refine h_step 4 (some 95) (Op.call { callee := Callee.value (Operand.func 46), args := #[Operand.tmp 91, Operand.tmp 93, Operand.tmp 94], argTypes := #[27, 54, 51] }) 0 rfl rfl (by kernel_rfl) (fun _ _ _ K hK => ?_)
            go_simp
            refine (rp_w (hv11.still hk12) 4 i x2).mono ?_
            rintro e w13 ⟨rfl, hv13, hk13⟩
            replace hk13 : Kept (RW R W) w11 w13 := (hk12.mono (fun _ _ e => e.elim)).trans hk13 (fun _ _ e => e)
            go_wp2_with fail
            refine hK.out _ _ (hk13) (fun hHeld => ?_)
            clear hK K
            try simp only [Act.put, List.setIfInBounds_toArray, List.set_cons_zero, List.set_cons_succ]
            refine wpAnyH_done (by kernel_rfl) ?_ _
            have hK13 : Kept (RW R W) w w13 := hK11.trans hk13 (fun _ _ e => e)
            have g3 := hk13.at g3' (by unfold RW; omega)
            clear hHeld KS KV hk12 hv11 hK11 g2' g3'
            have KV : ∀ w', Kept (RW R W) w13 w' → w'.rangeAt (X + 1) 0 (vc m2) := fun w' hk' => range_kept (whole_range g3) hk' (by unfold RW; omega)
            have KS : ∀ w', Kept (RW R W) w13 w' → True := fun _ _ => trivial
            go_wp2_with fail
            refine wp_region_held_drew (S := fun w' => Kept (RW R W) w13 w') (by kernel_rfl) ((Kept.refl _ _).drew) (fun hHeld => ?_)
            refine h_take 0 (some 96) (Op.move (Operand.tmp 0)) 27 ?v3 rfl rfl (by kernel_rfl) (by kernel_rfl) (by kernel_rfl) (fun _ _ _ h => h) ?hy3 hHeld ?_
            case hy3 => (intro _ _ _ w hSw; have hcs := KS _ hSw; go_simp; try with_reducible rfl)
            simp only [Act.put, List.setIfInBounds_toArray, List.set_cons_zero, List.set_cons_succ]
            refine h_take 1 (some 97) (Op.move (Operand.tmp 1)) 3 ?v4 rfl rfl (by kernel_rfl) (by kernel_rfl) (by kernel_rfl) (fun _ _ _ h => h) ?hy4 hHeld ?_
            case hy4 => (intro _ _ _ w hSw; have hcs := KS _ hSw; go_simp; try with_reducible rfl)
            simp only [Act.put, List.setIfInBounds_toArray, List.set_cons_zero, List.set_cons_succ]
            refine h_take 3 (some 99) (Op.load 51 (Operand.tmp 9)) 51 (vv m2) rfl rfl (by kernel_rfl) (by kernel_rfl) (by kernel_rfl) (fun _ _ _ h => h) (fun _ _ _ w hSw => exec_load rfl (load_wide wide_V (KV w hSw) rfl)) hHeld ?_
            simp only [Act.put, List.setIfInBounds_toArray, List.set_cons_zero, List.set_cons_succ]
            refine h_step 2 (some 98) (Op.call { callee := Callee.value (Operand.func 45), args := #[Operand.tmp 97], argTypes := #[3] }) 54 rfl rfl (by kernel_rfl) (fun _ _ _ K hK => ?_)
            go_simp
            refine (rmkey_w i _).mono ?_
            rintro e w14 ⟨rfl, hk14⟩
            replace hk14 : Kept (fun _ => False) w13 w14 := (Kept.refl _ w13).drew.thru hk14
            go_wp2_with fail
            refine hK.out _ _ (hk14.mono (fun _ _ e => e.elim)) (fun hHeld => ?_)
            clear hK K
            try simp only [Act.put, List.setIfInBounds_toArray, List.set_cons_zero, List.set_cons_succ]
            refine h_step 4 (some 100) (Op.call { callee := Callee.value (Operand.func 46), args := #[Operand.tmp 96, Operand.tmp 98, Operand.tmp 99], argTypes := #[27, 54, 51] }) 0 rfl rfl (by kernel_rfl) (fun _ _ _ K hK => ?_)
            go_simp
            refine (rp_w (hv13.still hk14) 12 i m2).mono ?_
            rintro e w15 ⟨rfl, hv15, hk15⟩
            replace hk15 : Kept (RW R W) w13 w15 := (hk14.mono (fun _ _ e => e.elim)).trans hk15 (fun _ _ e => e)
            go_wp2_with fail
            refine hK.out _ _ (hk15) (fun hHeld => ?_)
            clear hK K
            try simp only [Act.put, List.setIfInBounds_toArray, List.set_cons_zero, List.set_cons_succ]
            refine wpAnyH_done (by kernel_rfl) ?_ _
            have hK15 := hK13.trans hk15 (fun _ _ e => e)
            have HZ : Hid (RBoth q R W p B f (shT f g i (j : Int)) w15 ∧ Kept (RW R W) w w15) := ⟨by rw [HO2.out.2.2]; exact hv15, hK15⟩
            have HV2 : Hid (SrcI u12 (D.map (fun j : Nat => (j : Int))) w15) := (HV.out.1.kept (((HKV.out.trans hk11 (fun _ _ e => .inr (.inr e))).trans hk13 (fun _ _ e => .inr (.inr e))).trans hk15 (fun _ _ e => .inr (.inr e))) (fun b e x => by
              have h1 := HV.out.2 b e
              rcases x with x | x | x
              · omega
              · omega
              · unfold RW at x; omega))
            have HVB : Hid (∀ b, u12.ownBlock = some b → w.heap.size ≤ b) := fun b e => by have := HV.out.2 b e; omega
            clear hHeld KS KV hk14 hv13 hK13 hk15 g3 hv15 hK15 hk11 hk13 HV HKV
            go_wp2_with fail
            exact bodyPost_ret (v := .tuple #[u12, .bool true]) (by simp [results, Tryd.results17, go_sem]) rfl ⟨u12, by rw [HO2.out.1], by rw [HO2.out.2.1]; exact HV2.out, HVB.out, HZ.out⟩
      · skip
        as_aux_lemma =>
        have HO : Hid (shOk f g i n = false ∧ shL f g i n = [] ∧ shT f g i n = twoT f g i) := by
          have e2 : shOk f g i n = false := by rw [HM.out]; exact decide_eq_false hroom
          exact ⟨e2, by rw [HL.out, e2]; rfl, by rw [HT.out, e2]; rfl⟩
        have HZ : Hid (RBoth q R W p B f (twoT f g i) w8 ∧ Kept (RW R W) w w8) := ⟨hv8, K8⟩
        clear HM HT hv8 K8 bX8 bM8 HL
        go_wp2_with fail
        exact bodyPost_ret (v := .tuple #[.slice none 0 0, .bool false]) (by simp [results, Tryd.results17, go_sem]) rfl ⟨.slice none 0 0, by rw [HO.out.1], by rw [HO.out.2.1]; exact srcI_nil _, fun b e => by simp [Value.ownBlock] at e, by rw [HO.out.2.2]; exact HZ.out.1, HZ.out.2⟩
    · have HS : spIn f g i n = false := by unfold spIn; rw [decide_eq_false hn]; simp
      have HO : shOk f g i n = false := by unfold shOk; rw [HS]; rfl
      have HA : Hid (shOk f g i n = false ∧ shL f g i n = [] ∧ shT f g i n = stT f g i) := ⟨HO, by unfold shL; rw [HO]; rfl, by unfold shT; rw [HO, HS]; rfl⟩
      clear hR HS HO hsx
      go_enter Tryd.func17, Tryd.ntmps17
      go_wp2_with fail
      refine (rstate_w h i).mono ?_
      rintro e w1 ⟨rfl, hv1, hk1⟩
      have HZ : Hid (RBoth q R W p B f (stT f g i) w1 ∧ Kept (RW R W) w w1) := ⟨hv1, hk1⟩
      clear h hv1 hk1
      go_wp2_with fail
      exact bodyPost_ret (v := .tuple #[.slice none 0 0, .bool false]) (by simp [results, Tryd.results17, go_sem]) rfl ⟨.slice none 0 0, by rw [HA.out.1], by rw [HA.out.2.1]; exact srcI_nil _, fun b e => by simp [Value.ownBlock] at e, by rw [HA.out.2.2]; exact HZ.out.1, HZ.out.2⟩
end Go.Proofs.YtbhpkjedkccdpaaDoor
