
/- What the reference's pipes do when they are called: Ends; no conditions. -/
import Derived.Test.YtdjdnjngelahjaaPpQ
namespace Go.Proofs.Ytdjdnjngelahjaa
open Go.RowKit
set_option maxRecDepth 100000
set_option linter.unusedSimpArgs false

set_option maxHeartbeats 2000000 in
theorem rpend_w {q R W p B : Nat} {f : StF} {g : VwF} {w : World} (h : RBoth q R W p B f g w) (i : Int) (wr : Bool) (b : Int) : Calls Try.prog 19 #[.pointer (some ⟨q, 0, none⟩), .int .i64 i, .bool wr, .int .i64 b] w
    fun e w' => e = .returned (.bool (isP f g i)) ∧ RBoth q R W p B f (endT f g i wr b) w' ∧ Kept (RW R W) w w' := by
  obtain ⟨lq, lR, lW, lp, lB⟩ := h.lt
  cases hP : isP f g i with
  | false =>
    have HE : Hid (endT f g i wr b = isPT g i) := by unfold endT; rw [hP]; exact rfl
    go_enter Try.func19, Try.ntmps19
    go_wp2_with fail
    refine (rpis_w h i).mono ?_
    rintro e w1 ⟨rfl, hv1, hk1⟩
    rw [hP]
    clear h
    go_wp2_with fail
    exact bodyPost_ret (v := .bool false) (by simp [results, Try.results19, go_sem]) rfl ⟨rfl, by rw [HE.out]; exact hv1, hk1⟩
  | true =>
    obtain ⟨hi1, hi2⟩ := isP_range hP
    have HT : Hid (endT f g i wr b = (if leftV (endV (pipV f g i) wr b) then vputT (seeT g i) (8, i) (endV (pipV f g i) wr b) else vputT (vputT (vgetT (seeT g i) (7, 0)) (7, 0) (withN (tabV f (seeT g i)) (clrN (tabV f (seeT g i)).n0 i))) (8, i) zeroV)) := by
      unfold endT; rw [hP, if_pos rfl, lost_same hi1 hi2]; exact rfl
    have hpv : vgetF f (isPT g i) (8, i) = pipV f g i := pip_isPT (f := f) (g := g) i i
    go_enter Try.func19, Try.ntmps19
    go_wp2_with fail
    refine (rpis_w h i).mono ?_
    rintro e w1 ⟨rfl, hv1, hk1⟩
    rw [hP]
    clear h
    go_wp2_with fail
    refine (rpkey_w i _).mono ?_
    rintro e w2 ⟨rfl, hk2⟩
    have K2 : Kept (RW R W) w w2 := hk1.trans hk2 (fun _ _ e => e.elim)
    go_wp2_with fail
    refine (rg_w (hv1.still hk2) 8 i).mono ?_
    rintro e w3 ⟨rfl, hv3, hk3⟩
    rw [hpv]
    clear hpv hk1 hk2 hv1 hP
    generalize pipV f g i = x at *
    have K3 : Kept (RW R W) w w3 := K2.trans hk3 (fun _ _ e => e)
    have hv3 : RBoth q R W p B f (seeT g i) w3 := hv3
    clear K2 hk3
    obtain ⟨g1, hg1⟩ : ∃ g1, seeT g i = g1 := ⟨_, rfl⟩
    rw [hg1] at hv3 HT
    clear hg1
    obtain ⟨F, hF⟩ : ∃ F : Nat, w3.heap.size = F := ⟨_, rfl⟩
    have lF : w.heap.size ≤ F := by have := K3.size; omega
    have nRW : ¬ RW R W F := by unfold RW; omega
    have hF4 : (w3.alloc (.cells (vc x).toArray 61)).heap[F]? = some (.cells (vc x).toArray 61 (0, 0)) := alloc_at' _ hF
    have hv4 := hv3.still ((Kept.refl _ w3).alloc (.cells (vc x).toArray 61))
    have K4 : Kept (RW R W) w (w3.alloc (.cells (vc x).toArray 61)) := K3.alloc _
    clear hv3 K3
    go_upto_if 20 with (first | (refine list_wnew rfl wide_V _ _ rfl F rfl (vc x) rfl _ rfl hF rfl (vc_one _) ?_))
    generalize w3.alloc (.cells (vc x).toArray 61) = w4 at *
    clear hF
    go_cut [9] from 20 to 34 (fun v wc => v = .pointer (some ⟨F, 0, none⟩) ∧ Hid (Kept (fun n => n = F) w4 wc ∧ wc.heap[F]? = some (.cells (vc (endV x wr b)).toArray 61 (0, 0))))
    case first =>
      obtain ⟨z, y0, cz, hyz, fz, hFy⟩ := endV_cells x wr b hF4
      cases wr with
      | true =>
        have cz : w4.cell? ⟨F, 1, none⟩ = some (.int .i64 z) := cz
        have fz : w4.frozen? ⟨F, 1, none⟩ = false := fz
        have HF : Hid ((w4.setCell ⟨F, 1, none⟩ (.int .i64 y0)).heap[F]? = some (.cells (vc (endV x true b)).toArray 61 (0, 0))) := hFy
        clear hFy
        go_wp2
        go_meet
        case rel => exact And.intro rfl (And.intro (by refine Kept.setCell (Kept.refl _ _) ?_ _; intro _; rfl) HF.out)
      | false =>
        have cz : w4.cell? ⟨F, 0, none⟩ = some (.int .i64 z) := cz
        have fz : w4.frozen? ⟨F, 0, none⟩ = false := fz
        have HF : Hid ((w4.setCell ⟨F, 0, none⟩ (.int .i64 y0)).heap[F]? = some (.cells (vc (endV x false b)).toArray 61 (0, 0))) := hFy
        clear hFy
        go_wp2
        go_meet
        case rel => exact And.intro rfl (And.intro (by refine Kept.setCell (Kept.refl _ _) ?_ _; intro _; rfl) HF.out)
    case rest =>
      obtain ⟨rfl, HC⟩ := hcut
      have hb6 := HC.out.2
      have hv6 : RBoth q R W p B f g1 wc := hv4.kept HC.out.1 (by omega) (by omega) (by omega) (by omega) (by omega)
      have K6 : Kept (RW R W) w wc := K4.trans HC.out.1 (fun k h1 h2 => by omega)
      clear hF4 hv4 K4 HC
      obtain ⟨y, hy⟩ : ∃ y, endV x wr b = y := ⟨_, rfl⟩
      rw [hy] at hb6 HT
      clear hy
      obtain ⟨z, hz⟩ : ∃ z : Bool, decide (y.n0 ≤ 0 ∧ y.n1 ≤ 0) = z := ⟨_, rfl⟩
      have HS : Hid (z = true ↔ ¬ leftV y) := by show _ ↔ _; rw [← hz, decide_eq_true_eq]; unfold leftV; omega
      have e0 := cell_at hb6 (i := 0) (v := .int .i64 y.n0) rfl
      have e1 := cell_at hb6 (i := 1) (v := .int .i64 y.n1) rfl
      generalize wc = w6 at *
      go_upto_region 7 with fail
      go_cut [44] from 35 to 44 (fun v wc => v = .bool z ∧ wc = w6)
      case first =>
        by_cases p1 : y.n0 ≤ 0
        · by_cases p2 : y.n1 ≤ 0
          · have hz' : z = true := by rw [← hz]; simp [p1, p2]
            clear HS hz
            subst hz'
            go_wp2
            go_meet
            case rel => exact ⟨rfl, rfl⟩
          · have hz' : z = false := by rw [← hz]; simp [p1, p2]
            clear HS hz
            subst hz'
            go_wp2
            go_meet
            case rel => exact ⟨rfl, rfl⟩
        · have hz' : z = false := by rw [← hz]; simp [p1]
          clear HS hz
          subst hz'
          go_wp2
          go_meet
          case rel => exact ⟨rfl, rfl⟩
      case rest =>
        obtain ⟨rfl, hwc⟩ := hcut
        subst hwc
        clear e0 e1 hz
        go_upto_if 44 with fail
        go_cut [10, 11] from 44 to 61 (fun _ _ wd => ∃ (u : V) (g2 : VwF), Hid (RBoth q R W p B f g2 wd ∧ Kept (RW R W) w wd ∧ wd.heap[F]? = some (.cells (vc u).toArray 61 (0, 0)) ∧ endT f g i wr b = vputT g2 (8, i) u))
        case first =>
          cases z with
          | false =>
            have HN : Hid (RBoth q R W p B f g1 wc ∧ Kept (RW R W) w wc ∧ wc.heap[F]? = some (.cells (vc y).toArray 61 (0, 0)) ∧ endT f g i wr b = vputT g1 (8, i) y) := by
              refine ⟨hv6, K6, hb6, ?_⟩
              rw [HT.out, if_pos]
              by_cases e : leftV y
              · exact e
              · exact absurd (HS.out.2 e) (by simp)
            clear HS HT hv6 K6 hb6
            go_wp2
            go_meet
            case rel => exact ⟨_, _, HN.out⟩
          | true =>
            have HT2 : Hid (endT f g i wr b = vputT (vputT (vgetT g1 (7, 0)) (7, 0) (withN (tabV f g1) (clrN (tabV f g1).n0 i))) (8, i) zeroV) := by
              show _ = _
              rw [HT.out, if_neg (HS.out.1 rfl)]
            clear HS HT
            have hb7 := setRow_at hb6 (vc zeroV).toArray
            have k7 := kept_setRow wc F (vc zeroV).toArray
            have hv7 : RBoth q R W p B f g1 (wc.setRow F (vc zeroV).toArray) := hv6.kept k7 (by omega) (by omega) (by omega) (by omega) (by omega)
            have K7 : Kept (RW R W) w (wc.setRow F (vc zeroV).toArray) := K6.trans k7 (fun k h1 h2 => by omega)
            clear k7 hv6 K6
            go_upto_region 9 with (first | (refine list_wstore rfl wide_V _ _ rfl F rfl (vc zeroV) rfl hb6 rfl rfl (vc_one _) ?_))
            generalize wc.setRow F (vc zeroV).toArray = wq at *
            clear hb6
            obtain ⟨Y, hY⟩ : ∃ Y : Nat, wq.heap.size = Y := ⟨_, rfl⟩
            have kd : Kept (fun _ => False) wq (wq.alloc (.cells #[.int .i64 7, .int .i64 0] 58)) := (Kept.refl _ _).alloc _
            have hKy : (wq.alloc (.cells #[.int .i64 7, .int .i64 0] 58)).heap[Y]? = some (.cells #[.int .i64 7, .int .i64 0] 58 (0, 0)) := alloc_at' _ hY
            have hbd := kd.at hb7 (fun x => x)
            have hvd := hv7.still kd
            have Kd := K7.trans kd (fun _ _ e => e.elim)
            have lY : F < Y := by have := lt_at hb7; omega
            clear kd hv7 K7 hb7
            go_wp2_with fail
            generalize wq.alloc (.cells #[.int .i64 7, .int .i64 0] 58) = wd at *
            refine (rg_w hvd 7 0).mono ?_
            rintro e w8 ⟨rfl, hv8, hk8⟩
            have K8 : Kept (RW R W) w w8 := Kd.trans hk8 (fun _ _ e => e)
            have hb8 := hk8.at hbd nRW
            have hKy8 := hk8.at hKy (by unfold RW; omega)
            clear hk8 hvd Kd hbd hKy hY
            have HT2 : Hid (endT f g i wr b = vputT (vputT (vgetT g1 (7, 0)) (7, 0) (withN (vgetF f g1 (7, 0)) (clrN (vgetF f g1 (7, 0)).n0 i))) (8, i) zeroV) := HT2.out
            generalize vgetF f g1 (7, 0) = u at *
            obtain ⟨G, hG⟩ : ∃ G : Nat, w8.heap.size = G := ⟨_, rfl⟩
            have lG : Y < G := by have := lt_at hKy8; omega
            have hz9 : (w8.alloc (.cells (vc u).toArray 61)).heap[G]? = some (.cells (vc u).toArray 61 (0, 0)) := alloc_at' _ hG
            have k9 : Kept (fun _ => False) w8 (w8.alloc (.cells (vc u).toArray 61)) := (Kept.refl _ _).alloc _
            have hv9 := hv8.still k9
            have K9 := K8.trans k9 (fun _ _ e => e.elim)
            have hb9 := k9.at hb8 (fun x => x)
            have hKy9 := k9.at hKy8 (fun x => x)
            clear k9 hv8 K8 hb8 hKy8
            go_wp2_with (first | (refine list_wnew rfl wide_V _ _ rfl G rfl (vc u) rfl _ rfl hG rfl (vc_one _) ?_))
            generalize w8.alloc (.cells (vc u).toArray 61) = w9 at *
            have c0 : w9.cell? ⟨G, 0, none⟩ = some (.int .i64 u.n0) := cell_at hz9 rfl
            have f0 := free_at hz9 0
            have hpw := pw_wrap (i := i) (by omega) (by omega)
            have i0 : 0 ≤ i := by omega
            have i64 : i ≤ 64 := by omega
            simp only [Act.put]
            go_cut [11] from 50 to 57 (fun v wx => v = .pointer (some ⟨G, 0, none⟩) ∧ Hid (Kept (fun n => n = G) w9 wx ∧ wx.heap[G]? = some (.cells (vc (withN u (clrN u.n0 i))).toArray 61 (0, 0))))
            case first =>
              go_region
              all_goals
                go_wp2
                go_meet
                case rel => exact And.intro rfl (And.intro (by refine Kept.drew (Kept.setCell (Kept.refl _ _) ?_ _); intro _; rfl) (by show (w9.setCell _ _).heap[G]? = _; rw [set_at hz9]; rfl))
            case rest =>
              obtain ⟨rfl, HC⟩ := hcut
              have hFy := HC.out.2
              have hvw := hv9.kept HC.out.1 (by omega) (by omega) (by omega) (by omega) (by omega)
              have hKw : Kept (RW R W) w wc := K9.trans HC.out.1 (fun k h1 h2 => by omega)
              have hbw := HC.out.1.at hb9 (show ¬ F = G by omega)
              have hKyw := HC.out.1.at hKy9 (show ¬ Y = G by omega)
              clear c0 f0 HC K9 hv9 hz9 hb9 hKy9 hpw
              obtain ⟨y0, hy0⟩ : ∃ y0, withN u (clrN u.n0 i) = y0 := ⟨_, rfl⟩
              rw [hy0] at hFy HT2
              clear hy0
              have k0 := cell_at hKyw (i := 0) rfl
              have k1 := cell_at hKyw (i := 1) rfl
              have hr := whole_range hFy
              go_wp2_with (first | (refine list_wload rfl wide_V _ rfl G 0 rfl (vc y0) hr rfl ?_))
              refine (rp_w hvw 7 0 y0).mono ?_
              rintro e w6 ⟨rfl, hv6, hk6⟩
              have HN : Hid (RBoth q R W p B f (vputT (vgetT g1 (7, 0)) (7, 0) y0) w6 ∧ Kept (RW R W) w w6 ∧ w6.heap[F]? = some (.cells (vc zeroV).toArray 61 (0, 0)) ∧ endT f g i wr b = vputT (vputT (vgetT g1 (7, 0)) (7, 0) y0) (8, i) zeroV) :=
                ⟨hv6, hKw.trans hk6 (fun _ _ e => e), hk6.at hbw nRW, HT2.out⟩
              clear hvw hKw hk6 hFy hKyw k0 k1 hr hv6 HT2 hbw
              go_wp2
              go_meet
              case rel => exact ⟨_, _, HN.out⟩
        case rest =>
          obtain ⟨u, g2, HC⟩ := hcut
          have hb8 := HC.out.2.2.1
          have hv8 := HC.out.1
          have hK8 := HC.out.2.1
          have HQ : Hid (endT f g i wr b = vputT g2 (8, i) u) := HC.out.2.2.2
          clear HC HS HT hv6 K6 hb6
          have KS : ∀ w', Kept (RW R W) wc w' → True := fun _ _ => trivial
          have KV : ∀ w', Kept (RW R W) wc w' → w'.rangeAt F 0 (vc u) := fun w' hk' => range_kept (whole_range hb8) hk' nRW
          go_wp2_with fail
          refine wp_region_held_drew (S := fun w' => Kept (RW R W) wc w') (by kernel_rfl) ((Kept.refl _ _).drew) (fun hHeld => ?_)
          refine h_take 0 (some 62) (Op.move (Operand.tmp 0)) 27 ?v1 rfl rfl (by kernel_rfl) (by kernel_rfl) (by kernel_rfl) (fun _ _ _ h => h) ?hy1 hHeld ?_
          case hy1 => (intro _ _ _ w hSw; have hcs := KS _ hSw; go_simp; try with_reducible rfl)
          simp only [Act.put, List.setIfInBounds_toArray, List.set_cons_zero, List.set_cons_succ]
          refine h_take 1 (some 63) (Op.move (Operand.tmp 1)) 3 ?v2 rfl rfl (by kernel_rfl) (by kernel_rfl) (by kernel_rfl) (fun _ _ _ h => h) ?hy2 hHeld ?_
          case hy2 => (intro _ _ _ w hSw; have hcs := KS _ hSw; go_simp; try with_reducible rfl)
          simp only [Act.put, List.setIfInBounds_toArray, List.set_cons_zero, List.set_cons_succ]
          refine h_take 3 (some 65) (Op.load 61 (Operand.tmp 9)) 61 (vv u) rfl rfl (by kernel_rfl) (by kernel_rfl) (by kernel_rfl) (fun _ _ _ h => h) (fun _ _ _ w hSw => exec_load rfl (load_wide wide_V (KV w hSw) rfl)) hHeld ?_
          simp only [Act.put, List.setIfInBounds_toArray, List.set_cons_zero, List.set_cons_succ]
          refine h_step 2 (some 64) (Op.call { callee := Callee.value (Operand.func 37), args := #[Operand.tmp 63], argTypes := #[3] }) 58 rfl rfl (by kernel_rfl) (fun _ _ _ K hK => ?_)
          go_simp
          refine (rpkey_w i _).mono ?_
          rintro e w9 ⟨rfl, hk9⟩
          replace hk9 : Kept (fun _ => False) wc w9 := (Kept.refl _ wc).drew.thru hk9
          go_wp2_with fail
          refine hK.out _ _ (hk9.mono (fun _ _ e => e.elim)) (fun hHeld => ?_)
          clear hK K
          try simp only [Act.put, List.setIfInBounds_toArray, List.set_cons_zero, List.set_cons_succ]
          refine h_step 4 (some 66) (Op.call { callee := Callee.value (Operand.func 36), args := #[Operand.tmp 62, Operand.tmp 64, Operand.tmp 65], argTypes := #[27, 58, 61] }) 0 rfl rfl (by kernel_rfl) (fun _ _ _ K hK => ?_)
          go_simp
          refine (rp_w (hv8.still hk9) 8 i u).mono ?_
          rintro e wz ⟨rfl, hvz, hkz⟩
          replace hkz : Kept (RW R W) wc wz := (hk9.mono (fun _ _ e => e.elim)).trans hkz (fun _ _ e => e)
          go_wp2_with fail
          refine hK.out _ _ (hkz) (fun hHeld => ?_)
          clear hK K
          try simp only [Act.put, List.setIfInBounds_toArray, List.set_cons_zero, List.set_cons_succ]
          refine wpAnyH_done (by kernel_rfl) ?_ _
          have HZ : Hid (RBoth q R W p B f (endT f g i wr b) wz ∧ Kept (RW R W) w wz) := by refine ⟨?_, hK8.trans hkz (fun _ _ e => e)⟩; rw [HQ.out]; exact hvz
          clear hHeld KS KV hk9 hv8 hK8 hkz hvz hb8 HQ
          go_wp2_with fail
          exact bodyPost_ret (v := .bool true) (by simp [results, Try.results19, go_sem]) rfl ⟨rfl, HZ.out⟩
end Go.Proofs.Ytdjdnjngelahjaa
