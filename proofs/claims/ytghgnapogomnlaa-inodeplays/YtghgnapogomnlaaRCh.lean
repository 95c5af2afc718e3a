/- What the reference's inodes do when they are called: Change; no conditions. -/
import Derived.Test.YtghgnapogomnlaaRIno
import Derived.Test.YtghgnapogomnlaaFindF
namespace Go.Proofs.Ytghgnapogomnlaa
open Go.RowKit
set_option maxRecDepth 100000
set_option linter.unusedSimpArgs false

theorem is_val {f : StF} {g : VwF} {i : Int} (h : isI f g i = true) : vgetF f g (10, i) = findV f g i ∧ findT g i = vgetT g (10, i) := by
  have hr := is_range h
  unfold isI findV at h
  unfold findV findT
  rw [if_pos hr] at h ⊢
  rw [if_pos hr]
  by_cases h0 : (vgetF f g (10, i)).n0 = 0
  · rw [if_pos h0] at h; simp [zeroV] at h
  · rw [if_neg h0]; exact ⟨rfl, rfl⟩

theorem gone_same {f : StF} {g : VwF} {i : Int} (h : 1 ≤ i) (h' : i < 16) : goneT f g i = vputT (vputT (vgetT g (9, 0)) (9, 0) (withN (vgetF f g (9, 0)) (clrN (vgetF f g (9, 0)).n0 i))) (10, i) zeroV := by
  have hi := plc_ik h h'
  have ht := plc_tk
  have hne := ik_ne i
  unfold goneT
  rw [get_put_other hi hne]
  generalize withN (vgetF f g (9, 0)) (clrN (vgetF f g (9, 0)).n0 i) = y
  have e1 : noteF (vgetT (vputT g (10, i) zeroV) (9, 0)) (9, 0) = noteF (vgetT g (9, 0)) (9, 0) := by
    rw [note_get ht, if_pos rfl, note_get ht, if_pos rfl, note_put hi, if_neg hne]
  have e2 : noteF (vputT (vgetT g (9, 0)) (9, 0) y) (10, i) = noteF g (10, i) := by
    rw [note_put ht, if_neg (fun e => hne e.symm), note_get ht, if_neg (fun e => hne e.symm)]
  funext j
  unfold vputT at e1 e2 ⊢
  rw [if_pos ht, if_pos hi, if_pos ht] at *
  simp only [if_pos hi, if_pos ht] at *
  rw [e1, e2]
  unfold vgetT
  simp only [if_pos ht]
  unfold upd
  by_cases c1 : j = (9, 0)
  · subst c1; simp
  · by_cases c2 : j = (10, i)
    · subst c2; simp [c1]
    · simp [c1, c2]

set_option maxHeartbeats 2000000 in
theorem rchange_w {q R W p B : Nat} {f : StF} {g : VwF} {w : World} (h : RBoth q R W p B f g w) (i a b : Int) : Calls Try.prog 17 #[.pointer (some ⟨q, 0, none⟩), .int .i64 i, .int .i64 a, .int .i64 b] w
    fun e w' => e = .returned (.bool (isI f g i)) ∧ RBoth q R W p B f (changeT f g i a b) w' ∧ Kept (RW R W) w w' := by
  obtain ⟨lq, lR, lW, lp, lB⟩ := h.lt
  go_enter Try.func17, Try.ntmps17
  go_wp2_with fail
  refine (ris_w h i).mono ?_
  rintro e w1 ⟨rfl, hv1, hk1⟩
  have HT : Hid (changeT f g i a b = if isI f g i = true then (if 0 < (chgV (findV f g i) a b).n1 ∨ 0 < (chgV (findV f g i) a b).n2 then vputT (findT g i) (10, i) (chgV (findV f g i) a b) else goneT f (findT g i) i) else findT g i) := rfl
  have hr := is_range (f := f) (g := g) (i := i)
  have hv := is_val (f := f) (g := g) (i := i)
  obtain ⟨ib, hib⟩ : ∃ ib, isI f g i = ib := ⟨_, rfl⟩
  have HI : Hid (isI f g i = ib) := hib
  rw [hib] at HT hr hv ⊢
  clear hib
  cases ib with
  | false =>
    have HZ : Hid (RBoth q R W p B f (changeT f g i a b) w1 ∧ Kept (RW R W) w w1) := by refine ⟨?_, hk1⟩; rw [HT.out, if_neg (by simp)]; exact hv1
    clear HT hr hv hv1 hk1
    go_wp2_with fail
    exact bodyPost_ret (v := .bool false) (by simp [results, Try.results17, go_sem]) rfl ⟨by rw [HI.out], HZ.out⟩
  | true =>
    obtain ⟨hi1, hi2⟩ := hr rfl
    obtain ⟨hx1, hx2⟩ := hv rfl
    clear hr hv
    have hgs := gone_same (f := f) (g := findT g i) hi1 hi2
    have HT1 : Hid (changeT f g i a b = if 0 < (chgV (findV f g i) a b).n1 ∨ 0 < (chgV (findV f g i) a b).n2 then vputT (findT g i) (10, i) (chgV (findV f g i) a b) else vputT (vputT (vgetT (findT g i) (9, 0)) (9, 0) (withN (vgetF f (findT g i) (9, 0)) (clrN (vgetF f (findT g i) (9, 0)).n0 i))) (10, i) zeroV) := by show _ = _; rw [HT.out, if_pos rfl, hgs]
    clear HT hgs
    have hgv : vgetF f (findT g i) (10, i) = findV f g i := by rw [hx2, get_get, hx1]
    have hgt : vgetT (findT g i) (10, i) = findT g i := by rw [hx2, get_twice (f := f).2]
    clear hx1 hx2
    go_wp2_with fail
    refine (rkey_w i _).mono ?_
    rintro e w2 ⟨rfl, hk2⟩
    go_wp2_with fail
    refine (rg_w (hv1.still hk2) 10 i).mono ?_
    rintro e w3 ⟨rfl, hv3, hk3⟩
    rw [hgt] at hv3
    rw [hgv]
    clear hgv hgt
    have K3 : Kept (RW R W) w w3 := (hk1.trans hk2 (fun _ _ e => e.elim)).trans hk3 (fun _ _ e => e)
    clear hk1 hk2 hk3 hv1
    generalize findV f g i = x at *
    generalize findT g i = g1 at *
    obtain ⟨F, hF⟩ : ∃ F : Nat, w3.heap.size = F := ⟨_, rfl⟩
    have lF : w.heap.size ≤ F := by have := K3.size; omega
    have nRW : ¬ RW R W F := by unfold RW; omega
    obtain ⟨w4, h4⟩ : ∃ w4, w3.alloc (.cells (vc x).toArray 51) = w4 := ⟨_, rfl⟩
    have hb4 : w4.heap[F]? = some (.cells (vc x).toArray 51 (0, 0)) := by subst h4; exact alloc_at' _ hF
    have k34 : Kept (fun _ => False) w3 w4 := by subst h4; exact (Kept.refl _ _).alloc _
    obtain ⟨y1, hy1⟩ : ∃ y1, wrap64 (x.n1 + a) = y1 := ⟨_, rfl⟩
    obtain ⟨y2, hy2⟩ : ∃ y2, wrap64 (x.n2 + b) = y2 := ⟨_, rfl⟩
    obtain ⟨y, hy⟩ : ∃ y, chgV x a b = y := ⟨_, rfl⟩
    have hyy : y = { x with n1 := y1, n2 := y2 } := by rw [← hy, ← hy1, ← hy2]; rfl
    have hyn1 : y.n1 = y1 := by rw [hyy]
    have hyn2 : y.n2 = y2 := by rw [hyy]
    have c1 : w4.cell? ⟨F, 1, none⟩ = some (.int .i64 x.n1) := cell_at hb4 rfl
    have c2 : w4.cell? ⟨F, 2, none⟩ = some (.int .i64 x.n2) := cell_at hb4 rfl
    have f1 := free_at hb4 1
    have hb5 := set_at hb4 1 (.int .i64 y1)
    have f2 := free_at hb5 2
    have hb6 : ((w4.setCell ⟨F, 1, none⟩ (.int .i64 y1)).setCell ⟨F, 2, none⟩ (.int .i64 y2)).heap[F]? = some (.cells (vc y).toArray 51 (0, 0)) := by rw [set_at hb5, hyy]; rfl
    have k46 : Kept (fun n => n = F) w4 ((w4.setCell ⟨F, 1, none⟩ (.int .i64 y1)).setCell ⟨F, 2, none⟩ (.int .i64 y2)) := by
      refine Kept.setCell (Kept.setCell (Kept.refl _ _) ?_ _) ?_ _ <;> (intro _; rfl)
    have e1 : ((w4.setCell ⟨F, 1, none⟩ (.int .i64 y1)).setCell ⟨F, 2, none⟩ (.int .i64 y2)).cell? ⟨F, 1, none⟩ = some (.int .i64 y1) := by have := cell_at hb6 (i := 1) (v := .int .i64 y.n1) rfl; rwa [hyn1] at this
    have e2 : ((w4.setCell ⟨F, 1, none⟩ (.int .i64 y1)).setCell ⟨F, 2, none⟩ (.int .i64 y2)).cell? ⟨F, 2, none⟩ = some (.int .i64 y2) := by have := cell_at hb6 (i := 2) (v := .int .i64 y.n2) rfl; rwa [hyn2] at this
    have K6 : Kept (RW R W) w ((w4.setCell ⟨F, 1, none⟩ (.int .i64 y1)).setCell ⟨F, 2, none⟩ (.int .i64 y2)) := (K3.trans k34 (fun _ _ e => e.elim)).trans k46 (fun k h1 h2 => by omega)
    have hv6 : RBoth q R W p B f g1 ((w4.setCell ⟨F, 1, none⟩ (.int .i64 y1)).setCell ⟨F, 2, none⟩ (.int .i64 y2)) := (hv3.still k34).kept k46 (by omega) (by omega) (by omega) (by omega) (by omega)
    clear hb4 hb5 k34 hyy K3 hv3 k46
    go_upto_region 5 with (first | (refine list_wnew rfl wide_V _ _ rfl F rfl (vc x) rfl _ rfl hF rfl (vc_one _) ?_))
    generalize (w4.setCell ⟨F, 1, none⟩ (.int .i64 y1)).setCell ⟨F, 2, none⟩ (.int .i64 y2) = w6 at *
    obtain ⟨z, hz⟩ : ∃ z : Bool, decide (y1 ≤ 0 ∧ y2 ≤ 0) = z := ⟨_, rfl⟩
    have HS : Hid (z = true ↔ ¬ (0 < y.n1 ∨ 0 < y.n2)) := by show _ ↔ _; rw [hyn1, hyn2, ← hz, decide_eq_true_eq]; omega
    clear hyn1 hyn2
    go_cut [43] from 20 to 43 (fun v wc => v = .bool z ∧ wc = w6)
    case first =>
      by_cases p1 : y1 ≤ 0
      · by_cases p2 : y2 ≤ 0
        · have hz' : z = true := by rw [← hz]; simp [p1, p2]
          clear HS hz
          subst hz'
          go_wp2
          go_meet
          case rel => exact ⟨rfl, rfl⟩
        · have hz' : z = false := by rw [← hz]; simp [p1, p2]
          clear HS hz
          subst hz'
          go_wp2
          go_meet
          case rel => exact ⟨rfl, rfl⟩
      · have hz' : z = false := by rw [← hz]; simp [p1]
        clear HS hz
        subst hz'
        go_wp2
        go_meet
        case rel => exact ⟨rfl, rfl⟩
    case rest =>
      obtain ⟨rfl, hwc⟩ := hcut
      subst hwc
      clear c1 c2 f1 f2 e1 e2 hz
      go_upto_if 43 with fail
      go_cut [10, 11] from 43 to 60 (fun _ _ wd => ∃ (u : V) (g2 : VwF), Hid (RBoth q R W p B f g2 wd ∧ Kept (RW R W) w wd ∧ wd.heap[F]? = some (.cells (vc u).toArray 51 (0, 0)) ∧ changeT f g i a b = vputT g2 (10, i) u))
      case first =>
        cases z with
        | false =>
          have HN : Hid (RBoth q R W p B f g1 wc ∧ Kept (RW R W) w wc ∧ wc.heap[F]? = some (.cells (vc y).toArray 51 (0, 0)) ∧ changeT f g i a b = vputT g1 (10, i) y) := by
            refine ⟨hv6, K6, hb6, ?_⟩
            rw [HT1.out, hy, if_pos]
            by_cases e : 0 < y.n1 ∨ 0 < y.n2
            · exact e
            · exact absurd (HS.out.2 e) (by simp)
          clear HS HT1 hv6 K6 hb6
          go_wp2
          go_meet
          case rel => exact ⟨_, _, HN.out⟩
        | true =>
          have HT2 : Hid (changeT f g i a b = vputT (vputT (vgetT g1 (9, 0)) (9, 0) (withN (vgetF f g1 (9, 0)) (clrN (vgetF f g1 (9, 0)).n0 i))) (10, i) zeroV) := by
            show _ = _
            rw [HT1.out, hy, if_neg (HS.out.1 rfl)]
          clear HS HT1 hy hy1 hy2
          have hb7 := setRow_at hb6 (vc zeroV).toArray
          have k7 := kept_setRow wc F (vc zeroV).toArray
          have hv7 : RBoth q R W p B f g1 (wc.setRow F (vc zeroV).toArray) := hv6.kept k7 (by omega) (by omega) (by omega) (by omega) (by omega)
          have K7 : Kept (RW R W) w (wc.setRow F (vc zeroV).toArray) := K6.trans k7 (fun k h1 h2 => by omega)
          clear k7 hv6 K6
          go_upto_region 7 with (first | (refine list_wstore rfl wide_V _ _ rfl F rfl (vc zeroV) rfl hb6 rfl rfl (vc_one _) ?_))
          generalize wc.setRow F (vc zeroV).toArray = wq at *
          clear hb6
          obtain ⟨Y, hY⟩ : ∃ Y : Nat, wq.heap.size = Y := ⟨_, rfl⟩
          have kd : Kept (fun _ => False) wq (wq.alloc (.cells #[.int .i64 9, .int .i64 0] 55)) := (Kept.refl _ _).alloc _
          have hKy : (wq.alloc (.cells #[.int .i64 9, .int .i64 0] 55)).heap[Y]? = some (.cells #[.int .i64 9, .int .i64 0] 55 (0, 0)) := alloc_at' _ hY
          have hbd := kd.at hb7 (fun x => x)
          have hvd := hv7.still kd
          have Kd := K7.trans kd (fun _ _ e => e.elim)
          have lY : F < Y := by have := lt_at hb7; omega
          clear kd hv7 K7 hb7
          go_wp2_with fail
          generalize wq.alloc (.cells #[.int .i64 9, .int .i64 0] 55) = wd at *
          refine (rg_w hvd 9 0).mono ?_
          rintro e w8 ⟨rfl, hv8, hk8⟩
          have K8 : Kept (RW R W) w w8 := Kd.trans hk8 (fun _ _ e => e)
          have hb8 := hk8.at hbd nRW
          have hKy8 := hk8.at hKy (by unfold RW; omega)
          clear hk8 hvd Kd hbd hKy hY
          generalize vgetF f g1 (9, 0) = u at *
          obtain ⟨G, hG⟩ : ∃ G : Nat, w8.heap.size = G := ⟨_, rfl⟩
          have lG : Y < G := by have := lt_at hKy8; omega
          have hz9 : (w8.alloc (.cells (vc u).toArray 51)).heap[G]? = some (.cells (vc u).toArray 51 (0, 0)) := alloc_at' _ hG
          have k9 : Kept (fun _ => False) w8 (w8.alloc (.cells (vc u).toArray 51)) := (Kept.refl _ _).alloc _
          have hv9 := hv8.still k9
          have K9 := K8.trans k9 (fun _ _ e => e.elim)
          have hb9 := k9.at hb8 (fun x => x)
          have hKy9 := k9.at hKy8 (fun x => x)
          clear k9 hv8 K8 hb8 hKy8
          go_wp2_with (first | (refine list_wnew rfl wide_V _ _ rfl G rfl (vc u) rfl _ rfl hG rfl (vc_one _) ?_))
          generalize w8.alloc (.cells (vc u).toArray 51) = w9 at *
          have c0 : w9.cell? ⟨G, 0, none⟩ = some (.int .i64 u.n0) := cell_at hz9 rfl
          have f0 := free_at hz9 0
          have hpw := pw_wrap (i := i) (by omega) hi2
          have i0 : 0 ≤ i := by omega
          simp only [Act.put]
          go_cut [11] from 49 to 56 (fun v wx => v = .pointer (some ⟨G, 0, none⟩) ∧ Hid (Kept (fun n => n = G) w9 wx ∧ wx.heap[G]? = some (.cells (vc (withN u (clrN u.n0 i))).toArray 51 (0, 0))))
          case first =>
            go_region
            all_goals
              go_wp2
              go_meet
              case rel => exact And.intro rfl (And.intro (by refine Kept.drew (Kept.setCell (Kept.refl _ _) ?_ _); intro _; rfl) (by show (w9.setCell _ _).heap[G]? = _; rw [set_at hz9]; rfl))
          case rest =>
            obtain ⟨rfl, HC⟩ := hcut
            have hFy := HC.out.2
            have hvw := hv9.kept HC.out.1 (by omega) (by omega) (by omega) (by omega) (by omega)
            have hKw : Kept (RW R W) w wc := K9.trans HC.out.1 (fun k h1 h2 => by omega)
            have hbw := HC.out.1.at hb9 (show ¬ F = G by omega)
            have hKyw := HC.out.1.at hKy9 (show ¬ Y = G by omega)
            clear c0 f0 HC K9 hv9 hz9 hb9 hKy9 hpw
            obtain ⟨y0, hy0⟩ : ∃ y0, withN u (clrN u.n0 i) = y0 := ⟨_, rfl⟩
            rw [hy0] at hFy HT2
            clear hy0
            have k0 := cell_at hKyw (i := 0) rfl
            have k1 := cell_at hKyw (i := 1) rfl
            have hr := whole_range hFy
            go_wp2_with (first | (refine list_wload rfl wide_V _ rfl G 0 rfl (vc y0) hr rfl ?_))
            refine (rp_w hvw 9 0 y0).mono ?_
            rintro e w6 ⟨rfl, hv6, hk6⟩
            have HN : Hid (RBoth q R W p B f (vputT (vgetT g1 (9, 0)) (9, 0) y0) w6 ∧ Kept (RW R W) w w6 ∧ w6.heap[F]? = some (.cells (vc zeroV).toArray 51 (0, 0)) ∧ changeT f g i a b = vputT (vputT (vgetT g1 (9, 0)) (9, 0) y0) (10, i) zeroV) :=
              ⟨hv6, hKw.trans hk6 (fun _ _ e => e), hk6.at hbw nRW, HT2.out⟩
            clear hvw hKw hk6 hFy hKyw k0 k1 hr hv6 HT2 hbw
            go_wp2
            go_meet
            case rel => exact ⟨_, _, HN.out⟩
      case rest =>
        obtain ⟨u, g2, HC⟩ := hcut
        have hb8 := HC.out.2.2.1
        have hv8 := HC.out.1
        have hK8 := HC.out.2.1
        have HQ : Hid (changeT f g i a b = vputT g2 (10, i) u) := HC.out.2.2.2
        clear HC HS HT1 hy1 hy2 hy hv6 K6 hb6
        have KS : ∀ w', Kept (RW R W) wc w' → True := fun _ _ => trivial
        have KV : ∀ w', Kept (RW R W) wc w' → w'.rangeAt F 0 (vc u) := fun w' hk' => range_kept (whole_range hb8) hk' nRW
        go_wp2_with fail
        refine wp_region_held_drew (S := fun w' => Kept (RW R W) wc w') (by kernel_rfl) ((Kept.refl _ _).drew) (fun hHeld => ?_)
        refine h_take 0 (some 61) (Op.move (Operand.tmp 0)) 40 ?v1 rfl rfl (by kernel_rfl) (by kernel_rfl) (by kernel_rfl) (fun _ _ _ h => h) ?hy1 hHeld ?_
        case hy1 => (intro _ _ _ w hSw; have hcs := KS _ hSw; go_simp; try with_reducible rfl)
        simp only [Act.put, List.setIfInBounds_toArray, List.set_cons_zero, List.set_cons_succ]
        refine h_take 1 (some 62) (Op.move (Operand.tmp 1)) 3 ?v2 rfl rfl (by kernel_rfl) (by kernel_rfl) (by kernel_rfl) (fun _ _ _ h => h) ?hy2 hHeld ?_
        case hy2 => (intro _ _ _ w hSw; have hcs := KS _ hSw; go_simp; try with_reducible rfl)
        simp only [Act.put, List.setIfInBounds_toArray, List.set_cons_zero, List.set_cons_succ]
        refine h_take 3 (some 64) (Op.load 51 (Operand.tmp 9)) 51 (vv u) rfl rfl (by kernel_rfl) (by kernel_rfl) (by kernel_rfl) (fun _ _ _ h => h) (fun _ _ _ w hSw => exec_load rfl (load_wide wide_V (KV w hSw) rfl)) hHeld ?_
        simp only [Act.put, List.setIfInBounds_toArray, List.set_cons_zero, List.set_cons_succ]
        refine h_step 2 (some 63) (Op.call { callee := Callee.value (Operand.func 42), args := #[Operand.tmp 62], argTypes := #[3] }) 55 rfl rfl (by kernel_rfl) (fun _ _ _ K hK => ?_)
        go_simp
        refine (rkey_w i _).mono ?_
        rintro e w9 ⟨rfl, hk9⟩
        replace hk9 : Kept (fun _ => False) wc w9 := (Kept.refl _ wc).drew.thru hk9
        go_wp2_with fail
        refine hK.out _ _ (hk9.mono (fun _ _ e => e.elim)) (fun hHeld => ?_)
        clear hK K
        try simp only [Act.put, List.setIfInBounds_toArray, List.set_cons_zero, List.set_cons_succ]
        refine h_step 4 (some 65) (Op.call { callee := Callee.value (Operand.func 41), args := #[Operand.tmp 61, Operand.tmp 63, Operand.tmp 64], argTypes := #[40, 55, 51] }) 0 rfl rfl (by kernel_rfl) (fun _ _ _ K hK => ?_)
        go_simp
        refine (rp_w (hv8.still hk9) 10 i u).mono ?_
        rintro e wz ⟨rfl, hvz, hkz⟩
        replace hkz : Kept (RW R W) wc wz := (hk9.mono (fun _ _ e => e.elim)).trans hkz (fun _ _ e => e)
        go_wp2_with fail
        refine hK.out _ _ (hkz) (fun hHeld => ?_)
        clear hK K
        try simp only [Act.put, List.setIfInBounds_toArray, List.set_cons_zero, List.set_cons_succ]
        refine wpAnyH_done (by kernel_rfl) ?_ _
        have HZ : Hid (RBoth q R W p B f (changeT f g i a b) wz ∧ Kept (RW R W) w wz) := by refine ⟨?_, hK8.trans hkz (fun _ _ e => e)⟩; rw [HQ.out]; exact hvz
        clear hHeld KS KV hk9 hv8 hK8 hkz hvz hb8 HQ
        go_wp2_with fail
        exact bodyPost_ret (v := .bool true) (by simp [results, Try.results17, go_sem]) rfl ⟨by rw [HI.out], HZ.out⟩
end Go.Proofs.Ytghgnapogomnlaa
