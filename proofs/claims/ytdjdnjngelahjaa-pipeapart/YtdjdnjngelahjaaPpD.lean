
/- What the code's pipes do when they are called: Ends; no conditions. -/
import Derived.Test.YtdjdnjngelahjaaPpC
namespace Go.Proofs.Ytdjdnjngelahjaa
open Go.RowKit
set_option maxRecDepth 100000
set_option linter.unusedSimpArgs false

theorem endV_cells (x : V) (wr : Bool) (b : Int) {w : World} {F : Nat} (h : w.heap[F]? = some (.cells (vc x).toArray 61 (0, 0))) :
    ∃ z y : Int, w.cell? ⟨F, (sideN wr).toNat, none⟩ = some (.int .i64 z) ∧ wrap64 (z + b) = y ∧ w.frozen? ⟨F, (sideN wr).toNat, none⟩ = false ∧
      (w.setCell ⟨F, (sideN wr).toNat, none⟩ (.int .i64 y)).heap[F]? = some (.cells (vc (endV x wr b)).toArray 61 (0, 0)) := by
  cases wr with
  | true =>
    refine ⟨x.n1, _, cell_at h rfl, rfl, free_at h _, ?_⟩
    rw [set_at h]; rfl
  | false =>
    refine ⟨x.n0, _, cell_at h rfl, rfl, free_at h _, ?_⟩
    rw [set_at h]; rfl

set_option maxHeartbeats 1000000 in
theorem pend_w (q N p B : Nat) (f : StF) (g : VwF) (i : Int) (wr : Bool) (b : Int) (w : World) (h : ViewIn q N p g w) (hs : StoreIn p B f w) (hNB : N ≠ B) : Calls Try.prog 12 #[.pointer (some ⟨q, 0, none⟩), .int .i64 i, .bool wr, .int .i64 b] w
    fun e w' => e = .returned (.bool (isP f g i)) ∧ ViewIn q N p (endT f g i wr b) w' ∧ Kept (fun n => n = N) w w' := by
  have hN : N < w.heap.size := h.map.lt
  have hq : q < w.heap.size := lt_at h.cell
  have hp : p < w.heap.size := lt_at hs.cell
  have hB : B < w.heap.size := hs.map.lt
  have hpN : p ≠ N := h.map.off hs.cell
  have hsk : ∀ w', Kept (fun n => n = N) w w' → StoreIn p B f w' := fun w' hk => hs.kept hk hpN (fun e => hNB e.symm)
  cases hP : isP f g i with
  | false =>
    have HE : Hid (endT f g i wr b = isPT g i) := by unfold endT; rw [hP]; exact rfl
    go_enter Try.func12, Try.ntmps12
    go_wp2_with fail
    refine (pis_w q N p B f g i w h hs hNB).mono ?_
    rintro e w1 ⟨rfl, hv1, hk1⟩
    rw [hP]
    clear h hs
    go_wp2_with fail
    exact bodyPost_ret (v := .bool false) (by simp [results, Try.results12, go_sem]) rfl ⟨rfl, by rw [HE.out]; exact hv1, hk1⟩
  | true =>
    obtain ⟨hi1, hi2⟩ := isP_range hP
    have HT : Hid (endT f g i wr b = (if leftV (endV (pipV f g i) wr b) then vputT (seeT g i) (8, i) (endV (pipV f g i) wr b) else lostT f (seeT g i) i)) := by
      unfold endT; rw [hP, if_pos rfl]; exact rfl
    have hpv : vgetF f (isPT g i) (8, i) = pipV f g i := pip_isPT (f := f) (g := g) i i
    go_enter Try.func12, Try.ntmps12
    go_wp2_with fail
    refine (pis_w q N p B f g i w h hs hNB).mono ?_
    rintro e w1 ⟨rfl, hv1, hk1⟩
    rw [hP]
    clear h hs
    go_wp2_with fail
    refine (pobject_w i _).mono ?_
    rintro e w2 ⟨rfl, hk2⟩
    have K2 : Kept (fun n => n = N) w w2 := hk1.trans hk2 (fun _ _ e => e.elim)
    go_wp2_with fail
    refine (vget_w q N p B f (isPT g i) 8 i w2 (hv1.still hk2) (hsk _ K2) hNB).mono ?_
    rintro e w3 ⟨rfl, hv3, hk3⟩
    rw [hpv]
    clear hpv hk1 hk2 hv1 hP
    generalize pipV f g i = x at *
    have K3 : Kept (fun n => n = N) w w3 := K2.trans hk3 (fun _ _ e => e)
    have hv3 : ViewIn q N p (seeT g i) w3 := hv3
    clear K2 hk3
    obtain ⟨F, hF⟩ : ∃ F : Nat, w3.heap.size = F := ⟨_, rfl⟩
    have lF : w.heap.size ≤ F := by have := K3.size; omega
    have hF4 : (w3.alloc (.cells (vc x).toArray 61)).heap[F]? = some (.cells (vc x).toArray 61 (0, 0)) := alloc_at' _ hF
    have hv4 := hv3.still ((Kept.refl _ w3).alloc (.cells (vc x).toArray 61))
    have K4 : Kept (fun n => n = N) w (w3.alloc (.cells (vc x).toArray 61)) := K3.alloc _
    clear hv3 K3
    go_wp2_with (first | (refine list_wnew rfl wide_V _ _ rfl F rfl (vc x) rfl _ rfl hF rfl (vc_one _) ?_))
    generalize w3.alloc (.cells (vc x).toArray 61) = w4 at *
    clear hF
    refine (pside_w wr _).mono ?_
    rintro e w5 ⟨rfl, hw5⟩
    subst hw5
    obtain ⟨z, y0, cz, hyz, fz, hFy⟩ := endV_cells x wr b hF4
    obtain ⟨y, hy⟩ : ∃ y, endV x wr b = y := ⟨_, rfl⟩
    rw [hy] at hFy HT
    clear hy
    have hsd : sideN wr = 0 ∨ sideN wr = 1 := by cases wr <;> simp [sideN]
    obtain ⟨s, hs⟩ : ∃ s : Nat, sideN wr = s := ⟨(sideN wr).toNat, by omega⟩
    rw [hs] at cz fz hFy hsd ⊢
    rw [Int.toNat_natCast] at cz fz hFy
    have hs0 : (0 : Int) ≤ (s : Int) := by omega
    have hs2 : (s : Int) < 16 := by omega
    clear hs hsd
    have c0 := cell_at hFy (i := 0) (v := .int .i64 y.n0) rfl
    have c1 := cell_at hFy (i := 1) (v := .int .i64 y.n1) rfl
    have k6 : Kept (fun n => n = F) w5 (w5.setCell ⟨F, s, none⟩ (.int .i64 y0)) := by refine Kept.setCell (Kept.refl _ _) ?_ _; intro _; rfl
    by_cases p1 : 0 < y.n0
    · have HS : Hid (leftV y) := .inl p1
      go_wp2_with fail
      generalize w5.setCell ⟨F, s, none⟩ (.int .i64 y0) = w6 at *
      have hv6 := hv4.kept k6 (by omega) (by omega)
      have K6 : Kept (fun n => n = N) w w6 := K4.trans k6 (fun k h1 h2 => by omega)
      clear c0 c1 cz fz hyz hF4 hv4 K4 k6
      have KS : ∀ w', Kept (fun n => n = N) w6 w' → True := fun _ _ => trivial
      have KV : ∀ w', Kept (fun n => n = N) w6 w' → w'.rangeAt F 0 (vc y) := fun w' hk' => range_kept (whole_range hFy) hk' (by omega)
      refine wp_region_held_drew (S := fun w' => Kept (fun n => n = N) w6 w') (by kernel_rfl) ((Kept.refl _ _).drew) (fun hHeld => ?_)
      refine h_take 0 (some 38) (Op.move (Operand.tmp 0)) 25 ?v1 rfl rfl (by kernel_rfl) (by kernel_rfl) (by kernel_rfl) (fun _ _ _ h => h) ?hy1 hHeld ?_
      case hy1 => (intro _ _ _ w hSw; have hcs := KS _ hSw; go_simp; try with_reducible rfl)
      simp only [Act.put, List.setIfInBounds_toArray, List.set_cons_zero, List.set_cons_succ]
      refine h_take 1 (some 39) (Op.move (Operand.tmp 1)) 3 ?v2 rfl rfl (by kernel_rfl) (by kernel_rfl) (by kernel_rfl) (fun _ _ _ h => h) ?hy2 hHeld ?_
      case hy2 => (intro _ _ _ w hSw; have hcs := KS _ hSw; go_simp; try with_reducible rfl)
      simp only [Act.put, List.setIfInBounds_toArray, List.set_cons_zero, List.set_cons_succ]
      refine h_take 3 (some 41) (Op.load 61 (Operand.tmp 9)) 61 (vv y) rfl rfl (by kernel_rfl) (by kernel_rfl) (by kernel_rfl) (fun _ _ _ h => h) (fun _ _ _ w hSw => exec_load rfl (load_wide wide_V (KV w hSw) rfl)) hHeld ?_
      simp only [Act.put, List.setIfInBounds_toArray, List.set_cons_zero, List.set_cons_succ]
      refine h_step 2 (some 40) (Op.call { callee := Callee.value (Operand.func 32), args := #[Operand.tmp 39], argTypes := #[3] }) 58 rfl rfl (by kernel_rfl) (fun _ _ _ K hK => ?_)
      go_simp
      refine (pobject_w i _).mono ?_
      rintro e w7 ⟨rfl, hk7⟩
      replace hk7 : Kept (fun _ => False) w6 w7 := (Kept.refl _ w6).drew.thru hk7
      go_wp2_with fail
      refine hK.out _ _ (hk7.mono (fun _ _ e => e.elim)) (fun hHeld => ?_)
      clear hK K
      try simp only [Act.put, List.setIfInBounds_toArray, List.set_cons_zero, List.set_cons_succ]
      refine h_step 4 (some 42) (Op.call { callee := Callee.value (Operand.func 31), args := #[Operand.tmp 38, Operand.tmp 40, Operand.tmp 41], argTypes := #[25, 58, 61] }) 0 rfl rfl (by kernel_rfl) (fun _ _ _ K hK => ?_)
      go_simp
      refine (vput_w q N p (seeT g i) 8 i y w7 (hv6.still hk7)).mono ?_
      rintro e w8 ⟨rfl, hv8, hk8⟩
      replace hk8 : Kept (fun n => n = N) w6 w8 := (hk7.mono (fun _ _ e => e.elim)).trans hk8 (fun _ _ e => e)
      go_wp2_with fail
      refine hK.out _ _ (hk8) (fun hHeld => ?_)
      clear hK K
      try simp only [Act.put, List.setIfInBounds_toArray, List.set_cons_zero, List.set_cons_succ]
      refine wpAnyH_done (by kernel_rfl) ?_ _
      have HZ : Hid (ViewIn q N p (endT f g i wr b) w8 ∧ Kept (fun n => n = N) w w8) := ⟨by rw [HT.out, if_pos HS.out]; exact hv8, K6.trans hk8 (fun _ _ e => e)⟩
      clear hHeld KS KV hk7 hv6 hk8 hv8 hFy K6
      go_wp2_with fail
      exact bodyPost_ret (v := .bool true) (by simp [results, Try.results12, go_sem]) rfl ⟨rfl, HZ.out⟩
    by_cases p2 : 0 < y.n1
    · have HS : Hid (leftV y) := .inr p2
      go_wp2_with fail
      generalize w5.setCell ⟨F, s, none⟩ (.int .i64 y0) = w6 at *
      have hv6 := hv4.kept k6 (by omega) (by omega)
      have K6 : Kept (fun n => n = N) w w6 := K4.trans k6 (fun k h1 h2 => by omega)
      clear c0 c1 cz fz hyz hF4 hv4 K4 k6
      have KS : ∀ w', Kept (fun n => n = N) w6 w' → True := fun _ _ => trivial
      have KV : ∀ w', Kept (fun n => n = N) w6 w' → w'.rangeAt F 0 (vc y) := fun w' hk' => range_kept (whole_range hFy) hk' (by omega)
      refine wp_region_held_drew (S := fun w' => Kept (fun n => n = N) w6 w') (by kernel_rfl) ((Kept.refl _ _).drew) (fun hHeld => ?_)
      refine h_take 0 (some 38) (Op.move (Operand.tmp 0)) 25 ?v3 rfl rfl (by kernel_rfl) (by kernel_rfl) (by kernel_rfl) (fun _ _ _ h => h) ?hy3 hHeld ?_
      case hy3 => (intro _ _ _ w hSw; have hcs := KS _ hSw; go_simp; try with_reducible rfl)
      simp only [Act.put, List.setIfInBounds_toArray, List.set_cons_zero, List.set_cons_succ]
      refine h_take 1 (some 39) (Op.move (Operand.tmp 1)) 3 ?v4 rfl rfl (by kernel_rfl) (by kernel_rfl) (by kernel_rfl) (fun _ _ _ h => h) ?hy4 hHeld ?_
      case hy4 => (intro _ _ _ w hSw; have hcs := KS _ hSw; go_simp; try with_reducible rfl)
      simp only [Act.put, List.setIfInBounds_toArray, List.set_cons_zero, List.set_cons_succ]
      refine h_take 3 (some 41) (Op.load 61 (Operand.tmp 9)) 61 (vv y) rfl rfl (by kernel_rfl) (by kernel_rfl) (by kernel_rfl) (fun _ _ _ h => h) (fun _ _ _ w hSw => exec_load rfl (load_wide wide_V (KV w hSw) rfl)) hHeld ?_
      simp only [Act.put, List.setIfInBounds_toArray, List.set_cons_zero, List.set_cons_succ]
      refine h_step 2 (some 40) (Op.call { callee := Callee.value (Operand.func 32), args := #[Operand.tmp 39], argTypes := #[3] }) 58 rfl rfl (by kernel_rfl) (fun _ _ _ K hK => ?_)
      go_simp
      refine (pobject_w i _).mono ?_
      rintro e w7 ⟨rfl, hk7⟩
      replace hk7 : Kept (fun _ => False) w6 w7 := (Kept.refl _ w6).drew.thru hk7
      go_wp2_with fail
      refine hK.out _ _ (hk7.mono (fun _ _ e => e.elim)) (fun hHeld => ?_)
      clear hK K
      try simp only [Act.put, List.setIfInBounds_toArray, List.set_cons_zero, List.set_cons_succ]
      refine h_step 4 (some 42) (Op.call { callee := Callee.value (Operand.func 31), args := #[Operand.tmp 38, Operand.tmp 40, Operand.tmp 41], argTypes := #[25, 58, 61] }) 0 rfl rfl (by kernel_rfl) (fun _ _ _ K hK => ?_)
      go_simp
      refine (vput_w q N p (seeT g i) 8 i y w7 (hv6.still hk7)).mono ?_
      rintro e w8 ⟨rfl, hv8, hk8⟩
      replace hk8 : Kept (fun n => n = N) w6 w8 := (hk7.mono (fun _ _ e => e.elim)).trans hk8 (fun _ _ e => e)
      go_wp2_with fail
      refine hK.out _ _ (hk8) (fun hHeld => ?_)
      clear hK K
      try simp only [Act.put, List.setIfInBounds_toArray, List.set_cons_zero, List.set_cons_succ]
      refine wpAnyH_done (by kernel_rfl) ?_ _
      have HZ : Hid (ViewIn q N p (endT f g i wr b) w8 ∧ Kept (fun n => n = N) w w8) := ⟨by rw [HT.out, if_pos HS.out]; exact hv8, K6.trans hk8 (fun _ _ e => e)⟩
      clear hHeld KS KV hk7 hv6 hk8 hv8 hFy K6
      go_wp2_with fail
      exact bodyPost_ret (v := .bool true) (by simp [results, Try.results12, go_sem]) rfl ⟨rfl, HZ.out⟩
    · have HS : Hid (¬ leftV y) := fun e => by unfold leftV at e; omega
      have HT2 : Hid (endT f g i wr b = lostT f (seeT g i) i) := by show _ = _; rw [HT.out, if_neg HS.out]
      go_wp2_with fail
      generalize w5.setCell ⟨F, s, none⟩ (.int .i64 y0) = w6 at *
      have hv6 := hv4.kept k6 (by omega) (by omega)
      have K6 : Kept (fun n => n = N) w w6 := K4.trans k6 (fun k h1 h2 => by omega)
      clear c0 c1 cz fz hyz hF4 hv4 K4 k6 HT HS hFy p1 p2
      refine (pobject_w i _).mono ?_
      rintro e w7 ⟨rfl, hk7⟩
      go_wp2_with fail
      refine (vput_w q N p (seeT g i) 8 i zeroV w7 (hv6.still hk7)).mono ?_
      rintro e w8 ⟨rfl, hv8, hk8⟩
      have K8 : Kept (fun n => n = N) w w8 := (K6.trans hk7 (fun _ _ e => e.elim)).trans hk8 (fun _ _ e => e)
      clear hk7 hk8 hv6 K6
      go_wp2_with fail
      refine (ptable_w _).mono ?_
      rintro e w9 ⟨rfl, hk9⟩
      go_wp2_with fail
      have K9 := K8.trans hk9 (fun _ _ e => e.elim)
      refine (vget_w q N p B f _ 7 0 w9 (hv8.still hk9) (hsk _ K9) hNB).mono ?_
      rintro e w10 ⟨rfl, hv10, hk10⟩
      have K10 : Kept (fun n => n = N) w w10 := K9.trans hk10 (fun _ _ e => e)
      clear hk9 hk10 hv8 K8 K9
      have ez : vgetF f (vputT (seeT g i) (8, i) zeroV) (7, 0) = tabV f (seeT g i) := tab_put (f := f) (g := seeT g i) hi1 hi2 zeroV
      rw [ez]
      have HG : Hid (lostT f (seeT g i) i = vputT (vgetT (vputT (seeT g i) (8, i) zeroV) (7, 0)) (7, 0) (withN (tabV f (seeT g i)) (clrN (tabV f (seeT g i)).n0 i))) := rfl
      generalize tabV f (seeT g i) = z at *
      clear ez
      obtain ⟨G, hG⟩ : ∃ G : Nat, w10.heap.size = G := ⟨_, rfl⟩
      have lG : w.heap.size ≤ G := by have := K10.size; omega
      have hz11 : (w10.alloc (.cells (vc z).toArray 61)).heap[G]? = some (.cells (vc z).toArray 61 (0, 0)) := alloc_at' _ hG
      have hv11 := hv10.still ((Kept.refl _ w10).alloc (.cells (vc z).toArray 61))
      have K11 : Kept (fun n => n = N) w (w10.alloc (.cells (vc z).toArray 61)) := K10.alloc _
      clear hv10 K10
      go_wp2_with (first | (refine list_wnew rfl wide_V _ _ rfl G rfl (vc z) rfl _ rfl hG rfl (vc_one _) ?_))
      generalize w10.alloc (.cells (vc z).toArray 61) = w11 at *
      have c0 : w11.cell? ⟨G, 0, none⟩ = some (.int .i64 z.n0) := cell_at hz11 rfl
      have f0 := free_at hz11 0
      go_wp2_with fail
      try simp only [Act.put]
      go_cut [10] from 51 to 58 (fun v wc => v = .pointer (some ⟨G, 0, none⟩) ∧ Hid (Kept (fun n => n = G) w11 wc ∧ wc.heap[G]? = some (.cells (vc (withN z (clrN z.n0 i))).toArray 61 (0, 0))))
      case first =>
        go_region_with (refine (pbit_w i _ (by omega) (by omega)).mono ?_; rintro e wd ⟨rfl, hwd⟩; subst hwd)
        all_goals
          go_wp2
          go_meet
          case rel => exact And.intro rfl (And.intro (by refine Kept.drew (Kept.setCell (Kept.refl _ _) ?_ _); intro _; rfl) (by show (w11.setCell _ _).heap[G]? = _; rw [set_at hz11]; rfl))
      case rest =>
        obtain ⟨rfl, HC⟩ := hcut
        have hFy := HC.out.2
        have hvw : ViewIn q N p _ wc := hv11.kept HC.out.1 (by omega) (by omega)
        have hKw : Kept (fun n => n = N) w wc := K11.trans HC.out.1 (fun k h1 h2 => by omega)
        clear c0 f0 HC K11 hv11 hz11
        obtain ⟨y0, hy0⟩ : ∃ y0, withN z (clrN z.n0 i) = y0 := ⟨_, rfl⟩
        rw [hy0] at hFy HG
        clear hy0
        have KS : ∀ w', Kept (fun n => n = N) wc w' → True := fun _ _ => trivial
        have KV : ∀ w', Kept (fun n => n = N) wc w' → w'.rangeAt G 0 (vc y0) := fun w' hk' => range_kept (whole_range hFy) hk' (by omega)
        go_wp2_with fail
        refine wp_region_held_drew (S := fun w' => Kept (fun n => n = N) wc w') (by kernel_rfl) ((Kept.refl _ _).drew) (fun hHeld => ?_)
        refine h_take 0 (some 59) (Op.move (Operand.tmp 0)) 25 ?v5 rfl rfl (by kernel_rfl) (by kernel_rfl) (by kernel_rfl) (fun _ _ _ h => h) ?hy5 hHeld ?_
        case hy5 => (intro _ _ _ w hSw; have hcs := KS _ hSw; go_simp; try with_reducible rfl)
        simp only [Act.put, List.setIfInBounds_toArray, List.set_cons_zero, List.set_cons_succ]
        refine h_take 2 (some 61) (Op.load 61 (Operand.tmp 10)) 61 (vv y0) rfl rfl (by kernel_rfl) (by kernel_rfl) (by kernel_rfl) (fun _ _ _ h => h) (fun _ _ _ w hSw => exec_load rfl (load_wide wide_V (KV w hSw) rfl)) hHeld ?_
        simp only [Act.put, List.setIfInBounds_toArray, List.set_cons_zero, List.set_cons_succ]
        refine h_step 1 (some 60) (Op.call { callee := Callee.value (Operand.func 29), args := #[], argTypes := #[] }) 58 rfl rfl (by kernel_rfl) (fun _ _ _ K hK => ?_)
        go_simp
        refine (ptable_w _).mono ?_
        rintro e w5 ⟨rfl, hk5⟩
        replace hk5 : Kept (fun _ => False) wc w5 := (Kept.refl _ wc).drew.thru hk5
        go_wp2_with fail
        refine hK.out _ _ (hk5.mono (fun _ _ e => e.elim)) (fun hHeld => ?_)
        clear hK K
        try simp only [Act.put, List.setIfInBounds_toArray, List.set_cons_zero, List.set_cons_succ]
        refine h_step 3 (some 62) (Op.call { callee := Callee.value (Operand.func 31), args := #[Operand.tmp 59, Operand.tmp 60, Operand.tmp 61], argTypes := #[25, 58, 61] }) 0 rfl rfl (by kernel_rfl) (fun _ _ _ K hK => ?_)
        go_simp
        refine (vput_w q N p _ 7 0 y0 w5 (hvw.still hk5)).mono ?_
        rintro e wz ⟨rfl, hvz, hkz⟩
        replace hkz : Kept (fun n => n = N) wc wz := (hk5.mono (fun _ _ e => e.elim)).trans hkz (fun _ _ e => e)
        go_wp2_with fail
        refine hK.out _ _ (hkz) (fun hHeld => ?_)
        clear hK K
        try simp only [Act.put, List.setIfInBounds_toArray, List.set_cons_zero, List.set_cons_succ]
        refine wpAnyH_done (by kernel_rfl) ?_ _
        have HZ : Hid (ViewIn q N p (endT f g i wr b) wz ∧ Kept (fun n => n = N) w wz) := ⟨by rw [HT2.out, HG.out]; exact hvz, hKw.trans hkz (fun _ _ e => e)⟩
        clear hHeld KS KV hk5 hvw hKw hkz hvz hFy
        go_wp2_with fail
        exact bodyPost_ret (v := .bool true) (by simp [results, Try.results12, go_sem]) rfl ⟨rfl, HZ.out⟩
end Go.Proofs.Ytdjdnjngelahjaa
