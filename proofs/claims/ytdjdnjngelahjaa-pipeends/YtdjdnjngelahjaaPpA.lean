
/- What the code's pipes do when they are called: Is, Alloc; no conditions but lengths. -/
import Derived.Test.YtdjdnjngelahjaaPpT
namespace Go.Proofs.Ytdjdnjngelahjaa
open Go.RowKit
set_option maxRecDepth 100000
set_option linter.unusedSimpArgs false

theorem pbit_w (i : Int) (w : World) (h : 0 ≤ i) (h' : i < 16) : Calls Try.prog 30 #[.int .i64 i] w fun e w' => e = .returned (.int .i64 (pw i)) ∧ w' = w := by
  have hp := pw_wrap h h'
  go_enter Try.func30, Try.ntmps30
  go_wp2
  rw [hp]
  go_ret
  exact ⟨rfl, rfl⟩

theorem pobject_w (i : Int) (w : World) : Calls Try.prog 32 #[.int .i64 i] w fun e w' => e = .returned (.agg #[.int .i64 8, .int .i64 i]) ∧ Kept (fun _ => False) w w' := by
  go_enter Try.func32, Try.ntmps32
  go_wp2
  exact bodyPost_ret (results_cell_row Try.results32 _ _ w.heap.size _ _ _ _ rfl (alloc_at _ _) Try.underlying58 rfl wide_K.size) rfl ⟨rfl, (Kept.refl _ _).alloc _⟩

theorem ptable_w (w : World) : Calls Try.prog 29 #[] w fun e w' => e = .returned (.agg #[.int .i64 7, .int .i64 0]) ∧ Kept (fun _ => False) w w' := by
  go_enter Try.func29, Try.ntmps29
  go_wp2
  exact bodyPost_ret (results_cell_row Try.results29 _ _ w.heap.size _ _ _ _ rfl (alloc_at _ _) Try.underlying58 rfl wide_K.size) rfl ⟨rfl, (Kept.refl _ _).alloc _⟩

def sideN (b : Bool) : Int := if b = true then 1 else 0
theorem pside_w (b : Bool) (w : World) : Calls Try.prog 34 #[.bool b] w fun e w' => e = .returned (.int .i64 (sideN b)) ∧ w' = w := by
  cases b with
  | true =>
    go_enter Try.func34, Try.ntmps34
    go_wp2
    go_ret
    exact ⟨rfl, rfl⟩
  | false =>
    go_enter Try.func34, Try.ntmps34
    go_wp2
    go_ret
    exact ⟨rfl, rfl⟩

theorem pis_w (q N p B : Nat) (f : StF) (g : VwF) (i : Int) (w : World) (h : ViewIn q N p g w) (hs : StoreIn p B f w) (hNB : N ≠ B) : Calls Try.prog 13 #[.pointer (some ⟨q, 0, none⟩), .int .i64 i] w
    fun e w' => e = .returned (.bool (isP f g i)) ∧ ViewIn q N p (isPT g i) w' ∧ Kept (fun n => n = N) w w' := by
  by_cases hr : 0 ≤ i ∧ i < 4
  · have HV : Hid (isP f g i = hasB (vgetF f g (7, 0)).n0 i ∧ isPT g i = vgetT g (7, 0)) := isP_in hr
    obtain ⟨r1, r2⟩ := hr
    go_enter Try.func13, Try.ntmps13
    go_wp2_with fail
    refine (ptable_w _).mono ?_
    rintro e w1 ⟨rfl, hk1⟩
    go_wp2_with fail
    refine (vget_w q N p B f g 7 0 w1 (h.still hk1) (hs.still hk1) hNB).mono ?_
    rintro e w2 ⟨rfl, hv2, hk2⟩
    have HZ : Hid (ViewIn q N p (isPT g i) w2 ∧ Kept (fun n => n = N) w w2) := ⟨by rw [HV.out.2]; exact hv2, (hk1.mono (fun _ _ e => e.elim)).trans hk2 (fun _ _ e => e)⟩
    have hf := field_arr (vgetF f g (7, 0)) w2
    have hx := index_n0 (vgetF f g (7, 0)) w2
    clear hv2 hk2 hk1 h hs
    generalize vgetF f g (7, 0) = x at *
    have hb := and_b x.n0 i r1 (by omega)
    cases hbit : hasB x.n0 i with
    | true =>
      rw [hbit, if_pos rfl] at hb
      have hz : (pw i != 0) = true := by have := pw_pos (i := i) r1 (by omega); simp; omega
      have HE : Hid (isP f g i = true) := by show _ = _; rw [HV.out.1]; exact hbit
      clear hbit HV
      go_wp2_with fail
      refine (pbit_w i _ r1 (by omega)).mono ?_
      rintro e w3 ⟨rfl, hw3⟩
      subst hw3
      go_wp2_with fail
      go_ret
      exact ⟨by rw [HE.out]; rfl, HZ.out⟩
    | false =>
      rw [hbit] at hb
      simp only [Bool.false_eq_true, if_false] at hb
      have HE : Hid (isP f g i = false) := by show _ = _; rw [HV.out.1]; exact hbit
      clear hbit HV
      go_wp2_with fail
      refine (pbit_w i _ r1 (by omega)).mono ?_
      rintro e w3 ⟨rfl, hw3⟩
      subst hw3
      go_wp2_with fail
      go_ret
      exact ⟨by rw [HE.out]; rfl, HZ.out⟩
  · have HV : Hid (isP f g i = false ∧ isPT g i = g) := isP_out hr
    have HZ : Hid (ViewIn q N p (isPT g i) w ∧ Kept (fun n => n = N) w w) := ⟨by rw [HV.out.2]; exact h, Kept.refl _ _⟩
    clear h hs
    by_cases r1 : 0 ≤ i
    · have r2 : ¬ i < 4 := by omega
      clear hr
      go_enter Try.func13, Try.ntmps13
      go_wp2
      go_ret
      exact ⟨by rw [HV.out.1]; rfl, HZ.out⟩
    · clear hr
      go_enter Try.func13, Try.ntmps13
      go_wp2
      go_ret
      exact ⟨by rw [HV.out.1]; rfl, HZ.out⟩

set_option maxHeartbeats 1000000 in
theorem pal_w (q N p B : Nat) (f : StF) (g : VwF) (w : World) (h : ViewIn q N p g w) (hs : StoreIn p B f w) (hNB : N ≠ B) : Calls Try.prog 9 #[.pointer (some ⟨q, 0, none⟩)] w
    fun e w' => e = .returned (palV (palA f g)) ∧ ViewIn q N p (palT f g) w' ∧ Kept (fun n => n = N) w w' := by
  have hN : N < w.heap.size := h.map.lt
  have hq : q < w.heap.size := lt_at h.cell
  go_enter Try.func9, Try.ntmps9
  go_wp2_with fail
  refine (ptable_w w).mono ?_
  rintro e w1 ⟨rfl, hk1⟩
  go_wp2_with fail
  refine (vget_w q N p B f g 7 0 w1 (h.still hk1) (hs.still hk1) hNB).mono ?_
  rintro e w2 ⟨rfl, hv2, hk2⟩
  have k2 : Kept (fun n => n = N) w w2 := (hk1.mono (fun _ _ e => e.elim)).trans hk2 (fun _ _ e => e)
  have HA : Hid (palA f g = freeP (vgetF f g (7, 0)).n0 ∧ palT f g = if palA f g < 4 then vputT (vputT (vgetT g (7, 0)) (7, 0) (withN (vgetF f g (7, 0)) (orN (vgetF f g (7, 0)).n0 (palA f g)))) (8, palA f g) newP else vgetT g (7, 0)) := ⟨rfl, rfl⟩
  generalize vgetF f g (7, 0) = x at *
  obtain ⟨F, hF⟩ : ∃ F : Nat, w2.heap.size = F := ⟨_, rfl⟩
  have lF : w.heap.size ≤ F := by have := k2.size; omega
  have hv3 : ViewIn q N p (vgetT g (7, 0)) (w2.alloc (.cells (vc x).toArray 61)) := hv2.still ((Kept.refl _ _).alloc _)
  have k3 : Kept (fun n => n = N) w (w2.alloc (.cells (vc x).toArray 61)) := k2.alloc _
  have hF3 : (w2.alloc (.cells (vc x).toArray 61)).heap[F]? = some (.cells (vc x).toArray 61 (0, 0)) := alloc_at' _ hF
  clear h hs hk1 hk2 hv2 k2
  go_wp2_with (first | (refine list_wnew rfl wide_V _ _ rfl F rfl (vc x) rfl _ rfl hF rfl (vc_one _) ?_))
  generalize w2.alloc (.cells (vc x).toArray 61) = w3 at *
  clear hF
  have H0 : Hid (Kept (fun _ => False) w3 w3) := Kept.refl _ _
  have HF : Hid (w3.heap[F]? = some (.cells (vc x).toArray 61 (0, 0))) := hF3
  have HV : Hid (ViewIn q N p (vgetT g (7, 0)) w3 ∧ Kept (fun n => n = N) w w3) := ⟨hv3, k3⟩
  clear hF3 hv3 k3
  go_loopw [5, 10] (fun _ v wr => ∃ i : Int, v = .int .i64 i ∧ 0 ≤ i ∧ i ≤ 4 ∧ Hid (∀ j, 0 ≤ j → j < i → hasB x.n0 j = true) ∧ Hid (Kept (fun _ => False) w3 wr)) (fun _ v _ => (4 - intOf v).toNat)
  case atStart => exact ⟨0, rfl, by omega, by omega, fun j h1 h2 => by omega, H0.out⟩
  case round =>
    obtain ⟨i, rfl, hi1, hi2, HB, HK⟩ := hrel
    clear H0
    by_cases hlt : i < 4
    · have hb := and_b x.n0 i (by omega) (by omega)
      have hF4 := HK.out.at HF.out (fun x => x)
      have c0 := cell_at hF4 (i := 0) (v := .int .i64 x.n0) rfl
      cases hbit : hasB x.n0 i with
      | true =>
        rw [hbit, if_pos rfl] at hb
        have hz : (pw i != 0) = true := by have := pw_pos (i := i) (by omega) (by omega); simp; omega
        have HB2 : Hid (∀ j, 0 ≤ j → j < i + 1 → hasB x.n0 j = true) := fun j h1 h2 => by
          by_cases e : j = i
          · rw [e]; exact hbit
          · exact HB.out j h1 (by omega)
        clear hbit
        go_wp2_with fail
        go_quiet (exact Calls.quiet_of_same (pbit_w i _ (by omega) (by omega)))
        have HK2 : Hid (Kept (fun _ => False) w3 (wr.drewN nq)) := HK.out.trans (kept_drewN _ _) (fun _ _ e => e)
        clear hF4 c0 HK HB
        go_wp2
        go_roundw
        case rel => exact ⟨i + 1, rfl, by omega, by omega, HB2.out, HK2⟩
        case measure => simp [intOf]; omega
      | false =>
        rw [hbit] at hb
        simp only [Bool.false_eq_true, if_false] at hb
        have HE : Hid (palA f g = i) := by show _ = _; rw [HA.out.1]; exact freeP_at hi1 hlt HB.out hbit
        clear hbit
        go_wp2_with fail
        go_quiet (exact Calls.quiet_of_same (pbit_w i _ (by omega) (by omega)))
        have HK2 : Hid (Kept (fun _ => False) w3 (wr.drewN nq)) := HK.out.trans (kept_drewN _ _) (fun _ _ e => e)
        clear hF4 c0 HK HB
        generalize wr.drewN nq = wd at *
        have hF4 := HK2.out.at HF.out (fun x => x)
        have c0 := cell_at hF4 (i := 0) (v := .int .i64 x.n0) rfl
        have f0 := free_at hF4 0
        go_wp2_with fail
        go_cut [4] from 20 to 27 (fun v wc => v = .pointer (some ⟨F, 0, none⟩) ∧ Hid (Kept (fun n => n = F) wd wc ∧ wc.heap[F]? = some (.cells (vc (withN x (orN x.n0 i))).toArray 61 (0, 0))))
        case first =>
          go_region_with (refine (pbit_w i _ (by omega) (by omega)).mono ?_; rintro e w4 ⟨rfl, hw4⟩; subst hw4)
          all_goals
            go_wp2
            go_meet
            case rel => exact And.intro rfl (And.intro (by refine Kept.drew (Kept.setCell (Kept.refl _ _) ?_ _); intro _; rfl) (by show (wd.setCell _ _).heap[F]? = _; rw [set_at hF4]; rfl))
        case rest =>
          obtain ⟨rfl, HC⟩ := hcut
          have hFy := HC.out.2
          have hK : Kept (fun n => n = F) w3 wc := (HK2.out.mono (fun _ _ e => e.elim)).trans HC.out.1 (fun _ _ e => e)
          have hvw : ViewIn q N p (vgetT g (7, 0)) wc := HV.out.1.kept hK (by omega) (by omega)
          have hKw : Kept (fun n => n = N) w wc := HV.out.2.trans hK (fun k h1 h2 => by omega)
          clear hF4 c0 f0 HK2 HC hK HV HF
          obtain ⟨y, hy⟩ : ∃ y, withN x (orN x.n0 i) = y := ⟨_, rfl⟩
          rw [hy] at hFy
          have HY : Hid (palT f g = vputT (vputT (vgetT g (7, 0)) (7, 0) y) (8, i) newP) := by
            show _ = _
            rw [HA.out.2, HE.out, if_pos hlt, hy]
          clear hy HA
          have KS : ∀ w', Kept (fun n => n = N) wc w' → True := fun _ _ => trivial
          have KV : ∀ w', Kept (fun n => n = N) wc w' → w'.rangeAt F 0 (vc y) := fun w' hk' => range_kept (whole_range hFy) hk' (by omega)
          go_wp2_with fail
          refine wp_region_held_drew (S := fun w' => Kept (fun n => n = N) wc w') (by kernel_rfl) ((Kept.refl _ _).drew) (fun hHeld => ?_)
          refine h_take 0 (some 28) (Op.move (Operand.tmp 0)) 25 ?v1 rfl rfl (by kernel_rfl) (by kernel_rfl) (by kernel_rfl) (fun _ _ _ h => h) ?hy1 hHeld ?_
          case hy1 => (intro _ _ _ w hSw; have hcs := KS _ hSw; go_simp; try with_reducible rfl)
          simp only [Act.put, List.setIfInBounds_toArray, List.set_cons_zero, List.set_cons_succ]
          refine h_take 2 (some 30) (Op.load 61 (Operand.tmp 4)) 61 (vv y) rfl rfl (by kernel_rfl) (by kernel_rfl) (by kernel_rfl) (fun _ _ _ h => h) (fun _ _ _ w hSw => exec_load rfl (load_wide wide_V (KV w hSw) rfl)) hHeld ?_
          simp only [Act.put, List.setIfInBounds_toArray, List.set_cons_zero, List.set_cons_succ]
          refine h_step 1 (some 29) (Op.call { callee := Callee.value (Operand.func 29), args := #[], argTypes := #[] }) 58 rfl rfl (by kernel_rfl) (fun _ _ _ K hK => ?_)
          go_simp
          refine (ptable_w _).mono ?_
          rintro e w5 ⟨rfl, hk5⟩
          replace hk5 : Kept (fun _ => False) wc w5 := (Kept.refl _ wc).drew.thru hk5
          go_wp2_with fail
          refine hK.out _ _ (hk5.mono (fun _ _ e => e.elim)) (fun hHeld => ?_)
          clear hK K
          try simp only [Act.put, List.setIfInBounds_toArray, List.set_cons_zero, List.set_cons_succ]
          refine h_step 3 (some 31) (Op.call { callee := Callee.value (Operand.func 31), args := #[Operand.tmp 28, Operand.tmp 29, Operand.tmp 30], argTypes := #[25, 58, 61] }) 0 rfl rfl (by kernel_rfl) (fun _ _ _ K hK => ?_)
          go_simp
          refine (vput_w q N p (vgetT g (7, 0)) 7 0 y w5 (hvw.still hk5)).mono ?_
          rintro e w6 ⟨rfl, hv6, hk6⟩
          replace hk6 : Kept (fun n => n = N) wc w6 := (hk5.mono (fun _ _ e => e.elim)).trans hk6 (fun _ _ e => e)
          go_wp2_with fail
          refine hK.out _ _ (hk6) (fun hHeld => ?_)
          clear hK K
          try simp only [Act.put, List.setIfInBounds_toArray, List.set_cons_zero, List.set_cons_succ]
          refine wpAnyH_done (by kernel_rfl) ?_ _
          have hK6 : Kept (fun n => n = N) w w6 := hKw.trans hk6 (fun _ _ e => e)
          clear hHeld KS KV hk5 hvw hKw hk6 hFy
          obtain ⟨G, hG⟩ : ∃ G : Nat, w6.heap.size = G := ⟨_, rfl⟩
          have lG : N < G := by have := hK6.size; omega
          have lq : q < G := by have := hK6.size; omega
          have lw : w.heap.size ≤ G := by have := hK6.size; omega
          obtain ⟨w7, h7⟩ : ∃ w7, w6.alloc (.cells (vc zeroV).toArray 61) = w7 := ⟨_, rfl⟩
          have b7 : w7.heap[G]? = some (.cells (vc zeroV).toArray 61 (0, 0)) := by subst h7; exact alloc_at' _ hG
          have k7 : Kept (fun _ => False) w6 w7 := by subst h7; exact (Kept.refl _ _).alloc _
          have c0 : w7.cell? ⟨G, 0, none⟩ = some (.int .i64 0) := cell_at b7 rfl
          have f0 := free_at b7 0
          have b8 := set_at b7 0 (.int .i64 1)
          have c1 : (w7.setCell ⟨G, 0, none⟩ (.int .i64 1)).cell? ⟨G, 1, none⟩ = some (.int .i64 0) := cell_at b8 rfl
          have f1 := free_at b8 1
          have b9 : ((w7.setCell ⟨G, 0, none⟩ (.int .i64 1)).setCell ⟨G, 1, none⟩ (.int .i64 1)).heap[G]? = some (.cells (vc newP).toArray 61 (0, 0)) := by rw [set_at b8]; rfl
          have k9 : Kept (fun _ => False) w6 ((w7.setCell ⟨G, 0, none⟩ (.int .i64 1)).setCell ⟨G, 1, none⟩ (.int .i64 1)) := Kept.setCell (Kept.setCell k7 (fun e => by simp at e; omega) _) (fun e => by simp at e; omega) _
          rw [zero_cells] at h7
          clear b8
          go_wp2_with fail
          generalize (w7.setCell ⟨G, 0, none⟩ (.int .i64 1)).setCell ⟨G, 1, none⟩ (.int .i64 1) = w8 at *
          clear c0 f0 c1 f1 b7 k7 h7 hG
          have hv8 := hv6.still k9
          have hK8 := hK6.trans k9 (fun _ _ e => e.elim)
          clear hv6 hK6 k9
          have KS : ∀ w', Kept (fun n => n = N) w8 w' → True := fun _ _ => trivial
          have KV : ∀ w', Kept (fun n => n = N) w8 w' → w'.rangeAt G 0 (vc newP) := fun w' hk' => range_kept (whole_range b9) hk' (by omega)
          refine wp_region_held_drew (S := fun w' => Kept (fun n => n = N) w8 w') (by kernel_rfl) ((Kept.refl _ _).drew) (fun hHeld => ?_)
          refine h_take 0 (some 36) (Op.move (Operand.tmp 0)) 25 ?v2 rfl rfl (by kernel_rfl) (by kernel_rfl) (by kernel_rfl) (fun _ _ _ h => h) ?hy2 hHeld ?_
          case hy2 => (intro _ _ _ w hSw; have hcs := KS _ hSw; go_simp; try with_reducible rfl)
          simp only [Act.put, List.setIfInBounds_toArray, List.set_cons_zero, List.set_cons_succ]
          refine h_take 1 (some 37) (Op.move (Operand.tmp 5)) 3 ?v3 rfl rfl (by kernel_rfl) (by kernel_rfl) (by kernel_rfl) (fun _ _ _ h => h) ?hy3 hHeld ?_
          case hy3 => (intro _ _ _ w hSw; have hcs := KS _ hSw; go_simp; try with_reducible rfl)
          simp only [Act.put, List.setIfInBounds_toArray, List.set_cons_zero, List.set_cons_succ]
          refine h_take 3 (some 39) (Op.load 61 (Operand.tmp 6)) 61 (vv newP) rfl rfl (by kernel_rfl) (by kernel_rfl) (by kernel_rfl) (fun _ _ _ h => h) (fun _ _ _ w hSw => exec_load rfl (load_wide wide_V (KV w hSw) rfl)) hHeld ?_
          simp only [Act.put, List.setIfInBounds_toArray, List.set_cons_zero, List.set_cons_succ]
          refine h_step 2 (some 38) (Op.call { callee := Callee.value (Operand.func 32), args := #[Operand.tmp 37], argTypes := #[3] }) 58 rfl rfl (by kernel_rfl) (fun _ _ _ K hK => ?_)
          go_simp
          refine (pobject_w i _).mono ?_
          rintro e w9 ⟨rfl, hk9⟩
          replace hk9 : Kept (fun _ => False) w8 w9 := (Kept.refl _ w8).drew.thru hk9
          go_wp2_with fail
          refine hK.out _ _ (hk9.mono (fun _ _ e => e.elim)) (fun hHeld => ?_)
          clear hK K
          try simp only [Act.put, List.setIfInBounds_toArray, List.set_cons_zero, List.set_cons_succ]
          refine h_step 4 (some 40) (Op.call { callee := Callee.value (Operand.func 31), args := #[Operand.tmp 36, Operand.tmp 38, Operand.tmp 39], argTypes := #[25, 58, 61] }) 0 rfl rfl (by kernel_rfl) (fun _ _ _ K hK => ?_)
          go_simp
          refine (vput_w q N p _ 8 i newP w9 (hv8.still hk9)).mono ?_
          rintro e wz ⟨rfl, hvz, hkz⟩
          replace hkz : Kept (fun n => n = N) w8 wz := (hk9.mono (fun _ _ e => e.elim)).trans hkz (fun _ _ e => e)
          go_wp2_with fail
          refine hK.out _ _ (hkz) (fun hHeld => ?_)
          clear hK K
          try simp only [Act.put, List.setIfInBounds_toArray, List.set_cons_zero, List.set_cons_succ]
          refine wpAnyH_done (by kernel_rfl) ?_ _
          have hKz : Kept (fun n => n = N) w wz := hK8.trans hkz (fun _ _ e => e)
          have HZ : Hid (ViewIn q N p (palT f g) wz) := by show ViewIn _ _ _ _ _; rw [HY.out]; exact hvz
          have HR : Hid (palV (palA f g) = .tuple #[.int .i64 i, .bool true]) := by
            show _ = _
            rw [HE.out]; unfold palV; rw [if_pos hlt]; simp [hlt]
          clear hHeld KS KV hk9 hv8 hK8 hkz hvz b9 HE
          go_wp2_with fail
          exact bodyPost_ret (v := .tuple #[.int .i64 i, .bool true]) (by simp [results, Try.results9, go_sem]) rfl ⟨by rw [HR.out], HZ.out, hKz⟩
    · obtain rfl : i = 4 := by omega
      have HE : Hid (palA f g = 4) := by show _ = _; rw [HA.out.1]; exact freeP_none HB.out
      have HR : Hid (palV (palA f g) = .tuple #[.int .i64 0, .bool false]) := by show _ = _; rw [HE.out]; rfl
      have HZ : Hid (ViewIn q N p (palT f g) wr) := by
        show ViewIn _ _ _ _ _
        rw [HA.out.2, HE.out]
        exact HV.out.1.still HK.out
      have hKz : Kept (fun n => n = N) w wr := HV.out.2.trans HK.out (fun _ _ e => e.elim)
      clear HA HE HV HK HB HF
      go_wp2_with fail
      exact bodyPost_ret (v := .tuple #[.int .i64 0, .bool false]) (by simp [results, Try.results9, go_sem]) rfl ⟨by rw [HR.out], HZ.out, hKz⟩
end Go.Proofs.Ytdjdnjngelahjaa
