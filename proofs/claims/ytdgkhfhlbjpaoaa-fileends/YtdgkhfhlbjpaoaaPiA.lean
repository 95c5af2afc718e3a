
/- What the code's pipes do when they are called; no conditions but lengths. -/
import Derived.Test.YtdgkhfhlbjpaoaaPiT
namespace Go.Proofs.Ytdgkhfhlbjpaoaa
open Go.RowKit
set_option maxRecDepth 100000
set_option linter.unusedSimpArgs false

theorem pbit_w (i : Int) (w : World) (h : 0 ≤ i) (h' : i < 16) : Calls Try.prog 44 #[.int .i64 i] w fun e w' => e = .returned (.int .i64 (pw i)) ∧ w' = w := by
  have hp := pw_wrap h h'
  go_enter Try.func44, Try.ntmps44
  go_wp2
  rw [hp]
  go_ret
  exact ⟨rfl, rfl⟩

theorem pobject_w (i : Int) (w : World) : Calls Try.prog 45 #[.int .i64 i] w fun e w' => e = .returned (.agg #[.int .i64 8, .int .i64 i]) ∧ Kept (fun _ => False) w w' := by
  go_enter Try.func45, Try.ntmps45
  go_wp2
  exact bodyPost_ret (results_cell_row Try.results45 _ _ w.heap.size _ _ _ _ rfl (alloc_at _ _) Try.underlying54 rfl wide_K.size) rfl ⟨rfl, (Kept.refl _ _).alloc _⟩

theorem ptable_w (w : World) : Calls Try.prog 43 #[] w fun e w' => e = .returned (.agg #[.int .i64 7, .int .i64 0]) ∧ Kept (fun _ => False) w w' := by
  go_enter Try.func43, Try.ntmps43
  go_wp2
  exact bodyPost_ret (results_cell_row Try.results43 _ _ w.heap.size _ _ _ _ rfl (alloc_at _ _) Try.underlying54 rfl wide_K.size) rfl ⟨rfl, (Kept.refl _ _).alloc _⟩

def sideN (b : Bool) : Int := if b = true then 1 else 0
theorem pside_w (b : Bool) (w : World) : Calls Try.prog 62 #[.bool b] w fun e w' => e = .returned (.int .i64 (sideN b)) ∧ w' = w := by
  cases b with
  | true =>
    go_enter Try.func62, Try.ntmps62
    go_wp2
    go_ret
    exact ⟨rfl, rfl⟩
  | false =>
    go_enter Try.func62, Try.ntmps62
    go_wp2
    go_ret
    exact ⟨rfl, rfl⟩

theorem pis_w (q N p B : Nat) (f : StF) (g : VwF) (i : Int) (w : World) (h : ViewIn q N p g w) (hs : StoreIn p B f w) (hNB : N ≠ B) : Calls Try.prog 22 #[.pointer (some ⟨q, 0, none⟩), .int .i64 i] w
    fun e w' => e = .returned (.bool (isP f g i)) ∧ ViewIn q N p (isPT g i) w' ∧ Kept (fun n => n = N) w w' := by
  by_cases hr : 0 ≤ i ∧ i < 4
  · have HV : Hid (isP f g i = hasB (vgetF f g (7, 0)).n0 i ∧ isPT g i = vgetT g (7, 0)) := isP_in hr
    obtain ⟨r1, r2⟩ := hr
    go_enter Try.func22, Try.ntmps22
    go_wp2_with fail
    refine (ptable_w _).mono ?_
    rintro e w1 ⟨rfl, hk1⟩
    go_wp2_with fail
    refine (vget_w q N p B f g 7 0 w1 (h.still hk1) (hs.still hk1) hNB).mono ?_
    rintro e w2 ⟨rfl, hv2, hk2⟩
    have HZ : Hid (ViewIn q N p (isPT g i) w2 ∧ Kept (fun n => n = N) w w2) := ⟨by rw [HV.out.2]; exact hv2, (hk1.mono (fun _ _ e => e.elim)).trans hk2 (fun _ _ e => e)⟩
    have hf := field_arr (vgetF f g (7, 0)) w2
    have hx := index_n0 (vgetF f g (7, 0)) w2
    clear hv2 hk2 hk1 h hs
    generalize vgetF f g (7, 0) = x at *
    have hb := and_b x.n0 i r1 (by omega)
    cases hbit : hasB x.n0 i with
    | true =>
      rw [hbit, if_pos rfl] at hb
      have hz : (pw i != 0) = true := by have := pw_pos (i := i) r1 (by omega); simp; omega
      have HE : Hid (isP f g i = true) := by show _ = _; rw [HV.out.1]; exact hbit
      clear hbit HV
      go_wp2_with fail
      refine (pbit_w i _ r1 (by omega)).mono ?_
      rintro e w3 ⟨rfl, hw3⟩
      subst hw3
      go_wp2_with fail
      go_ret
      exact ⟨by rw [HE.out]; rfl, HZ.out⟩
    | false =>
      rw [hbit] at hb
      simp only [Bool.false_eq_true, if_false] at hb
      have HE : Hid (isP f g i = false) := by show _ = _; rw [HV.out.1]; exact hbit
      clear hbit HV
      go_wp2_with fail
      refine (pbit_w i _ r1 (by omega)).mono ?_
      rintro e w3 ⟨rfl, hw3⟩
      subst hw3
      go_wp2_with fail
      go_ret
      exact ⟨by rw [HE.out]; rfl, HZ.out⟩
  · have HV : Hid (isP f g i = false ∧ isPT g i = g) := isP_out hr
    have HZ : Hid (ViewIn q N p (isPT g i) w ∧ Kept (fun n => n = N) w w) := ⟨by rw [HV.out.2]; exact h, Kept.refl _ _⟩
    clear h hs
    by_cases r1 : 0 ≤ i
    · have r2 : ¬ i < 4 := by omega
      clear hr
      go_enter Try.func22, Try.ntmps22
      go_wp2
      go_ret
      exact ⟨by rw [HV.out.1]; rfl, HZ.out⟩
    · clear hr
      go_enter Try.func22, Try.ntmps22
      go_wp2
      go_ret
      exact ⟨by rw [HV.out.1]; rfl, HZ.out⟩

set_option maxHeartbeats 1000000 in
theorem pal_w (q N p B : Nat) (f : StF) (g : VwF) (w : World) (h : ViewIn q N p g w) (hs : StoreIn p B f w) (hNB : N ≠ B) : Calls Try.prog 21 #[.pointer (some ⟨q, 0, none⟩)] w
    fun e w' => e = .returned (palV (palA f g)) ∧ ViewIn q N p (palT f g) w' ∧ Kept (fun n => n = N) w w' := by
  have hN : N < w.heap.size := h.map.lt
  have hq : q < w.heap.size := lt_at h.cell
  go_enter Try.func21, Try.ntmps21
  go_wp2_with fail
  refine (ptable_w w).mono ?_
  rintro e w1 ⟨rfl, hk1⟩
  go_wp2_with fail
  refine (vget_w q N p B f g 7 0 w1 (h.still hk1) (hs.still hk1) hNB).mono ?_
  rintro e w2 ⟨rfl, hv2, hk2⟩
  have k2 : Kept (fun n => n = N) w w2 := (hk1.mono (fun _ _ e => e.elim)).trans hk2 (fun _ _ e => e)
  have HA : Hid (palA f g = freeP (vgetF f g (7, 0)).n0 ∧ palT f g = if palA f g < 4 then vputT (vputT (vgetT g (7, 0)) (7, 0) (withN (vgetF f g (7, 0)) (orN (vgetF f g (7, 0)).n0 (palA f g)))) (8, palA f g) newP else vgetT g (7, 0)) := ⟨rfl, rfl⟩
  generalize vgetF f g (7, 0) = x at *
  obtain ⟨F, hF⟩ : ∃ F : Nat, w2.heap.size = F := ⟨_, rfl⟩
  have lF : w.heap.size ≤ F := by have := k2.size; omega
  have hv3 : ViewIn q N p (vgetT g (7, 0)) (w2.alloc (.cells (vc x).toArray 51)) := hv2.still ((Kept.refl _ _).alloc _)
  have k3 : Kept (fun n => n = N) w (w2.alloc (.cells (vc x).toArray 51)) := k2.alloc _
  have hF3 : (w2.alloc (.cells (vc x).toArray 51)).heap[F]? = some (.cells (vc x).toArray 51 (0, 0)) := alloc_at' _ hF
  clear h hs hk1 hk2 hv2 k2
  go_wp2_with (first | (refine list_wnew rfl wide_V _ _ rfl F rfl (vc x) rfl _ rfl hF rfl (vc_one _) ?_))
  generalize w2.alloc (.cells (vc x).toArray 51) = w3 at *
  clear hF
  have H0 : Hid (Kept (fun _ => False) w3 w3) := Kept.refl _ _
  have HF : Hid (w3.heap[F]? = some (.cells (vc x).toArray 51 (0, 0))) := hF3
  have HV : Hid (ViewIn q N p (vgetT g (7, 0)) w3 ∧ Kept (fun n => n = N) w w3) := ⟨hv3, k3⟩
  clear hF3 hv3 k3
  go_loopw [5, 10] (fun _ v wr => ∃ i : Int, v = .int .i64 i ∧ 0 ≤ i ∧ i ≤ 4 ∧ Hid (∀ j, 0 ≤ j → j < i → hasB x.n0 j = true) ∧ Hid (Kept (fun _ => False) w3 wr)) (fun _ v _ => (4 - intOf v).toNat)
  case atStart => exact ⟨0, rfl, by omega, by omega, fun j h1 h2 => by omega, H0.out⟩
  case round =>
    obtain ⟨i, rfl, hi1, hi2, HB, HK⟩ := hrel
    clear H0
    by_cases hlt : i < 4
    · have hb := and_b x.n0 i (by omega) (by omega)
      have hF4 := HK.out.at HF.out (fun x => x)
      have c0 := cell_at hF4 (i := 0) (v := .int .i64 x.n0) rfl
      cases hbit : hasB x.n0 i with
      | true =>
        rw [hbit, if_pos rfl] at hb
        have hz : (pw i != 0) = true := by have := pw_pos (i := i) (by omega) (by omega); simp; omega
        have HB2 : Hid (∀ j, 0 ≤ j → j < i + 1 → hasB x.n0 j = true) := fun j h1 h2 => by
          by_cases e : j = i
          · rw [e]; exact hbit
          · exact HB.out j h1 (by omega)
        clear hbit
        go_wp2_with fail
        go_quiet (exact Calls.quiet_of_same (pbit_w i _ (by omega) (by omega)))
        have HK2 : Hid (Kept (fun _ => False) w3 (wr.drewN nq)) := HK.out.trans (kept_drewN _ _) (fun _ _ e => e)
        clear hF4 c0 HK HB
        go_wp2
        go_roundw
        case rel => exact ⟨i + 1, rfl, by omega, by omega, HB2.out, HK2⟩
        case measure => simp [intOf]; omega
      | false =>
        rw [hbit] at hb
        simp only [Bool.false_eq_true, if_false] at hb
        have HE : Hid (palA f g = i) := by show _ = _; rw [HA.out.1]; exact freeP_at hi1 hlt HB.out hbit
        clear hbit
        go_wp2_with fail
        go_quiet (exact Calls.quiet_of_same (pbit_w i _ (by omega) (by omega)))
        have HK2 : Hid (Kept (fun _ => False) w3 (wr.drewN nq)) := HK.out.trans (kept_drewN _ _) (fun _ _ e => e)
        clear hF4 c0 HK HB
        generalize wr.drewN nq = wd at *
        have hF4 := HK2.out.at HF.out (fun x => x)
        have c0 := cell_at hF4 (i := 0) (v := .int .i64 x.n0) rfl
        have f0 := free_at hF4 0
        go_wp2_with fail
        go_cut [4] from 20 to 27 (fun v wc => v = .pointer (some ⟨F, 0, none⟩) ∧ Hid (Kept (fun n => n = F) wd wc ∧ wc.heap[F]? = some (.cells (vc (withN x (orN x.n0 i))).toArray 51 (0, 0))))
        case first =>
          go_region_with (refine (pbit_w i _ (by omega) (by omega)).mono ?_; rintro e w4 ⟨rfl, hw4⟩; subst hw4)
          all_goals
            go_wp2
            go_meet
            case rel => exact And.intro rfl (And.intro (by refine Kept.drew (Kept.setCell (Kept.refl _ _) ?_ _); intro _; rfl) (by show (wd.setCell _ _).heap[F]? = _; rw [set_at hF4]; rfl))
        case rest =>
          obtain ⟨rfl, HC⟩ := hcut
          have hFy := HC.out.2
          have hK : Kept (fun n => n = F) w3 wc := (HK2.out.mono (fun _ _ e => e.elim)).trans HC.out.1 (fun _ _ e => e)
          have hvw : ViewIn q N p (vgetT g (7, 0)) wc := HV.out.1.kept hK (by omega) (by omega)
          have hKw : Kept (fun n => n = N) w wc := HV.out.2.trans hK (fun k h1 h2 => by omega)
          clear hF4 c0 f0 HK2 HC hK HV HF
          obtain ⟨y, hy⟩ : ∃ y, withN x (orN x.n0 i) = y := ⟨_, rfl⟩
          rw [hy] at hFy
          have HY : Hid (palT f g = vputT (vputT (vgetT g (7, 0)) (7, 0) y) (8, i) newP) := by
            show _ = _
            rw [HA.out.2, HE.out, if_pos hlt, hy]
          clear hy HA
          have KS : ∀ w', Kept (fun n => n = N) wc w' → True := fun _ _ => trivial
          have KV : ∀ w', Kept (fun n => n = N) wc w' → w'.rangeAt F 0 (vc y) := fun w' hk' => range_kept (whole_range hFy) hk' (by omega)
          go_wp2_with fail
          refine wp_region_held_drew (S := fun w' => Kept (fun n => n = N) wc w') (by kernel_rfl) ((Kept.refl _ _).drew) (fun hHeld => ?_)
          refine h_take 0 (some 28) (Op.move (Operand.tmp 0)) 25 ?v1 rfl rfl (by kernel_rfl) (by kernel_rfl) (by kernel_rfl) (fun _ _ _ h => h) ?hy1 hHeld ?_
          case hy1 => (intro _ _ _ w hSw; have hcs := KS _ hSw; go_simp; try with_reducible rfl)
          simp only [Act.put, List.setIfInBounds_toArray, List.set_cons_zero, List.set_cons_succ]
          refine h_take 2 (some 30) (Op.load 51 (Operand.tmp 4)) 51 (vv y) rfl rfl (by kernel_rfl) (by kernel_rfl) (by kernel_rfl) (fun _ _ _ h => h) (fun _ _ _ w hSw => exec_load rfl (load_wide wide_V (KV w hSw) rfl)) hHeld ?_
          simp only [Act.put, List.setIfInBounds_toArray, List.set_cons_zero, List.set_cons_succ]
          refine h_step 1 (some 29) (Op.call { callee := Callee.value (Operand.func 43), args := #[], argTypes := #[] }) 54 rfl rfl (by kernel_rfl) (fun _ _ _ K hK => ?_)
          go_simp
          refine (ptable_w _).mono ?_
          rintro e w5 ⟨rfl, hk5⟩
          replace hk5 : Kept (fun _ => False) wc w5 := (Kept.refl _ wc).drew.thru hk5
          go_wp2_with fail
          refine hK.out _ _ (hk5.mono (fun _ _ e => e.elim)) (fun hHeld => ?_)
          clear hK K
          try simp only [Act.put, List.setIfInBounds_toArray, List.set_cons_zero, List.set_cons_succ]
          refine h_step 3 (some 31) (Op.call { callee := Callee.value (Operand.func 24), args := #[Operand.tmp 28, Operand.tmp 29, Operand.tmp 30], argTypes := #[25, 54, 51] }) 0 rfl rfl (by kernel_rfl) (fun _ _ _ K hK => ?_)
          go_simp
          refine (vput_w q N p (vgetT g (7, 0)) 7 0 y w5 (hvw.still hk5)).mono ?_
          rintro e w6 ⟨rfl, hv6, hk6⟩
          replace hk6 : Kept (fun n => n = N) wc w6 := (hk5.mono (fun _ _ e => e.elim)).trans hk6 (fun _ _ e => e)
          go_wp2_with fail
          refine hK.out _ _ (hk6) (fun hHeld => ?_)
          clear hK K
          try simp only [Act.put, List.setIfInBounds_toArray, List.set_cons_zero, List.set_cons_succ]
          refine wpAnyH_done (by kernel_rfl) ?_ _
          have hK6 : Kept (fun n => n = N) w w6 := hKw.trans hk6 (fun _ _ e => e)
          clear hHeld KS KV hk5 hvw hKw hk6 hFy
          obtain ⟨G, hG⟩ : ∃ G : Nat, w6.heap.size = G := ⟨_, rfl⟩
          have lG : N < G := by have := hK6.size; omega
          have lq : q < G := by have := hK6.size; omega
          have lw : w.heap.size ≤ G := by have := hK6.size; omega
          obtain ⟨w7, h7⟩ : ∃ w7, w6.alloc (.cells (vc zeroV).toArray 51) = w7 := ⟨_, rfl⟩
          have b7 : w7.heap[G]? = some (.cells (vc zeroV).toArray 51 (0, 0)) := by subst h7; exact alloc_at' _ hG
          have k7 : Kept (fun _ => False) w6 w7 := by subst h7; exact (Kept.refl _ _).alloc _
          have c0 : w7.cell? ⟨G, 0, none⟩ = some (.int .i64 0) := cell_at b7 rfl
          have f0 := free_at b7 0
          have b8 := set_at b7 0 (.int .i64 1)
          have c1 : (w7.setCell ⟨G, 0, none⟩ (.int .i64 1)).cell? ⟨G, 1, none⟩ = some (.int .i64 0) := cell_at b8 rfl
          have f1 := free_at b8 1
          have b9 : ((w7.setCell ⟨G, 0, none⟩ (.int .i64 1)).setCell ⟨G, 1, none⟩ (.int .i64 1)).heap[G]? = some (.cells (vc newP).toArray 51 (0, 0)) := by rw [set_at b8]; rfl
          have k9 : Kept (fun _ => False) w6 ((w7.setCell ⟨G, 0, none⟩ (.int .i64 1)).setCell ⟨G, 1, none⟩ (.int .i64 1)) := Kept.setCell (Kept.setCell k7 (fun e => by simp at e; omega) _) (fun e => by simp at e; omega) _
          rw [zero_cells] at h7
          clear b8
          go_wp2_with fail
          generalize (w7.setCell ⟨G, 0, none⟩ (.int .i64 1)).setCell ⟨G, 1, none⟩ (.int .i64 1) = w8 at *
          clear c0 f0 c1 f1 b7 k7 h7 hG
          have hv8 := hv6.still k9
          have hK8 := hK6.trans k9 (fun _ _ e => e.elim)
          clear hv6 hK6 k9
          have KS : ∀ w', Kept (fun n => n = N) w8 w' → True := fun _ _ => trivial
          have KV : ∀ w', Kept (fun n => n = N) w8 w' → w'.rangeAt G 0 (vc newP) := fun w' hk' => range_kept (whole_range b9) hk' (by omega)
          refine wp_region_held_drew (S := fun w' => Kept (fun n => n = N) w8 w') (by kernel_rfl) ((Kept.refl _ _).drew) (fun hHeld => ?_)
          refine h_take 0 (some 36) (Op.move (Operand.tmp 0)) 25 ?v2 rfl rfl (by kernel_rfl) (by kernel_rfl) (by kernel_rfl) (fun _ _ _ h => h) ?hy2 hHeld ?_
          case hy2 => (intro _ _ _ w hSw; have hcs := KS _ hSw; go_simp; try with_reducible rfl)
          simp only [Act.put, List.setIfInBounds_toArray, List.set_cons_zero, List.set_cons_succ]
          refine h_take 1 (some 37) (Op.move (Operand.tmp 5)) 3 ?v3 rfl rfl (by kernel_rfl) (by kernel_rfl) (by kernel_rfl) (fun _ _ _ h => h) ?hy3 hHeld ?_
          case hy3 => (intro _ _ _ w hSw; have hcs := KS _ hSw; go_simp; try with_reducible rfl)
          simp only [Act.put, List.setIfInBounds_toArray, List.set_cons_zero, List.set_cons_succ]
          refine h_take 3 (some 39) (Op.load 51 (Operand.tmp 6)) 51 (vv newP) rfl rfl (by kernel_rfl) (by kernel_rfl) (by kernel_rfl) (fun _ _ _ h => h) (fun _ _ _ w hSw => exec_load rfl (load_wide wide_V (KV w hSw) rfl)) hHeld ?_
          simp only [Act.put, List.setIfInBounds_toArray, List.set_cons_zero, List.set_cons_succ]
          refine h_step 2 (some 38) (Op.call { callee := Callee.value (Operand.func 45), args := #[Operand.tmp 37], argTypes := #[3] }) 54 rfl rfl (by kernel_rfl) (fun _ _ _ K hK => ?_)
          go_simp
          refine (pobject_w i _).mono ?_
          rintro e w9 ⟨rfl, hk9⟩
          replace hk9 : Kept (fun _ => False) w8 w9 := (Kept.refl _ w8).drew.thru hk9
          go_wp2_with fail
          refine hK.out _ _ (hk9.mono (fun _ _ e => e.elim)) (fun hHeld => ?_)
          clear hK K
          try simp only [Act.put, List.setIfInBounds_toArray, List.set_cons_zero, List.set_cons_succ]
          refine h_step 4 (some 40) (Op.call { callee := Callee.value (Operand.func 24), args := #[Operand.tmp 36, Operand.tmp 38, Operand.tmp 39], argTypes := #[25, 54, 51] }) 0 rfl rfl (by kernel_rfl) (fun _ _ _ K hK => ?_)
          go_simp
          refine (vput_w q N p _ 8 i newP w9 (hv8.still hk9)).mono ?_
          rintro e wz ⟨rfl, hvz, hkz⟩
          replace hkz : Kept (fun n => n = N) w8 wz := (hk9.mono (fun _ _ e => e.elim)).trans hkz (fun _ _ e => e)
          go_wp2_with fail
          refine hK.out _ _ (hkz) (fun hHeld => ?_)
          clear hK K
          try simp only [Act.put, List.setIfInBounds_toArray, List.set_cons_zero, List.set_cons_succ]
          refine wpAnyH_done (by kernel_rfl) ?_ _
          have hKz : Kept (fun n => n = N) w wz := hK8.trans hkz (fun _ _ e => e)
          have HZ : Hid (ViewIn q N p (palT f g) wz) := by show ViewIn _ _ _ _ _; rw [HY.out]; exact hvz
          have HR : Hid (palV (palA f g) = .tuple #[.int .i64 i, .bool true]) := by
            show _ = _
            rw [HE.out]; unfold palV; rw [if_pos hlt]; simp [hlt]
          clear hHeld KS KV hk9 hv8 hK8 hkz hvz b9 HE
          go_wp2_with fail
          exact bodyPost_ret (v := .tuple #[.int .i64 i, .bool true]) (by simp [results, Try.results21, go_sem]) rfl ⟨by rw [HR.out], HZ.out, hKz⟩
    · obtain rfl : i = 4 := by omega
      have HE : Hid (palA f g = 4) := by show _ = _; rw [HA.out.1]; exact freeP_none HB.out
      have HR : Hid (palV (palA f g) = .tuple #[.int .i64 0, .bool false]) := by show _ = _; rw [HE.out]; rfl
      have HZ : Hid (ViewIn q N p (palT f g) wr) := by
        show ViewIn _ _ _ _ _
        rw [HA.out.2, HE.out]
        exact HV.out.1.still HK.out
      have hKz : Kept (fun n => n = N) w wr := HV.out.2.trans HK.out (fun _ _ e => e.elim)
      clear HA HE HV HK HB HF
      go_wp2_with fail
      exact bodyPost_ret (v := .tuple #[.int .i64 0, .bool false]) (by simp [results, Try.results21, go_sem]) rfl ⟨by rw [HR.out], HZ.out, hKz⟩
end Go.Proofs.Ytdgkhfhlbjpaoaa

namespace Go.Proofs.Ytdgkhfhlbjpaoaa
open Go.RowKit
set_option maxRecDepth 100000
set_option linter.unusedSimpArgs false

theorem take_ext {s : ByteArray} {m k : Nat} (h : m = min k s.size) : s.extract 0 m = bs ((bl s).take k) := by
  rw [extract_bs]
  congr 1
  rw [List.drop_zero, Nat.sub_zero, List.take_eq_take_iff, bl_len]
  omega
theorem drop_ext {s : ByteArray} {m k : Nat} (h : m = min k s.size) : s.extract m s.size = bs ((bl s).drop k) := by
  rw [extract_bs]
  congr 1
  have e : List.take (s.size - m) (List.drop m (bl s)) = List.drop m (bl s) := List.take_of_length_le (by rw [List.length_drop, bl_len]; omega)
  rw [e]
  by_cases c : k ≤ s.size
  · rw [show m = k by omega]
  · rw [List.drop_eq_nil_of_le (by rw [bl_len]; omega), List.drop_eq_nil_of_le (by rw [bl_len]; omega)]
theorem empty_of {s : ByteArray} (h : s.size = 0) : s = ⟨#[]⟩ := ByteArray.ext (Array.eq_empty_of_size_eq_zero h)
theorem ne_text {s : ByteArray} (h : s.size ≠ 0) : s.toList.isEmpty = false := by
  rw [toList_bl]
  cases e : bl s with
  | nil => exact absurd (by rw [← bl_len, e]; rfl) h
  | cons _ _ => rfl
theorem no_text {s : ByteArray} (h : s.size = 0) : s.toList.isEmpty = true := by
  have e : bl s = [] := List.eq_nil_of_length_eq_zero (by rw [bl_len]; exact h)
  rw [toList_bl, e]; rfl

set_option maxHeartbeats 1000000 in
theorem prd_w (q N p B : Nat) (f : StF) (g : VwF) (i n : Int) (w : World) (h : ViewIn q N p g w) (hs : StoreIn p B f w) (hNB : N ≠ B) (hsz : (pipV f g i).s.size ≤ 200) : Calls Try.prog 38 #[.pointer (some ⟨q, 0, none⟩), .int .i64 i, .int .i64 n] w
    fun e w' => e = .returned (prdV (prdS f g i n) (prdK f g i n)) ∧ ViewIn q N p (prdT f g i n) w' ∧ Kept (fun n => n = N) w w' := by
  have hN : N < w.heap.size := h.map.lt
  have hq : q < w.heap.size := lt_at h.cell
  have hpN : p ≠ N := h.map.off hs.cell
  have hsk : ∀ w', Kept (fun n => n = N) w w' → StoreIn p B f w' := fun w' hk => hs.kept hk hpN (fun e => hNB e.symm)
  cases hok : prdOk f g i n with
  | false =>
    have HE : Hid (prdV (prdS f g i n) (prdK f g i n) = .tuple #[.string ⟨#[]⟩, .int .i64 1] ∧ prdT f g i n = isPT g i) := by
      unfold prdS prdK prdT; rw [hok]; exact ⟨rfl, rfl⟩
    cases hP : isP f g i with
    | false =>
      clear hok
      go_enter Try.func38, Try.ntmps38
      go_wp2_with fail
      refine (pis_w q N p B f g i w h hs hNB).mono ?_
      rintro e w1 ⟨rfl, hv1, hk1⟩
      rw [hP]
      clear h hs
      go_wp2_with fail
      exact bodyPost_ret (v := .tuple #[.string ⟨#[]⟩, .int .i64 1]) (by simp [results, Try.results38, go_sem]) rfl ⟨by rw [HE.out.1], by rw [HE.out.2]; exact hv1, hk1⟩
    | true =>
      have hn : n < 0 := by
        unfold prdOk at hok; rw [hP] at hok; simpa using hok
      clear hok
      go_enter Try.func38, Try.ntmps38
      go_wp2_with fail
      refine (pis_w q N p B f g i w h hs hNB).mono ?_
      rintro e w1 ⟨rfl, hv1, hk1⟩
      rw [hP]
      clear h hs
      go_wp2_with fail
      exact bodyPost_ret (v := .tuple #[.string ⟨#[]⟩, .int .i64 1]) (by simp [results, Try.results38, go_sem]) rfl ⟨by rw [HE.out.1], by rw [HE.out.2]; exact hv1, hk1⟩
  | true =>
    have hP : isP f g i = true ∧ 0 ≤ n := by unfold prdOk at hok; simpa using hok
    obtain ⟨hP, hn⟩ := hP
    obtain ⟨k, rfl⟩ : ∃ k : Nat, n = k := ⟨n.toNat, by omega⟩
    have HE : Hid (prdS f g i k = bs ((bl (pipV f g i).s).take k) ∧ prdK f g i k = (if (k : Int) = 0 ∨ (pipV f g i).s.size ≠ 0 ∨ (pipV f g i).n1 ≤ 0 then 0 else 2) ∧
        prdT f g i k = (if (k : Int) ≠ 0 ∧ (pipV f g i).s.size ≠ 0 then vputT (seeT g i) (8, i) (withS (pipV f g i) (bs ((bl (pipV f g i).s).drop k))) else seeT g i)) := by
      unfold prdS prdK prdT; rw [hok, if_pos rfl, if_pos rfl, if_pos rfl]; exact ⟨rfl, rfl, rfl⟩
    have hpv : vgetF f (isPT g i) (8, i) = pipV f g i := pip_isPT (f := f) (g := g) i i
    clear hok
    go_enter Try.func38, Try.ntmps38
    go_wp2_with fail
    refine (pis_w q N p B f g i w h hs hNB).mono ?_
    rintro e w1 ⟨rfl, hv1, hk1⟩
    rw [hP]
    clear h hs
    go_wp2_with fail
    refine (pobject_w i _).mono ?_
    rintro e w2 ⟨rfl, hk2⟩
    have K2 : Kept (fun n => n = N) w w2 := hk1.trans hk2 (fun _ _ e => e.elim)
    go_wp2_with fail
    refine (vget_w q N p B f (isPT g i) 8 i w2 (hv1.still hk2) (hsk _ K2) hNB).mono ?_
    rintro e w3 ⟨rfl, hv3, hk3⟩
    rw [hpv]
    clear hpv hk1 hk2 hv1
    generalize pipV f g i = x at *
    have K3 : Kept (fun n => n = N) w w3 := K2.trans hk3 (fun _ _ e => e)
    have hv3 : ViewIn q N p (seeT g i) w3 := hv3
    clear K2 hk3 hsk
    obtain ⟨F, hF⟩ : ∃ F : Nat, w3.heap.size = F := ⟨_, rfl⟩
    have lF : w.heap.size ≤ F := by have := K3.size; omega
    have hF4 : (w3.alloc (.cells (vc x).toArray 51)).heap[F]? = some (.cells (vc x).toArray 51 (0, 0)) := alloc_at' _ hF
    have hv4 := hv3.still ((Kept.refl _ w3).alloc (.cells (vc x).toArray 51))
    have K4 : Kept (fun n => n = N) w (w3.alloc (.cells (vc x).toArray 51)) := K3.alloc _
    clear hv3 K3
    have c16 : (w3.alloc (.cells (vc x).toArray 51)).cell? ⟨F, 16, none⟩ = some (.string x.s) := cell_at hF4 rfl
    have c1 : (w3.alloc (.cells (vc x).toArray 51)).cell? ⟨F, 1, none⟩ = some (.int .i64 x.n1) := cell_at hF4 rfl
    have f16 := free_at hF4 16
    by_cases hk0 : k = 0
    · subst hk0
      have HR : Hid (prdV (prdS f g i ((0 : Nat) : Int)) (prdK f g i ((0 : Nat) : Int)) = .tuple #[.string ⟨#[]⟩, .int .i64 0] ∧ prdT f g i ((0 : Nat) : Int) = seeT g i) := by
        refine ⟨?_, by rw [HE.out.2.2, if_neg (by omega)]⟩
        rw [HE.out.1, HE.out.2.1, if_pos (.inl rfl)]; rfl
      clear HE
      go_wp2_with (first | (refine list_wnew rfl wide_V _ _ rfl F rfl (vc x) rfl _ rfl hF rfl (vc_one _) ?_))
      exact bodyPost_ret (v := .tuple #[.string ⟨#[]⟩, .int .i64 0]) (by simp [results, Try.results38, go_sem]) rfl ⟨by rw [HR.out.1], by rw [HR.out.2]; exact hv4, K4⟩
    · have hk1 : ¬ (k : Int) = 0 := by omega
      by_cases hz : x.s.size = 0
      · have hz1 : (x.s = ⟨#[]⟩) := empty_of hz
        have hz2 := no_text hz
        by_cases hn1 : x.n1 ≤ 0
        · have HR : Hid (prdV (prdS f g i k) (prdK f g i k) = .tuple #[.string ⟨#[]⟩, .int .i64 0] ∧ prdT f g i k = seeT g i) := by
            refine ⟨?_, by rw [HE.out.2.2, if_neg (by omega)]⟩
            rw [HE.out.1, HE.out.2.1, if_pos (.inr (.inr hn1)), hz1]
            show prdV (bs (List.take k [])) 0 = _
            rw [List.take_nil]; rfl
          clear HE hz hz1
          go_wp2_with (first | (refine list_wnew rfl wide_V _ _ rfl F rfl (vc x) rfl _ rfl hF rfl (vc_one _) ?_))
          exact bodyPost_ret (v := .tuple #[.string ⟨#[]⟩, .int .i64 0]) (by simp [results, Try.results38, go_sem]) rfl ⟨by rw [HR.out.1], by rw [HR.out.2]; exact hv4, K4⟩
        · have HR : Hid (prdV (prdS f g i k) (prdK f g i k) = .tuple #[.string ⟨#[]⟩, .int .i64 2] ∧ prdT f g i k = seeT g i) := by
            refine ⟨?_, by rw [HE.out.2.2, if_neg (by omega)]⟩
            rw [HE.out.1, HE.out.2.1, if_neg (by omega), hz1]
            show prdV (bs (List.take k [])) 2 = _
            rw [List.take_nil]; rfl
          clear HE hz hz1
          go_wp2_with (first | (refine list_wnew rfl wide_V _ _ rfl F rfl (vc x) rfl _ rfl hF rfl (vc_one _) ?_))
          exact bodyPost_ret (v := .tuple #[.string ⟨#[]⟩, .int .i64 2]) (by simp [results, Try.results38, go_sem]) rfl ⟨by rw [HR.out.1], by rw [HR.out.2]; exact hv4, K4⟩
      · have hz1 := ne_text hz
        obtain ⟨m, hm⟩ : ∃ m : Nat, m = min k x.s.size := ⟨_, rfl⟩
        obtain ⟨d, hd⟩ : ∃ d, x.s.extract 0 m = d := ⟨_, rfl⟩
        obtain ⟨r, hr⟩ : ∃ r, x.s.extract m x.s.size = r := ⟨_, rfl⟩
        have hmx : (m : Int) ≤ x.s.size := by omega
        have hds : d.size ≤ 1000000 := by rw [← hd, take_ext hm, bs_size, List.length_take, bl_len]; omega
        have HR : Hid (prdV (prdS f g i k) (prdK f g i k) = .tuple #[.string d, .int .i64 0] ∧ prdT f g i k = vputT (seeT g i) (8, i) (withS x r)) := by
          rw [HE.out.1, HE.out.2.1, HE.out.2.2, if_pos (.inr (.inl hz)), if_pos ⟨hk1, hz⟩, ← take_ext hm, ← drop_ext hm, hd, hr]
          exact ⟨rfl, rfl⟩
        have hb6 : ∀ (w' : World), Kept (fun _ => False) (w3.alloc (.cells (vc x).toArray 51)) w' → (w'.setCell ⟨F, 16, none⟩ (.string r)).heap[F]? = some (.cells (vc (withS x r)).toArray 51 (0, 0)) := fun w' hk' => by
          rw [set_at (hk'.at hF4 (fun x => x))]; rfl
        have hmin : (if x.s.size < k then (x.s.size : Int) else (k : Int)) = m := by split <;> omega
        clear HE hm
        go_wp2_with (first | (refine list_wnew rfl wide_V _ _ rfl F rfl (vc x) rfl _ rfl hF rfl (vc_one _) ?_))
        generalize w3.alloc (.cells (vc x).toArray 51) = w4 at *
        refine (clone_w _ hds _).mono ?_
        rintro e w5 ⟨rfl, hk5⟩
        have hb7 := hb6 w5 hk5
        have c5 := hk5.cell c16 (fun x => x)
        have f5 := free_at (hk5.at hF4 (fun x => x)) 16
        have hv5 := hv4.still hk5
        have K5 := K4.trans hk5 (fun _ _ e => e.elim)
        clear hb6 hv4 K4 c16 c1 f16 hF4
        go_wp2_with fail
        have k6 : Kept (fun n => n = F) w5 (w5.setCell ⟨F, 16, none⟩ (.string r)) := by refine Kept.setCell (Kept.refl _ _) ?_ _; intro _; rfl
        generalize w5.setCell ⟨F, 16, none⟩ (.string r) = w6 at *
        have hv6 := hv5.kept k6 (by omega) (by omega)
        have K6 : Kept (fun n => n = N) w w6 := K5.trans k6 (fun k h1 h2 => by omega)
        clear c5 f5 hk5 hv5 K5 k6 hmin hmx hr hd hz1 hz hk0 hk1
        obtain ⟨y, hy⟩ : ∃ y, withS x r = y := ⟨_, rfl⟩
        rw [hy] at HR hb7
        clear hy
        have KS : ∀ w', Kept (fun n => n = N) w6 w' → True := fun _ _ => trivial
        have KV : ∀ w', Kept (fun n => n = N) w6 w' → w'.rangeAt F 0 (vc y) := fun w' hk' => range_kept (whole_range hb7) hk' (by omega)
        refine wp_region_held_drew (S := fun w' => Kept (fun n => n = N) w6 w') (by kernel_rfl) ((Kept.refl _ _).drew) (fun hHeld => ?_)
        refine h_take 0 (some 44) (Op.move (Operand.tmp 0)) 25 ?v4 rfl rfl (by kernel_rfl) (by kernel_rfl) (by kernel_rfl) (fun _ _ _ h => h) ?hy4 hHeld ?_
        case hy4 => (intro _ _ _ w hSw; have hcs := KS _ hSw; go_simp; try with_reducible rfl)
        simp only [Act.put, List.setIfInBounds_toArray, List.set_cons_zero, List.set_cons_succ]
        refine h_take 1 (some 45) (Op.move (Operand.tmp 1)) 3 ?v5 rfl rfl (by kernel_rfl) (by kernel_rfl) (by kernel_rfl) (fun _ _ _ h => h) ?hy5 hHeld ?_
        case hy5 => (intro _ _ _ w hSw; have hcs := KS _ hSw; go_simp; try with_reducible rfl)
        simp only [Act.put, List.setIfInBounds_toArray, List.set_cons_zero, List.set_cons_succ]
        refine h_take 3 (some 47) (Op.load 51 (Operand.tmp 8)) 51 (vv y) rfl rfl (by kernel_rfl) (by kernel_rfl) (by kernel_rfl) (fun _ _ _ h => h) (fun _ _ _ w hSw => exec_load rfl (load_wide wide_V (KV w hSw) rfl)) hHeld ?_
        simp only [Act.put, List.setIfInBounds_toArray, List.set_cons_zero, List.set_cons_succ]
        refine h_step 2 (some 46) (Op.call { callee := Callee.value (Operand.func 45), args := #[Operand.tmp 45], argTypes := #[3] }) 54 rfl rfl (by kernel_rfl) (fun _ _ _ K hK => ?_)
        go_simp
        refine (pobject_w i _).mono ?_
        rintro e w7 ⟨rfl, hk7⟩
        replace hk7 : Kept (fun _ => False) w6 w7 := (Kept.refl _ w6).drew.thru hk7
        go_wp2_with fail
        refine hK.out _ _ (hk7.mono (fun _ _ e => e.elim)) (fun hHeld => ?_)
        clear hK K
        try simp only [Act.put, List.setIfInBounds_toArray, List.set_cons_zero, List.set_cons_succ]
        refine h_step 4 (some 48) (Op.call { callee := Callee.value (Operand.func 24), args := #[Operand.tmp 44, Operand.tmp 46, Operand.tmp 47], argTypes := #[25, 54, 51] }) 0 rfl rfl (by kernel_rfl) (fun _ _ _ K hK => ?_)
        go_simp
        refine (vput_w q N p (seeT g i) 8 i y w7 (hv6.still hk7)).mono ?_
        rintro e w8 ⟨rfl, hv8, hk8⟩
        replace hk8 : Kept (fun n => n = N) w6 w8 := (hk7.mono (fun _ _ e => e.elim)).trans hk8 (fun _ _ e => e)
        go_wp2_with fail
        refine hK.out _ _ (hk8) (fun hHeld => ?_)
        clear hK K
        try simp only [Act.put, List.setIfInBounds_toArray, List.set_cons_zero, List.set_cons_succ]
        refine wpAnyH_done (by kernel_rfl) ?_ _
        have HZ : Hid (ViewIn q N p (prdT f g i k) w8 ∧ Kept (fun n => n = N) w w8) := ⟨by rw [HR.out.2]; exact hv8, K6.trans hk8 (fun _ _ e => e)⟩
        clear hHeld KS KV hk7 hv6 hk8 hv8 hb7 K6
        go_wp2_with fail
        exact bodyPost_ret (v := .tuple #[.string d, .int .i64 0]) (by simp [results, Try.results38, go_sem]) rfl ⟨by rw [HR.out.1], HZ.out⟩
end Go.Proofs.Ytdgkhfhlbjpaoaa

namespace Go.Proofs.Ytdgkhfhlbjpaoaa
open Go.RowKit
set_option maxRecDepth 100000
set_option linter.unusedSimpArgs false

theorem more_ext {x : V} {d : ByteArray} {m : Nat} (h : m = pwrN x d) : x.s ++ d.extract 0 m = moreS x d := by
  apply bl_inj
  unfold moreS
  rw [bl_app, bl_bs, bl_extract, List.drop_zero, Nat.sub_zero, h]

set_option maxHeartbeats 1000000 in
theorem pwr_w (q N p B : Nat) (f : StF) (g : VwF) (i : Int) (d : ByteArray) (w : World) (h : ViewIn q N p g w) (hs : StoreIn p B f w) (hNB : N ≠ B) (hsz : (pipV f g i).s.size ≤ 200) : Calls Try.prog 41 #[.pointer (some ⟨q, 0, none⟩), .int .i64 i, .string d] w
    fun e w' => e = .returned (pwrV (pwrA f g i d) (pwrK f g i d)) ∧ ViewIn q N p (pwrT f g i d) w' ∧ Kept (fun n => n = N) w w' := by
  have hN : N < w.heap.size := h.map.lt
  have hq : q < w.heap.size := lt_at h.cell
  have hpN : p ≠ N := h.map.off hs.cell
  have hsk : ∀ w', Kept (fun n => n = N) w w' → StoreIn p B f w' := fun w' hk => hs.kept hk hpN (fun e => hNB e.symm)
  cases hP : isP f g i with
  | false =>
    have HE : Hid (pwrV (pwrA f g i d) (pwrK f g i d) = .tuple #[.int .i64 (-1), .int .i64 1] ∧ pwrT f g i d = isPT g i) := by
      unfold pwrA pwrK pwrT; rw [hP]; exact ⟨rfl, rfl⟩
    go_enter Try.func41, Try.ntmps41
    go_wp2_with fail
    refine (pis_w q N p B f g i w h hs hNB).mono ?_
    rintro e w1 ⟨rfl, hv1, hk1⟩
    rw [hP]
    clear h hs
    go_wp2_with fail
    exact bodyPost_ret (v := .tuple #[.int .i64 (-1), .int .i64 1]) (by simp [results, Try.results41, go_sem]) rfl ⟨by rw [HE.out.1], by rw [HE.out.2]; exact hv1, hk1⟩
  | true =>
    have HE : Hid (pwrA f g i d = (if 0 < (pipV f g i).n0 then (if d.size = 0 then 0 else ((pwrN (pipV f g i) d : Nat) : Int)) else -1) ∧ pwrK f g i d = (if 0 < (pipV f g i).n0 then (if d.size = 0 ∨ (pipV f g i).s.size < 16 then 0 else 2) else 1) ∧
        pwrT f g i d = (if pwrGo (pipV f g i) d = true then vputT (seeT g i) (8, i) (withS (pipV f g i) (moreS (pipV f g i) d)) else seeT g i)) := by
      unfold pwrA pwrK pwrT; rw [hP, if_pos rfl, if_pos rfl, if_pos rfl]; exact ⟨rfl, rfl, rfl⟩
    have hpv : vgetF f (isPT g i) (8, i) = pipV f g i := pip_isPT (f := f) (g := g) i i
    go_enter Try.func41, Try.ntmps41
    go_wp2_with fail
    refine (pis_w q N p B f g i w h hs hNB).mono ?_
    rintro e w1 ⟨rfl, hv1, hk1⟩
    rw [hP]
    clear h hs
    go_wp2_with fail
    refine (pobject_w i _).mono ?_
    rintro e w2 ⟨rfl, hk2⟩
    have K2 : Kept (fun n => n = N) w w2 := hk1.trans hk2 (fun _ _ e => e.elim)
    go_wp2_with fail
    refine (vget_w q N p B f (isPT g i) 8 i w2 (hv1.still hk2) (hsk _ K2) hNB).mono ?_
    rintro e w3 ⟨rfl, hv3, hk3⟩
    rw [hpv]
    clear hpv hk1 hk2 hv1
    generalize pipV f g i = x at *
    have K3 : Kept (fun n => n = N) w w3 := K2.trans hk3 (fun _ _ e => e)
    have hv3 : ViewIn q N p (seeT g i) w3 := hv3
    clear K2 hk3 hsk
    obtain ⟨F, hF⟩ : ∃ F : Nat, w3.heap.size = F := ⟨_, rfl⟩
    have lF : w.heap.size ≤ F := by have := K3.size; omega
    have hF4 : (w3.alloc (.cells (vc x).toArray 51)).heap[F]? = some (.cells (vc x).toArray 51 (0, 0)) := alloc_at' _ hF
    have hv4 := hv3.still ((Kept.refl _ w3).alloc (.cells (vc x).toArray 51))
    have K4 : Kept (fun n => n = N) w (w3.alloc (.cells (vc x).toArray 51)) := K3.alloc _
    clear hv3 K3
    have c16 : (w3.alloc (.cells (vc x).toArray 51)).cell? ⟨F, 16, none⟩ = some (.string x.s) := cell_at hF4 rfl
    have c0 : (w3.alloc (.cells (vc x).toArray 51)).cell? ⟨F, 0, none⟩ = some (.int .i64 x.n0) := cell_at hF4 rfl
    by_cases hn0 : x.n0 ≤ 0
    · have HR : Hid (pwrV (pwrA f g i d) (pwrK f g i d) = .tuple #[.int .i64 (-1), .int .i64 1] ∧ pwrT f g i d = seeT g i) := by
        have hgo : ¬ pwrGo x d = true := by unfold pwrGo; simp only [Bool.and_eq_true, decide_eq_true_eq]; omega
        refine ⟨?_, by rw [HE.out.2.2, if_neg hgo]⟩
        rw [HE.out.1, HE.out.2.1, if_neg (by omega), if_neg (by omega)]; rfl
      clear HE
      go_wp2_with (first | (refine list_wnew rfl wide_V _ _ rfl F rfl (vc x) rfl _ rfl hF rfl (vc_one _) ?_))
      exact bodyPost_ret (v := .tuple #[.int .i64 (-1), .int .i64 1]) (by simp [results, Try.results41, go_sem]) rfl ⟨by rw [HR.out.1], by rw [HR.out.2]; exact hv4, K4⟩
    · have hn1 : 0 < x.n0 := by omega
      by_cases hz : d.size = 0
      · have hz2 := no_text hz
        have HR : Hid (pwrV (pwrA f g i d) (pwrK f g i d) = .tuple #[.int .i64 0, .int .i64 0] ∧ pwrT f g i d = seeT g i) := by
          have hgo : ¬ pwrGo x d = true := by unfold pwrGo; simp only [Bool.and_eq_true, decide_eq_true_eq]; omega
          refine ⟨?_, by rw [HE.out.2.2, if_neg hgo]⟩
          rw [HE.out.1, HE.out.2.1, if_pos hn1, if_pos hn1, if_pos hz, if_pos (.inl hz)]; rfl
        clear HE hz
        go_wp2_with (first | (refine list_wnew rfl wide_V _ _ rfl F rfl (vc x) rfl _ rfl hF rfl (vc_one _) ?_))
        exact bodyPost_ret (v := .tuple #[.int .i64 0, .int .i64 0]) (by simp [results, Try.results41, go_sem]) rfl ⟨by rw [HR.out.1], by rw [HR.out.2]; exact hv4, K4⟩
      · have hz2 := ne_text hz
        by_cases hr : 16 ≤ x.s.size
        · have HR : Hid (pwrV (pwrA f g i d) (pwrK f g i d) = .tuple #[.int .i64 0, .int .i64 2] ∧ pwrT f g i d = seeT g i) := by
            have hgo : ¬ pwrGo x d = true := by unfold pwrGo; simp only [Bool.and_eq_true, decide_eq_true_eq]; omega
            refine ⟨?_, by rw [HE.out.2.2, if_neg hgo]⟩
            have e0 : pwrN x d = 0 := by unfold pwrN; omega
            rw [HE.out.1, HE.out.2.1, if_pos hn1, if_pos hn1, if_neg hz, if_neg (by omega), e0]; rfl
          have hr1 : (16 : Int) - (x.s.size : Int) ≤ 0 := by omega
          clear HE hz
          go_wp2_with (first | (refine list_wnew rfl wide_V _ _ rfl F rfl (vc x) rfl _ rfl hF rfl (vc_one _) ?_))
          exact bodyPost_ret (v := .tuple #[.int .i64 0, .int .i64 2]) (by simp [results, Try.results41, go_sem]) rfl ⟨by rw [HR.out.1], by rw [HR.out.2]; exact hv4, K4⟩
        · obtain ⟨m, hm⟩ : ∃ m : Nat, m = pwrN x d := ⟨_, rfl⟩
          have hm2 : m = min (16 - x.s.size) d.size := hm
          obtain ⟨z, hzz⟩ : ∃ z, d.extract 0 m = z := ⟨_, rfl⟩
          have hzs : z.size = m := by rw [← hzz, extract_bs, bs_size, List.length_take, List.length_drop, bl_len]; omega
          obtain ⟨r, hrr⟩ : ∃ r, x.s ++ z = r := ⟨_, rfl⟩
          have hr1 : ¬ (16 : Int) - (x.s.size : Int) ≤ 0 := by omega
          have hmx : (m : Int) ≤ d.size := by omega
          have hds : z.size ≤ 1000000 := by omega
          have HR : Hid (pwrV (pwrA f g i d) (pwrK f g i d) = .tuple #[.int .i64 (m : Int), .int .i64 0] ∧ pwrT f g i d = vputT (seeT g i) (8, i) (withS x r)) := by
            have hgo : pwrGo x d = true := by unfold pwrGo; simp only [Bool.and_eq_true, decide_eq_true_eq]; omega
            refine ⟨?_, by rw [HE.out.2.2, if_pos hgo, ← more_ext hm, hzz, hrr]⟩
            rw [HE.out.1, HE.out.2.1, if_pos hn1, if_pos hn1, if_neg hz, if_pos (by omega), ← hm]; rfl
          have hmin : (if (d.size : Int) < 16 - (x.s.size : Int) then (d.size : Int) else 16 - (x.s.size : Int)) = m := by split <;> omega
          clear HE hm hm2
          go_wp2_with (first | (refine list_wnew rfl wide_V _ _ rfl F rfl (vc x) rfl _ rfl hF rfl (vc_one _) ?_))
          generalize w3.alloc (.cells (vc x).toArray 51) = w4 at *
          clear hF c0
          have f16 := free_at hF4 16
          go_cut [8] from 38 to 45 (fun v wc => v = .pointer (some ⟨F, 0, none⟩) ∧ Hid (Kept (fun n => n = F) w4 wc ∧ wc.heap[F]? = some (.cells (vc (withS x r)).toArray 51 (0, 0))))
          case first =>
            go_region_with (refine (clone_w _ hds _).mono ?_; rintro e w5 ⟨rfl, hk5⟩; have c5 := hk5.cell c16 (fun x => x); have f5 := free_at (hk5.at hF4 (fun x => x)) 16)
            all_goals
              go_wp2
              go_meet
              case rel =>
                have K5 : Kept (fun _ => False) w4 w5 := (Kept.refl _ w4).drew.thru hk5
                exact And.intro rfl (And.intro (by refine Kept.setCell (K5.mono (fun _ _ e => e.elim)) ?_ _; intro _; rfl) (by show (w5.setCell _ _).heap[F]? = _; rw [set_at (K5.at hF4 (fun x => x))]; rfl))
          case rest =>
            obtain ⟨rfl, HC⟩ := hcut
            have hFy := HC.out.2
            have hvw : ViewIn q N p (seeT g i) wc := hv4.kept HC.out.1 (by omega) (by omega)
            have hKw : Kept (fun n => n = N) w wc := K4.trans HC.out.1 (fun k h1 h2 => by omega)
            clear hF4 c16 f16 HC hv4 K4 hmin hmx hrr hzz hzs hds hz hz2 hr hr1 hn1 hn0
            obtain ⟨y, hy⟩ : ∃ y, withS x r = y := ⟨_, rfl⟩
            rw [hy] at HR hFy
            clear hy
            have KS : ∀ w', Kept (fun n => n = N) wc w' → True := fun _ _ => trivial
            have KV : ∀ w', Kept (fun n => n = N) wc w' → w'.rangeAt F 0 (vc y) := fun w' hk' => range_kept (whole_range hFy) hk' (by omega)
            go_wp2_with fail
            refine wp_region_held_drew (S := fun w' => Kept (fun n => n = N) wc w') (by kernel_rfl) ((Kept.refl _ _).drew) (fun hHeld => ?_)
            refine h_take 0 (some 46) (Op.move (Operand.tmp 0)) 25 ?v6 rfl rfl (by kernel_rfl) (by kernel_rfl) (by kernel_rfl) (fun _ _ _ h => h) ?hy6 hHeld ?_
            case hy6 => (intro _ _ _ w hSw; have hcs := KS _ hSw; go_simp; try with_reducible rfl)
            simp only [Act.put, List.setIfInBounds_toArray, List.set_cons_zero, List.set_cons_succ]
            refine h_take 1 (some 47) (Op.move (Operand.tmp 1)) 3 ?v7 rfl rfl (by kernel_rfl) (by kernel_rfl) (by kernel_rfl) (fun _ _ _ h => h) ?hy7 hHeld ?_
            case hy7 => (intro _ _ _ w hSw; have hcs := KS _ hSw; go_simp; try with_reducible rfl)
            simp only [Act.put, List.setIfInBounds_toArray, List.set_cons_zero, List.set_cons_succ]
            refine h_take 3 (some 49) (Op.load 51 (Operand.tmp 8)) 51 (vv y) rfl rfl (by kernel_rfl) (by kernel_rfl) (by kernel_rfl) (fun _ _ _ h => h) (fun _ _ _ w hSw => exec_load rfl (load_wide wide_V (KV w hSw) rfl)) hHeld ?_
            simp only [Act.put, List.setIfInBounds_toArray, List.set_cons_zero, List.set_cons_succ]
            refine h_step 2 (some 48) (Op.call { callee := Callee.value (Operand.func 45), args := #[Operand.tmp 47], argTypes := #[3] }) 54 rfl rfl (by kernel_rfl) (fun _ _ _ K hK => ?_)
            go_simp
            refine (pobject_w i _).mono ?_
            rintro e w7 ⟨rfl, hk7⟩
            replace hk7 : Kept (fun _ => False) wc w7 := (Kept.refl _ wc).drew.thru hk7
            go_wp2_with fail
            refine hK.out _ _ (hk7.mono (fun _ _ e => e.elim)) (fun hHeld => ?_)
            clear hK K
            try simp only [Act.put, List.setIfInBounds_toArray, List.set_cons_zero, List.set_cons_succ]
            refine h_step 4 (some 50) (Op.call { callee := Callee.value (Operand.func 24), args := #[Operand.tmp 46, Operand.tmp 48, Operand.tmp 49], argTypes := #[25, 54, 51] }) 0 rfl rfl (by kernel_rfl) (fun _ _ _ K hK => ?_)
            go_simp
            refine (vput_w q N p (seeT g i) 8 i y w7 (hvw.still hk7)).mono ?_
            rintro e w8 ⟨rfl, hv8, hk8⟩
            replace hk8 : Kept (fun n => n = N) wc w8 := (hk7.mono (fun _ _ e => e.elim)).trans hk8 (fun _ _ e => e)
            go_wp2_with fail
            refine hK.out _ _ (hk8) (fun hHeld => ?_)
            clear hK K
            try simp only [Act.put, List.setIfInBounds_toArray, List.set_cons_zero, List.set_cons_succ]
            refine wpAnyH_done (by kernel_rfl) ?_ _
            have HZ : Hid (ViewIn q N p (pwrT f g i d) w8 ∧ Kept (fun n => n = N) w w8) := ⟨by rw [HR.out.2]; exact hv8, hKw.trans hk8 (fun _ _ e => e)⟩
            clear hHeld KS KV hk7 hvw hk8 hv8 hFy hKw
            go_wp2_with fail
            exact bodyPost_ret (v := .tuple #[.int .i64 (m : Int), .int .i64 0]) (by simp [results, Try.results41, go_sem]) rfl ⟨by rw [HR.out.1], HZ.out⟩
end Go.Proofs.Ytdgkhfhlbjpaoaa

namespace Go.Proofs.Ytdgkhfhlbjpaoaa
open Go.RowKit
set_option maxRecDepth 100000
set_option linter.unusedSimpArgs false

theorem endV_cells (x : V) (wr : Bool) (b : Int) {w : World} {F : Nat} (h : w.heap[F]? = some (.cells (vc x).toArray 51 (0, 0))) :
    ∃ z y : Int, w.cell? ⟨F, (sideN wr).toNat, none⟩ = some (.int .i64 z) ∧ wrap64 (z + b) = y ∧ w.frozen? ⟨F, (sideN wr).toNat, none⟩ = false ∧
      (w.setCell ⟨F, (sideN wr).toNat, none⟩ (.int .i64 y)).heap[F]? = some (.cells (vc (endV x wr b)).toArray 51 (0, 0)) := by
  cases wr with
  | true =>
    refine ⟨x.n1, _, cell_at h rfl, rfl, free_at h _, ?_⟩
    rw [set_at h]; rfl
  | false =>
    refine ⟨x.n0, _, cell_at h rfl, rfl, free_at h _, ?_⟩
    rw [set_at h]; rfl

set_option maxHeartbeats 1000000 in
theorem pend_w (q N p B : Nat) (f : StF) (g : VwF) (i : Int) (wr : Bool) (b : Int) (w : World) (h : ViewIn q N p g w) (hs : StoreIn p B f w) (hNB : N ≠ B) : Calls Try.prog 56 #[.pointer (some ⟨q, 0, none⟩), .int .i64 i, .bool wr, .int .i64 b] w
    fun e w' => e = .returned (.bool (isP f g i)) ∧ ViewIn q N p (endT f g i wr b) w' ∧ Kept (fun n => n = N) w w' := by
  have hN : N < w.heap.size := h.map.lt
  have hq : q < w.heap.size := lt_at h.cell
  have hp : p < w.heap.size := lt_at hs.cell
  have hB : B < w.heap.size := hs.map.lt
  have hpN : p ≠ N := h.map.off hs.cell
  have hsk : ∀ w', Kept (fun n => n = N) w w' → StoreIn p B f w' := fun w' hk => hs.kept hk hpN (fun e => hNB e.symm)
  cases hP : isP f g i with
  | false =>
    have HE : Hid (endT f g i wr b = isPT g i) := by unfold endT; rw [hP]; exact rfl
    go_enter Try.func56, Try.ntmps56
    go_wp2_with fail
    refine (pis_w q N p B f g i w h hs hNB).mono ?_
    rintro e w1 ⟨rfl, hv1, hk1⟩
    rw [hP]
    clear h hs
    go_wp2_with fail
    exact bodyPost_ret (v := .bool false) (by simp [results, Try.results56, go_sem]) rfl ⟨rfl, by rw [HE.out]; exact hv1, hk1⟩
  | true =>
    obtain ⟨hi1, hi2⟩ := isP_range hP
    have HT : Hid (endT f g i wr b = (if leftV (endV (pipV f g i) wr b) then vputT (seeT g i) (8, i) (endV (pipV f g i) wr b) else lostT f (seeT g i) i)) := by
      unfold endT; rw [hP, if_pos rfl]; exact rfl
    have hpv : vgetF f (isPT g i) (8, i) = pipV f g i := pip_isPT (f := f) (g := g) i i
    go_enter Try.func56, Try.ntmps56
    go_wp2_with fail
    refine (pis_w q N p B f g i w h hs hNB).mono ?_
    rintro e w1 ⟨rfl, hv1, hk1⟩
    rw [hP]
    clear h hs
    go_wp2_with fail
    refine (pobject_w i _).mono ?_
    rintro e w2 ⟨rfl, hk2⟩
    have K2 : Kept (fun n => n = N) w w2 := hk1.trans hk2 (fun _ _ e => e.elim)
    go_wp2_with fail
    refine (vget_w q N p B f (isPT g i) 8 i w2 (hv1.still hk2) (hsk _ K2) hNB).mono ?_
    rintro e w3 ⟨rfl, hv3, hk3⟩
    rw [hpv]
    clear hpv hk1 hk2 hv1 hP
    generalize pipV f g i = x at *
    have K3 : Kept (fun n => n = N) w w3 := K2.trans hk3 (fun _ _ e => e)
    have hv3 : ViewIn q N p (seeT g i) w3 := hv3
    clear K2 hk3
    obtain ⟨F, hF⟩ : ∃ F : Nat, w3.heap.size = F := ⟨_, rfl⟩
    have lF : w.heap.size ≤ F := by have := K3.size; omega
    have hF4 : (w3.alloc (.cells (vc x).toArray 51)).heap[F]? = some (.cells (vc x).toArray 51 (0, 0)) := alloc_at' _ hF
    have hv4 := hv3.still ((Kept.refl _ w3).alloc (.cells (vc x).toArray 51))
    have K4 : Kept (fun n => n = N) w (w3.alloc (.cells (vc x).toArray 51)) := K3.alloc _
    clear hv3 K3
    go_wp2_with (first | (refine list_wnew rfl wide_V _ _ rfl F rfl (vc x) rfl _ rfl hF rfl (vc_one _) ?_))
    generalize w3.alloc (.cells (vc x).toArray 51) = w4 at *
    clear hF
    refine (pside_w wr _).mono ?_
    rintro e w5 ⟨rfl, hw5⟩
    subst hw5
    obtain ⟨z, y0, cz, hyz, fz, hFy⟩ := endV_cells x wr b hF4
    obtain ⟨y, hy⟩ : ∃ y, endV x wr b = y := ⟨_, rfl⟩
    rw [hy] at hFy HT
    clear hy
    have hsd : sideN wr = 0 ∨ sideN wr = 1 := by cases wr <;> simp [sideN]
    obtain ⟨s, hs⟩ : ∃ s : Nat, sideN wr = s := ⟨(sideN wr).toNat, by omega⟩
    rw [hs] at cz fz hFy hsd ⊢
    rw [Int.toNat_natCast] at cz fz hFy
    have hs0 : (0 : Int) ≤ (s : Int) := by omega
    have hs2 : (s : Int) < 16 := by omega
    clear hs hsd
    have c0 := cell_at hFy (i := 0) (v := .int .i64 y.n0) rfl
    have c1 := cell_at hFy (i := 1) (v := .int .i64 y.n1) rfl
    have k6 : Kept (fun n => n = F) w5 (w5.setCell ⟨F, s, none⟩ (.int .i64 y0)) := by refine Kept.setCell (Kept.refl _ _) ?_ _; intro _; rfl
    by_cases p1 : 0 < y.n0
    · have HS : Hid (leftV y) := .inl p1
      go_wp2_with fail
      generalize w5.setCell ⟨F, s, none⟩ (.int .i64 y0) = w6 at *
      have hv6 := hv4.kept k6 (by omega) (by omega)
      have K6 : Kept (fun n => n = N) w w6 := K4.trans k6 (fun k h1 h2 => by omega)
      clear c0 c1 cz fz hyz hF4 hv4 K4 k6
      have KS : ∀ w', Kept (fun n => n = N) w6 w' → True := fun _ _ => trivial
      have KV : ∀ w', Kept (fun n => n = N) w6 w' → w'.rangeAt F 0 (vc y) := fun w' hk' => range_kept (whole_range hFy) hk' (by omega)
      refine wp_region_held_drew (S := fun w' => Kept (fun n => n = N) w6 w') (by kernel_rfl) ((Kept.refl _ _).drew) (fun hHeld => ?_)
      refine h_take 0 (some 38) (Op.move (Operand.tmp 0)) 25 ?v8 rfl rfl (by kernel_rfl) (by kernel_rfl) (by kernel_rfl) (fun _ _ _ h => h) ?hy8 hHeld ?_
      case hy8 => (intro _ _ _ w hSw; have hcs := KS _ hSw; go_simp; try with_reducible rfl)
      simp only [Act.put, List.setIfInBounds_toArray, List.set_cons_zero, List.set_cons_succ]
      refine h_take 1 (some 39) (Op.move (Operand.tmp 1)) 3 ?v9 rfl rfl (by kernel_rfl) (by kernel_rfl) (by kernel_rfl) (fun _ _ _ h => h) ?hy9 hHeld ?_
      case hy9 => (intro _ _ _ w hSw; have hcs := KS _ hSw; go_simp; try with_reducible rfl)
      simp only [Act.put, List.setIfInBounds_toArray, List.set_cons_zero, List.set_cons_succ]
      refine h_take 3 (some 41) (Op.load 51 (Operand.tmp 9)) 51 (vv y) rfl rfl (by kernel_rfl) (by kernel_rfl) (by kernel_rfl) (fun _ _ _ h => h) (fun _ _ _ w hSw => exec_load rfl (load_wide wide_V (KV w hSw) rfl)) hHeld ?_
      simp only [Act.put, List.setIfInBounds_toArray, List.set_cons_zero, List.set_cons_succ]
      refine h_step 2 (some 40) (Op.call { callee := Callee.value (Operand.func 45), args := #[Operand.tmp 39], argTypes := #[3] }) 54 rfl rfl (by kernel_rfl) (fun _ _ _ K hK => ?_)
      go_simp
      refine (pobject_w i _).mono ?_
      rintro e w7 ⟨rfl, hk7⟩
      replace hk7 : Kept (fun _ => False) w6 w7 := (Kept.refl _ w6).drew.thru hk7
      go_wp2_with fail
      refine hK.out _ _ (hk7.mono (fun _ _ e => e.elim)) (fun hHeld => ?_)
      clear hK K
      try simp only [Act.put, List.setIfInBounds_toArray, List.set_cons_zero, List.set_cons_succ]
      refine h_step 4 (some 42) (Op.call { callee := Callee.value (Operand.func 24), args := #[Operand.tmp 38, Operand.tmp 40, Operand.tmp 41], argTypes := #[25, 54, 51] }) 0 rfl rfl (by kernel_rfl) (fun _ _ _ K hK => ?_)
      go_simp
      refine (vput_w q N p (seeT g i) 8 i y w7 (hv6.still hk7)).mono ?_
      rintro e w8 ⟨rfl, hv8, hk8⟩
      replace hk8 : Kept (fun n => n = N) w6 w8 := (hk7.mono (fun _ _ e => e.elim)).trans hk8 (fun _ _ e => e)
      go_wp2_with fail
      refine hK.out _ _ (hk8) (fun hHeld => ?_)
      clear hK K
      try simp only [Act.put, List.setIfInBounds_toArray, List.set_cons_zero, List.set_cons_succ]
      refine wpAnyH_done (by kernel_rfl) ?_ _
      have HZ : Hid (ViewIn q N p (endT f g i wr b) w8 ∧ Kept (fun n => n = N) w w8) := ⟨by rw [HT.out, if_pos HS.out]; exact hv8, K6.trans hk8 (fun _ _ e => e)⟩
      clear hHeld KS KV hk7 hv6 hk8 hv8 hFy K6
      go_wp2_with fail
      exact bodyPost_ret (v := .bool true) (by simp [results, Try.results56, go_sem]) rfl ⟨rfl, HZ.out⟩
    by_cases p2 : 0 < y.n1
    · have HS : Hid (leftV y) := .inr p2
      go_wp2_with fail
      generalize w5.setCell ⟨F, s, none⟩ (.int .i64 y0) = w6 at *
      have hv6 := hv4.kept k6 (by omega) (by omega)
      have K6 : Kept (fun n => n = N) w w6 := K4.trans k6 (fun k h1 h2 => by omega)
      clear c0 c1 cz fz hyz hF4 hv4 K4 k6
      have KS : ∀ w', Kept (fun n => n = N) w6 w' → True := fun _ _ => trivial
      have KV : ∀ w', Kept (fun n => n = N) w6 w' → w'.rangeAt F 0 (vc y) := fun w' hk' => range_kept (whole_range hFy) hk' (by omega)
      refine wp_region_held_drew (S := fun w' => Kept (fun n => n = N) w6 w') (by kernel_rfl) ((Kept.refl _ _).drew) (fun hHeld => ?_)
      refine h_take 0 (some 38) (Op.move (Operand.tmp 0)) 25 ?v10 rfl rfl (by kernel_rfl) (by kernel_rfl) (by kernel_rfl) (fun _ _ _ h => h) ?hy10 hHeld ?_
      case hy10 => (intro _ _ _ w hSw; have hcs := KS _ hSw; go_simp; try with_reducible rfl)
      simp only [Act.put, List.setIfInBounds_toArray, List.set_cons_zero, List.set_cons_succ]
      refine h_take 1 (some 39) (Op.move (Operand.tmp 1)) 3 ?v11 rfl rfl (by kernel_rfl) (by kernel_rfl) (by kernel_rfl) (fun _ _ _ h => h) ?hy11 hHeld ?_
      case hy11 => (intro _ _ _ w hSw; have hcs := KS _ hSw; go_simp; try with_reducible rfl)
      simp only [Act.put, List.setIfInBounds_toArray, List.set_cons_zero, List.set_cons_succ]
      refine h_take 3 (some 41) (Op.load 51 (Operand.tmp 9)) 51 (vv y) rfl rfl (by kernel_rfl) (by kernel_rfl) (by kernel_rfl) (fun _ _ _ h => h) (fun _ _ _ w hSw => exec_load rfl (load_wide wide_V (KV w hSw) rfl)) hHeld ?_
      simp only [Act.put, List.setIfInBounds_toArray, List.set_cons_zero, List.set_cons_succ]
      refine h_step 2 (some 40) (Op.call { callee := Callee.value (Operand.func 45), args := #[Operand.tmp 39], argTypes := #[3] }) 54 rfl rfl (by kernel_rfl) (fun _ _ _ K hK => ?_)
      go_simp
      refine (pobject_w i _).mono ?_
      rintro e w7 ⟨rfl, hk7⟩
      replace hk7 : Kept (fun _ => False) w6 w7 := (Kept.refl _ w6).drew.thru hk7
      go_wp2_with fail
      refine hK.out _ _ (hk7.mono (fun _ _ e => e.elim)) (fun hHeld => ?_)
      clear hK K
      try simp only [Act.put, List.setIfInBounds_toArray, List.set_cons_zero, List.set_cons_succ]
      refine h_step 4 (some 42) (Op.call { callee := Callee.value (Operand.func 24), args := #[Operand.tmp 38, Operand.tmp 40, Operand.tmp 41], argTypes := #[25, 54, 51] }) 0 rfl rfl (by kernel_rfl) (fun _ _ _ K hK => ?_)
      go_simp
      refine (vput_w q N p (seeT g i) 8 i y w7 (hv6.still hk7)).mono ?_
      rintro e w8 ⟨rfl, hv8, hk8⟩
      replace hk8 : Kept (fun n => n = N) w6 w8 := (hk7.mono (fun _ _ e => e.elim)).trans hk8 (fun _ _ e => e)
      go_wp2_with fail
      refine hK.out _ _ (hk8) (fun hHeld => ?_)
      clear hK K
      try simp only [Act.put, List.setIfInBounds_toArray, List.set_cons_zero, List.set_cons_succ]
      refine wpAnyH_done (by kernel_rfl) ?_ _
      have HZ : Hid (ViewIn q N p (endT f g i wr b) w8 ∧ Kept (fun n => n = N) w w8) := ⟨by rw [HT.out, if_pos HS.out]; exact hv8, K6.trans hk8 (fun _ _ e => e)⟩
      clear hHeld KS KV hk7 hv6 hk8 hv8 hFy K6
      go_wp2_with fail
      exact bodyPost_ret (v := .bool true) (by simp [results, Try.results56, go_sem]) rfl ⟨rfl, HZ.out⟩
    · have HS : Hid (¬ leftV y) := fun e => by unfold leftV at e; omega
      have HT2 : Hid (endT f g i wr b = lostT f (seeT g i) i) := by show _ = _; rw [HT.out, if_neg HS.out]
      go_wp2_with fail
      generalize w5.setCell ⟨F, s, none⟩ (.int .i64 y0) = w6 at *
      have hv6 := hv4.kept k6 (by omega) (by omega)
      have K6 : Kept (fun n => n = N) w w6 := K4.trans k6 (fun k h1 h2 => by omega)
      clear c0 c1 cz fz hyz hF4 hv4 K4 k6 HT HS hFy p1 p2
      refine (pobject_w i _).mono ?_
      rintro e w7 ⟨rfl, hk7⟩
      go_wp2_with fail
      refine (vput_w q N p (seeT g i) 8 i zeroV w7 (hv6.still hk7)).mono ?_
      rintro e w8 ⟨rfl, hv8, hk8⟩
      have K8 : Kept (fun n => n = N) w w8 := (K6.trans hk7 (fun _ _ e => e.elim)).trans hk8 (fun _ _ e => e)
      clear hk7 hk8 hv6 K6
      go_wp2_with fail
      refine (ptable_w _).mono ?_
      rintro e w9 ⟨rfl, hk9⟩
      go_wp2_with fail
      have K9 := K8.trans hk9 (fun _ _ e => e.elim)
      refine (vget_w q N p B f _ 7 0 w9 (hv8.still hk9) (hsk _ K9) hNB).mono ?_
      rintro e w10 ⟨rfl, hv10, hk10⟩
      have K10 : Kept (fun n => n = N) w w10 := K9.trans hk10 (fun _ _ e => e)
      clear hk9 hk10 hv8 K8 K9
      have ez : vgetF f (vputT (seeT g i) (8, i) zeroV) (7, 0) = tabV f (seeT g i) := tab_put (f := f) (g := seeT g i) hi1 hi2 zeroV
      rw [ez]
      have HG : Hid (lostT f (seeT g i) i = vputT (vgetT (vputT (seeT g i) (8, i) zeroV) (7, 0)) (7, 0) (withN (tabV f (seeT g i)) (clrN (tabV f (seeT g i)).n0 i))) := rfl
      generalize tabV f (seeT g i) = z at *
      clear ez
      obtain ⟨G, hG⟩ : ∃ G : Nat, w10.heap.size = G := ⟨_, rfl⟩
      have lG : w.heap.size ≤ G := by have := K10.size; omega
      have hz11 : (w10.alloc (.cells (vc z).toArray 51)).heap[G]? = some (.cells (vc z).toArray 51 (0, 0)) := alloc_at' _ hG
      have hv11 := hv10.still ((Kept.refl _ w10).alloc (.cells (vc z).toArray 51))
      have K11 : Kept (fun n => n = N) w (w10.alloc (.cells (vc z).toArray 51)) := K10.alloc _
      clear hv10 K10
      go_wp2_with (first | (refine list_wnew rfl wide_V _ _ rfl G rfl (vc z) rfl _ rfl hG rfl (vc_one _) ?_))
      generalize w10.alloc (.cells (vc z).toArray 51) = w11 at *
      have c0 : w11.cell? ⟨G, 0, none⟩ = some (.int .i64 z.n0) := cell_at hz11 rfl
      have f0 := free_at hz11 0
      go_wp2_with fail
      try simp only [Act.put]
      go_cut [10] from 51 to 58 (fun v wc => v = .pointer (some ⟨G, 0, none⟩) ∧ Hid (Kept (fun n => n = G) w11 wc ∧ wc.heap[G]? = some (.cells (vc (withN z (clrN z.n0 i))).toArray 51 (0, 0))))
      case first =>
        go_region_with (refine (pbit_w i _ (by omega) (by omega)).mono ?_; rintro e wd ⟨rfl, hwd⟩; subst hwd)
        all_goals
          go_wp2
          go_meet
          case rel => exact And.intro rfl (And.intro (by refine Kept.drew (Kept.setCell (Kept.refl _ _) ?_ _); intro _; rfl) (by show (w11.setCell _ _).heap[G]? = _; rw [set_at hz11]; rfl))
      case rest =>
        obtain ⟨rfl, HC⟩ := hcut
        have hFy := HC.out.2
        have hvw : ViewIn q N p _ wc := hv11.kept HC.out.1 (by omega) (by omega)
        have hKw : Kept (fun n => n = N) w wc := K11.trans HC.out.1 (fun k h1 h2 => by omega)
        clear c0 f0 HC K11 hv11 hz11
        obtain ⟨y0, hy0⟩ : ∃ y0, withN z (clrN z.n0 i) = y0 := ⟨_, rfl⟩
        rw [hy0] at hFy HG
        clear hy0
        have KS : ∀ w', Kept (fun n => n = N) wc w' → True := fun _ _ => trivial
        have KV : ∀ w', Kept (fun n => n = N) wc w' → w'.rangeAt G 0 (vc y0) := fun w' hk' => range_kept (whole_range hFy) hk' (by omega)
        go_wp2_with fail
        refine wp_region_held_drew (S := fun w' => Kept (fun n => n = N) wc w') (by kernel_rfl) ((Kept.refl _ _).drew) (fun hHeld => ?_)
        refine h_take 0 (some 59) (Op.move (Operand.tmp 0)) 25 ?v12 rfl rfl (by kernel_rfl) (by kernel_rfl) (by kernel_rfl) (fun _ _ _ h => h) ?hy12 hHeld ?_
        case hy12 => (intro _ _ _ w hSw; have hcs := KS _ hSw; go_simp; try with_reducible rfl)
        simp only [Act.put, List.setIfInBounds_toArray, List.set_cons_zero, List.set_cons_succ]
        refine h_take 2 (some 61) (Op.load 51 (Operand.tmp 10)) 51 (vv y0) rfl rfl (by kernel_rfl) (by kernel_rfl) (by kernel_rfl) (fun _ _ _ h => h) (fun _ _ _ w hSw => exec_load rfl (load_wide wide_V (KV w hSw) rfl)) hHeld ?_
        simp only [Act.put, List.setIfInBounds_toArray, List.set_cons_zero, List.set_cons_succ]
        refine h_step 1 (some 60) (Op.call { callee := Callee.value (Operand.func 43), args := #[], argTypes := #[] }) 54 rfl rfl (by kernel_rfl) (fun _ _ _ K hK => ?_)
        go_simp
        refine (ptable_w _).mono ?_
        rintro e w5 ⟨rfl, hk5⟩
        replace hk5 : Kept (fun _ => False) wc w5 := (Kept.refl _ wc).drew.thru hk5
        go_wp2_with fail
        refine hK.out _ _ (hk5.mono (fun _ _ e => e.elim)) (fun hHeld => ?_)
        clear hK K
        try simp only [Act.put, List.setIfInBounds_toArray, List.set_cons_zero, List.set_cons_succ]
        refine h_step 3 (some 62) (Op.call { callee := Callee.value (Operand.func 24), args := #[Operand.tmp 59, Operand.tmp 60, Operand.tmp 61], argTypes := #[25, 54, 51] }) 0 rfl rfl (by kernel_rfl) (fun _ _ _ K hK => ?_)
        go_simp
        refine (vput_w q N p _ 7 0 y0 w5 (hvw.still hk5)).mono ?_
        rintro e wz ⟨rfl, hvz, hkz⟩
        replace hkz : Kept (fun n => n = N) wc wz := (hk5.mono (fun _ _ e => e.elim)).trans hkz (fun _ _ e => e)
        go_wp2_with fail
        refine hK.out _ _ (hkz) (fun hHeld => ?_)
        clear hK K
        try simp only [Act.put, List.setIfInBounds_toArray, List.set_cons_zero, List.set_cons_succ]
        refine wpAnyH_done (by kernel_rfl) ?_ _
        have HZ : Hid (ViewIn q N p (endT f g i wr b) wz ∧ Kept (fun n => n = N) w wz) := ⟨by rw [HT2.out, HG.out]; exact hvz, hKw.trans hkz (fun _ _ e => e)⟩
        clear hHeld KS KV hk5 hvw hKw hkz hvz hFy
        go_wp2_with fail
        exact bodyPost_ret (v := .bool true) (by simp [results, Try.results56, go_sem]) rfl ⟨rfl, HZ.out⟩
end Go.Proofs.Ytdgkhfhlbjpaoaa
