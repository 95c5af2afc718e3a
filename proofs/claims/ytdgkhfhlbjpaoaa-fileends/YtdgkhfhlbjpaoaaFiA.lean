
/- What the code's open files do when they are called; no conditions but lengths. -/
import Derived.Test.YtdgkhfhlbjpaoaaFiT
import Derived.Test.YtdgkhfhlbjpaoaaPiA
namespace Go.Proofs.Ytdgkhfhlbjpaoaa
open Go.RowKit
set_option maxRecDepth 100000
set_option linter.unusedSimpArgs false

theorem fbit_w (i : Int) (w : World) (h : 0 ≤ i) (h' : i < 16) : Calls Try.prog 36 #[.int .i64 i] w fun e w' => e = .returned (.int .i64 (pw i)) ∧ w' = w := by
  have hp := pw_wrap h h'
  go_enter Try.func36, Try.ntmps36
  go_wp2
  rw [hp]
  go_ret
  exact ⟨rfl, rfl⟩

theorem fobject_w (i : Int) (w : World) : Calls Try.prog 37 #[.int .i64 i] w fun e w' => e = .returned (.agg #[.int .i64 6, .int .i64 i]) ∧ Kept (fun _ => False) w w' := by
  go_enter Try.func37, Try.ntmps37
  go_wp2
  exact bodyPost_ret (results_cell_row Try.results37 _ _ w.heap.size _ _ _ _ rfl (alloc_at _ _) Try.underlying54 rfl wide_K.size) rfl ⟨rfl, (Kept.refl _ _).alloc _⟩

theorem ftable_w (w : World) : Calls Try.prog 35 #[] w fun e w' => e = .returned (.agg #[.int .i64 5, .int .i64 0]) ∧ Kept (fun _ => False) w w' := by
  go_enter Try.func35, Try.ntmps35
  go_wp2
  exact bodyPost_ret (results_cell_row Try.results35 _ _ w.heap.size _ _ _ _ rfl (alloc_at _ _) Try.underlying54 rfl wide_K.size) rfl ⟨rfl, (Kept.refl _ _).alloc _⟩

theorem fcons_w (w : World) : Calls Try.prog 61 #[] w fun e w' => e = .returned (.agg #[.int .i64 11, .int .i64 0]) ∧ Kept (fun _ => False) w w' := by
  go_enter Try.func61, Try.ntmps61
  go_wp2
  exact bodyPost_ret (results_cell_row Try.results61 _ _ w.heap.size _ _ _ _ rfl (alloc_at _ _) Try.underlying54 rfl wide_K.size) rfl ⟨rfl, (Kept.refl _ _).alloc _⟩

theorem fis_w (q N p B : Nat) (f : StF) (g : VwF) (i : Int) (w : World) (h : ViewIn q N p g w) (hs : StoreIn p B f w) (hNB : N ≠ B) : Calls Try.prog 16 #[.pointer (some ⟨q, 0, none⟩), .int .i64 i] w
    fun e w' => e = .returned (.bool (isO f g i)) ∧ ViewIn q N p (isOT g i) w' ∧ Kept (fun n => n = N) w w' := by
  by_cases hr : 0 ≤ i ∧ i < 12
  · have HV : Hid (isO f g i = hasB (vgetF f g (5, 0)).n0 i ∧ isOT g i = vgetT g (5, 0)) := isO_in hr
    obtain ⟨r1, r2⟩ := hr
    go_enter Try.func16, Try.ntmps16
    go_wp2_with fail
    refine (ftable_w _).mono ?_
    rintro e w1 ⟨rfl, hk1⟩
    go_wp2_with fail
    refine (vget_w q N p B f g 5 0 w1 (h.still hk1) (hs.still hk1) hNB).mono ?_
    rintro e w2 ⟨rfl, hv2, hk2⟩
    have HZ : Hid (ViewIn q N p (isOT g i) w2 ∧ Kept (fun n => n = N) w w2) := ⟨by rw [HV.out.2]; exact hv2, (hk1.mono (fun _ _ e => e.elim)).trans hk2 (fun _ _ e => e)⟩
    have hf := field_arr (vgetF f g (5, 0)) w2
    have hx := index_n0 (vgetF f g (5, 0)) w2
    clear hv2 hk2 hk1 h hs
    generalize vgetF f g (5, 0) = x at *
    have hb := and_b x.n0 i r1 (by omega)
    cases hbit : hasB x.n0 i with
    | true =>
      rw [hbit, if_pos rfl] at hb
      have hz : (pw i != 0) = true := by have := pw_pos (i := i) r1 (by omega); simp; omega
      have HE : Hid (isO f g i = true) := by show _ = _; rw [HV.out.1]; exact hbit
      clear hbit HV
      go_wp2_with fail
      refine (fbit_w i _ r1 (by omega)).mono ?_
      rintro e w3 ⟨rfl, hw3⟩
      subst hw3
      go_wp2_with fail
      go_ret
      exact ⟨by rw [HE.out]; rfl, HZ.out⟩
    | false =>
      rw [hbit] at hb
      simp only [Bool.false_eq_true, if_false] at hb
      have HE : Hid (isO f g i = false) := by show _ = _; rw [HV.out.1]; exact hbit
      clear hbit HV
      go_wp2_with fail
      refine (fbit_w i _ r1 (by omega)).mono ?_
      rintro e w3 ⟨rfl, hw3⟩
      subst hw3
      go_wp2_with fail
      go_ret
      exact ⟨by rw [HE.out]; rfl, HZ.out⟩
  · have HV : Hid (isO f g i = false ∧ isOT g i = g) := isO_out hr
    have HZ : Hid (ViewIn q N p (isOT g i) w ∧ Kept (fun n => n = N) w w) := ⟨by rw [HV.out.2]; exact h, Kept.refl _ _⟩
    clear h hs
    by_cases r1 : 0 ≤ i
    · have r2 : ¬ i < 12 := by omega
      clear hr
      go_enter Try.func16, Try.ntmps16
      go_wp2
      go_ret
      exact ⟨by rw [HV.out.1]; rfl, HZ.out⟩
    · clear hr
      go_enter Try.func16, Try.ntmps16
      go_wp2
      go_ret
      exact ⟨by rw [HV.out.1]; rfl, HZ.out⟩

set_option maxHeartbeats 1000000 in
theorem opn_w (q N p B : Nat) (f : StF) (g : VwF) (kind what mode : Int) (w : World) (h : ViewIn q N p g w) (hs : StoreIn p B f w) (hNB : N ≠ B) : Calls Try.prog 11 #[.pointer (some ⟨q, 0, none⟩), .int .i64 kind, .int .i64 what, .int .i64 mode] w
    fun e w' => e = .returned (opnV (opnA f g)) ∧ ViewIn q N p (opnT f g kind what mode) w' ∧ Kept (fun n => n = N) w w' := by
  have hN : N < w.heap.size := h.map.lt
  have hq : q < w.heap.size := lt_at h.cell
  go_enter Try.func11, Try.ntmps11
  go_wp2_with fail
  refine (ftable_w w).mono ?_
  rintro e w1 ⟨rfl, hk1⟩
  go_wp2_with fail
  refine (vget_w q N p B f g 5 0 w1 (h.still hk1) (hs.still hk1) hNB).mono ?_
  rintro e w2 ⟨rfl, hv2, hk2⟩
  have k2 : Kept (fun n => n = N) w w2 := (hk1.mono (fun _ _ e => e.elim)).trans hk2 (fun _ _ e => e)
  have HA : Hid (opnA f g = freeF (vgetF f g (5, 0)).n0 ∧ opnT f g kind what mode = if opnA f g < 12 then vputT (vputT (vgetT g (5, 0)) (5, 0) (withN (vgetF f g (5, 0)) (orN (vgetF f g (5, 0)).n0 (opnA f g)))) (6, opnA f g) (newF kind what mode) else vgetT g (5, 0)) := ⟨rfl, rfl⟩
  generalize vgetF f g (5, 0) = x at *
  obtain ⟨F, hF⟩ : ∃ F : Nat, w2.heap.size = F := ⟨_, rfl⟩
  have lF : w.heap.size ≤ F := by have := k2.size; omega
  have hv3 : ViewIn q N p (vgetT g (5, 0)) (w2.alloc (.cells (vc x).toArray 51)) := hv2.still ((Kept.refl _ _).alloc _)
  have k3 : Kept (fun n => n = N) w (w2.alloc (.cells (vc x).toArray 51)) := k2.alloc _
  have hF3 : (w2.alloc (.cells (vc x).toArray 51)).heap[F]? = some (.cells (vc x).toArray 51 (0, 0)) := alloc_at' _ hF
  clear h hs hk1 hk2 hv2 k2
  go_wp2_with (first | (refine list_wnew rfl wide_V _ _ rfl F rfl (vc x) rfl _ rfl hF rfl (vc_one _) ?_))
  generalize w2.alloc (.cells (vc x).toArray 51) = w3 at *
  clear hF
  have H0 : Hid (Kept (fun _ => False) w3 w3) := Kept.refl _ _
  have HF : Hid (w3.heap[F]? = some (.cells (vc x).toArray 51 (0, 0))) := hF3
  have HV : Hid (ViewIn q N p (vgetT g (5, 0)) w3 ∧ Kept (fun n => n = N) w w3) := ⟨hv3, k3⟩
  clear hF3 hv3 k3
  go_loopw [11, 16] (fun _ v wr => ∃ i : Int, v = .int .i64 i ∧ 0 ≤ i ∧ i ≤ 12 ∧ Hid (∀ j, 0 ≤ j → j < i → hasB x.n0 j = true) ∧ Hid (Kept (fun _ => False) w3 wr)) (fun _ v _ => (12 - intOf v).toNat)
  case atStart => exact ⟨0, rfl, by omega, by omega, fun j h1 h2 => by omega, H0.out⟩
  case round =>
    obtain ⟨i, rfl, hi1, hi2, HB, HK⟩ := hrel
    clear H0
    by_cases hlt : i < 12
    · have hb := and_b x.n0 i (by omega) (by omega)
      have hF4 := HK.out.at HF.out (fun x => x)
      have c0 := cell_at hF4 (i := 0) (v := .int .i64 x.n0) rfl
      cases hbit : hasB x.n0 i with
      | true =>
        rw [hbit, if_pos rfl] at hb
        have hz : (pw i != 0) = true := by have := pw_pos (i := i) (by omega) (by omega); simp; omega
        have HB2 : Hid (∀ j, 0 ≤ j → j < i + 1 → hasB x.n0 j = true) := fun j h1 h2 => by
          by_cases e : j = i
          · rw [e]; exact hbit
          · exact HB.out j h1 (by omega)
        clear hbit
        go_wp2_with fail
        go_quiet (exact Calls.quiet_of_same (fbit_w i _ (by omega) (by omega)))
        have HK2 : Hid (Kept (fun _ => False) w3 (wr.drewN nq)) := HK.out.trans (kept_drewN _ _) (fun _ _ e => e)
        clear hF4 c0 HK HB
        go_wp2
        go_roundw
        case rel => exact ⟨i + 1, rfl, by omega, by omega, HB2.out, HK2⟩
        case measure => simp [intOf]; omega
      | false =>
        rw [hbit] at hb
        simp only [Bool.false_eq_true, if_false] at hb
        have HE : Hid (opnA f g = i) := by show _ = _; rw [HA.out.1]; exact freeF_at hi1 hlt HB.out hbit
        clear hbit
        go_wp2_with fail
        go_quiet (exact Calls.quiet_of_same (fbit_w i _ (by omega) (by omega)))
        have HK2 : Hid (Kept (fun _ => False) w3 (wr.drewN nq)) := HK.out.trans (kept_drewN _ _) (fun _ _ e => e)
        clear hF4 c0 HK HB
        generalize wr.drewN nq = wd at *
        have hF4 := HK2.out.at HF.out (fun x => x)
        have c0 := cell_at hF4 (i := 0) (v := .int .i64 x.n0) rfl
        have f0 := free_at hF4 0
        go_wp2_with fail
        go_cut [10] from 26 to 33 (fun v wc => v = .pointer (some ⟨F, 0, none⟩) ∧ Hid (Kept (fun n => n = F) wd wc ∧ wc.heap[F]? = some (.cells (vc (withN x (orN x.n0 i))).toArray 51 (0, 0))))
        case first =>
          go_region_with (refine (fbit_w i _ (by omega) (by omega)).mono ?_; rintro e w4 ⟨rfl, hw4⟩; subst hw4)
          all_goals
            go_wp2
            go_meet
            case rel => exact And.intro rfl (And.intro (by refine Kept.drew (Kept.setCell (Kept.refl _ _) ?_ _); intro _; rfl) (by show (wd.setCell _ _).heap[F]? = _; rw [set_at hF4]; rfl))
        case rest =>
          obtain ⟨rfl, HC⟩ := hcut
          have hFy := HC.out.2
          have hK : Kept (fun n => n = F) w3 wc := (HK2.out.mono (fun _ _ e => e.elim)).trans HC.out.1 (fun _ _ e => e)
          have hvw : ViewIn q N p (vgetT g (5, 0)) wc := HV.out.1.kept hK (by omega) (by omega)
          have hKw : Kept (fun n => n = N) w wc := HV.out.2.trans hK (fun k h1 h2 => by omega)
          clear hF4 c0 f0 HK2 HC hK HV HF
          obtain ⟨y, hy⟩ : ∃ y, withN x (orN x.n0 i) = y := ⟨_, rfl⟩
          rw [hy] at hFy
          have HY : Hid (opnT f g kind what mode = vputT (vputT (vgetT g (5, 0)) (5, 0) y) (6, i) (newF kind what mode)) := by
            show _ = _
            rw [HA.out.2, HE.out, if_pos hlt, hy]
          clear hy HA
          have KS : ∀ w', Kept (fun n => n = N) wc w' → True := fun _ _ => trivial
          have KV : ∀ w', Kept (fun n => n = N) wc w' → w'.rangeAt F 0 (vc y) := fun w' hk' => range_kept (whole_range hFy) hk' (by omega)
          go_wp2_with fail
          refine wp_region_held_drew (S := fun w' => Kept (fun n => n = N) wc w') (by kernel_rfl) ((Kept.refl _ _).drew) (fun hHeld => ?_)
          refine h_take 0 (some 34) (Op.move (Operand.tmp 0)) 25 ?v1 rfl rfl (by kernel_rfl) (by kernel_rfl) (by kernel_rfl) (fun _ _ _ h => h) ?hy1 hHeld ?_
          case hy1 => (intro _ _ _ w hSw; have hcs := KS _ hSw; go_simp; try with_reducible rfl)
          simp only [Act.put, List.setIfInBounds_toArray, List.set_cons_zero, List.set_cons_succ]
          refine h_take 2 (some 36) (Op.load 51 (Operand.tmp 10)) 51 (vv y) rfl rfl (by kernel_rfl) (by kernel_rfl) (by kernel_rfl) (fun _ _ _ h => h) (fun _ _ _ w hSw => exec_load rfl (load_wide wide_V (KV w hSw) rfl)) hHeld ?_
          simp only [Act.put, List.setIfInBounds_toArray, List.set_cons_zero, List.set_cons_succ]
          refine h_step 1 (some 35) (Op.call { callee := Callee.value (Operand.func 35), args := #[], argTypes := #[] }) 54 rfl rfl (by kernel_rfl) (fun _ _ _ K hK => ?_)
          go_simp
          refine (ftable_w _).mono ?_
          rintro e w5 ⟨rfl, hk5⟩
          replace hk5 : Kept (fun _ => False) wc w5 := (Kept.refl _ wc).drew.thru hk5
          go_wp2_with fail
          refine hK.out _ _ (hk5.mono (fun _ _ e => e.elim)) (fun hHeld => ?_)
          clear hK K
          try simp only [Act.put, List.setIfInBounds_toArray, List.set_cons_zero, List.set_cons_succ]
          refine h_step 3 (some 37) (Op.call { callee := Callee.value (Operand.func 24), args := #[Operand.tmp 34, Operand.tmp 35, Operand.tmp 36], argTypes := #[25, 54, 51] }) 0 rfl rfl (by kernel_rfl) (fun _ _ _ K hK => ?_)
          go_simp
          refine (vput_w q N p (vgetT g (5, 0)) 5 0 y w5 (hvw.still hk5)).mono ?_
          rintro e w6 ⟨rfl, hv6, hk6⟩
          replace hk6 : Kept (fun n => n = N) wc w6 := (hk5.mono (fun _ _ e => e.elim)).trans hk6 (fun _ _ e => e)
          go_wp2_with fail
          refine hK.out _ _ (hk6) (fun hHeld => ?_)
          clear hK K
          try simp only [Act.put, List.setIfInBounds_toArray, List.set_cons_zero, List.set_cons_succ]
          refine wpAnyH_done (by kernel_rfl) ?_ _
          have hK6 : Kept (fun n => n = N) w w6 := hKw.trans hk6 (fun _ _ e => e)
          clear hHeld KS KV hk5 hvw hKw hk6 hFy
          obtain ⟨G, hG⟩ : ∃ G : Nat, w6.heap.size = G := ⟨_, rfl⟩
          have lG : N < G := by have := hK6.size; omega
          have lq : q < G := by have := hK6.size; omega
          have lw : w.heap.size ≤ G := by have := hK6.size; omega
          obtain ⟨w7, h7⟩ : ∃ w7, w6.alloc (.cells (vc zeroV).toArray 51) = w7 := ⟨_, rfl⟩
          have b7 : w7.heap[G]? = some (.cells (vc zeroV).toArray 51 (0, 0)) := by subst h7; exact alloc_at' _ hG
          have k7 : Kept (fun _ => False) w6 w7 := by subst h7; exact (Kept.refl _ _).alloc _
          have c0 : w7.cell? ⟨G, 0, none⟩ = some (.int .i64 0) := cell_at b7 rfl
          have f0 := free_at b7 0
          have b8 := set_at b7 0 (.int .i64 kind)
          have c1 : (w7.setCell ⟨G, 0, none⟩ (.int .i64 kind)).cell? ⟨G, 1, none⟩ = some (.int .i64 0) := cell_at b8 rfl
          have f1 := free_at b8 1
          have b9 := set_at b8 1 (.int .i64 1)
          have c2 : ((w7.setCell ⟨G, 0, none⟩ (.int .i64 kind)).setCell ⟨G, 1, none⟩ (.int .i64 1)).cell? ⟨G, 2, none⟩ = some (.int .i64 0) := cell_at b9 rfl
          have f2 := free_at b9 2
          have b10 := set_at b9 2 (.int .i64 what)
          have c4 : (((w7.setCell ⟨G, 0, none⟩ (.int .i64 kind)).setCell ⟨G, 1, none⟩ (.int .i64 1)).setCell ⟨G, 2, none⟩ (.int .i64 what)).cell? ⟨G, 4, none⟩ = some (.int .i64 0) := cell_at b10 rfl
          have f4 := free_at b10 4
          have b9' : ((((w7.setCell ⟨G, 0, none⟩ (.int .i64 kind)).setCell ⟨G, 1, none⟩ (.int .i64 1)).setCell ⟨G, 2, none⟩ (.int .i64 what)).setCell ⟨G, 4, none⟩ (.int .i64 mode)).heap[G]? = some (.cells (vc (newF kind what mode)).toArray 51 (0, 0)) := by rw [set_at b10]; rfl
          have k9 : Kept (fun _ => False) w6 ((((w7.setCell ⟨G, 0, none⟩ (.int .i64 kind)).setCell ⟨G, 1, none⟩ (.int .i64 1)).setCell ⟨G, 2, none⟩ (.int .i64 what)).setCell ⟨G, 4, none⟩ (.int .i64 mode)) := Kept.setCell (Kept.setCell (Kept.setCell (Kept.setCell k7 (fun e => by simp at e; omega) _) (fun e => by simp at e; omega) _) (fun e => by simp at e; omega) _) (fun e => by simp at e; omega) _
          rw [zero_cells] at h7
          clear b8 b9 b10
          have b9 := b9'
          clear b9'
          go_wp2_with fail
          generalize ((((w7.setCell ⟨G, 0, none⟩ (.int .i64 kind)).setCell ⟨G, 1, none⟩ (.int .i64 1)).setCell ⟨G, 2, none⟩ (.int .i64 what)).setCell ⟨G, 4, none⟩ (.int .i64 mode)) = w8 at *
          clear c0 f0 c1 f1 c2 f2 c4 f4 b7 k7 h7 hG
          have hv8 := hv6.still k9
          have hK8 := hK6.trans k9 (fun _ _ e => e.elim)
          clear hv6 hK6 k9
          have KS : ∀ w', Kept (fun n => n = N) w8 w' → True := fun _ _ => trivial
          have KV : ∀ w', Kept (fun n => n = N) w8 w' → w'.rangeAt G 0 (vc (newF kind what mode)) := fun w' hk' => range_kept (whole_range b9) hk' (by omega)
          refine wp_region_held_drew (S := fun w' => Kept (fun n => n = N) w8 w') (by kernel_rfl) ((Kept.refl _ _).drew) (fun hHeld => ?_)
          refine h_take 0 (some 49) (Op.move (Operand.tmp 0)) 25 ?v2 rfl rfl (by kernel_rfl) (by kernel_rfl) (by kernel_rfl) (fun _ _ _ h => h) ?hy2 hHeld ?_
          case hy2 => (intro _ _ _ w hSw; have hcs := KS _ hSw; go_simp; try with_reducible rfl)
          simp only [Act.put, List.setIfInBounds_toArray, List.set_cons_zero, List.set_cons_succ]
          refine h_take 1 (some 50) (Op.move (Operand.tmp 11)) 3 ?v3 rfl rfl (by kernel_rfl) (by kernel_rfl) (by kernel_rfl) (fun _ _ _ h => h) ?hy3 hHeld ?_
          case hy3 => (intro _ _ _ w hSw; have hcs := KS _ hSw; go_simp; try with_reducible rfl)
          simp only [Act.put, List.setIfInBounds_toArray, List.set_cons_zero, List.set_cons_succ]
          refine h_take 3 (some 52) (Op.load 51 (Operand.tmp 12)) 51 (vv (newF kind what mode)) rfl rfl (by kernel_rfl) (by kernel_rfl) (by kernel_rfl) (fun _ _ _ h => h) (fun _ _ _ w hSw => exec_load rfl (load_wide wide_V (KV w hSw) rfl)) hHeld ?_
          simp only [Act.put, List.setIfInBounds_toArray, List.set_cons_zero, List.set_cons_succ]
          refine h_step 2 (some 51) (Op.call { callee := Callee.value (Operand.func 37), args := #[Operand.tmp 50], argTypes := #[3] }) 54 rfl rfl (by kernel_rfl) (fun _ _ _ K hK => ?_)
          go_simp
          refine (fobject_w i _).mono ?_
          rintro e w9 ⟨rfl, hk9⟩
          replace hk9 : Kept (fun _ => False) w8 w9 := (Kept.refl _ w8).drew.thru hk9
          go_wp2_with fail
          refine hK.out _ _ (hk9.mono (fun _ _ e => e.elim)) (fun hHeld => ?_)
          clear hK K
          try simp only [Act.put, List.setIfInBounds_toArray, List.set_cons_zero, List.set_cons_succ]
          refine h_step 4 (some 53) (Op.call { callee := Callee.value (Operand.func 24), args := #[Operand.tmp 49, Operand.tmp 51, Operand.tmp 52], argTypes := #[25, 54, 51] }) 0 rfl rfl (by kernel_rfl) (fun _ _ _ K hK => ?_)
          go_simp
          refine (vput_w q N p _ 6 i (newF kind what mode) w9 (hv8.still hk9)).mono ?_
          rintro e wz ⟨rfl, hvz, hkz⟩
          replace hkz : Kept (fun n => n = N) w8 wz := (hk9.mono (fun _ _ e => e.elim)).trans hkz (fun _ _ e => e)
          go_wp2_with fail
          refine hK.out _ _ (hkz) (fun hHeld => ?_)
          clear hK K
          try simp only [Act.put, List.setIfInBounds_toArray, List.set_cons_zero, List.set_cons_succ]
          refine wpAnyH_done (by kernel_rfl) ?_ _
          have hKz : Kept (fun n => n = N) w wz := hK8.trans hkz (fun _ _ e => e)
          have HZ : Hid (ViewIn q N p (opnT f g kind what mode) wz) := by show ViewIn _ _ _ _ _; rw [HY.out]; exact hvz
          have HR : Hid (opnV (opnA f g) = .tuple #[.int .i64 i, .bool true]) := by
            show _ = _
            rw [HE.out]; unfold opnV; rw [if_pos hlt]; simp [hlt]
          clear hHeld KS KV hk9 hv8 hK8 hkz hvz b9 HE
          go_wp2_with fail
          exact bodyPost_ret (v := .tuple #[.int .i64 i, .bool true]) (by simp [results, Try.results11, go_sem]) rfl ⟨by rw [HR.out], HZ.out, hKz⟩
    · obtain rfl : i = 12 := by omega
      have HE : Hid (opnA f g = 12) := by show _ = _; rw [HA.out.1]; exact freeF_none HB.out
      have HR : Hid (opnV (opnA f g) = .tuple #[.int .i64 0, .bool false]) := by show _ = _; rw [HE.out]; rfl
      have HZ : Hid (ViewIn q N p (opnT f g kind what mode) wr) := by
        show ViewIn _ _ _ _ _
        rw [HA.out.2, HE.out]
        exact HV.out.1.still HK.out
      have hKz : Kept (fun n => n = N) w wr := HV.out.2.trans HK.out (fun _ _ e => e.elim)
      clear HA HE HV HK HB HF
      go_wp2_with fail
      exact bodyPost_ret (v := .tuple #[.int .i64 0, .bool false]) (by simp [results, Try.results11, go_sem]) rfl ⟨by rw [HR.out], HZ.out, hKz⟩
end Go.Proofs.Ytdgkhfhlbjpaoaa
