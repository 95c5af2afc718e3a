
/- Processes: New and Free; no conditions but lengths. -/
import Derived.Test.YtiklclmpealllaaPrA
namespace Go.Proofs.Ytiklclmpealllaa
open Go.RowKit
set_option maxRecDepth 100000
set_option linter.unusedSimpArgs false

set_option maxHeartbeats 1000000 in
theorem nw_w (q N p B : Nat) (f : StF) (g : VwF) (par : Int) (w : World) (h : ViewIn q N p g w) (hs : StoreIn p B f w) (hNB : N ≠ B) : Calls Try.prog 7 #[.pointer (some ⟨q, 0, none⟩), .int .i64 par] w
    fun e w' => e = .returned (nwR (nwA f g)) ∧ ViewIn q N p (nwT f g par) w' ∧ Kept (fun n => n = N) w w' := by
  have hN : N < w.heap.size := h.map.lt
  have hq : q < w.heap.size := lt_at h.cell
  go_enter Try.func7, Try.ntmps7
  go_wp2_with fail
  refine (ptable_w w).mono ?_
  rintro e w1 ⟨rfl, hk1⟩
  go_wp2_with fail
  refine (vget_w q N p B f g 3 0 w1 (h.still hk1) (hs.still hk1) hNB).mono ?_
  rintro e w2 ⟨rfl, hv2, hk2⟩
  have k2 : Kept (fun n => n = N) w w2 := (hk1.mono (fun _ _ e => e.elim)).trans hk2 (fun _ _ e => e)
  have HA : Hid (nwA f g = free8 (vgetF f g (3, 0)).n0 ∧ nwT f g par = if nwA f g < 8 then vputT (vputT (vgetT g (3, 0)) (3, 0) (nwV (vgetF f g (3, 0)) (nwA f g))) (4, nwA f g) (prN (wrap64 (par + 1)) (nwV (vgetF f g (3, 0)) (nwA f g)).n1) else vgetT g (3, 0)) := ⟨rfl, rfl⟩
  generalize vgetF f g (3, 0) = x at *
  obtain ⟨F, hF⟩ : ∃ F : Nat, w2.heap.size = F := ⟨_, rfl⟩
  have lF : w.heap.size ≤ F := by have := k2.size; omega
  have hv3 : ViewIn q N p (vgetT g (3, 0)) (w2.alloc (.cells (vc x).toArray 56)) := hv2.still ((Kept.refl _ _).alloc _)
  have k3 : Kept (fun n => n = N) w (w2.alloc (.cells (vc x).toArray 56)) := k2.alloc _
  have hF3 : (w2.alloc (.cells (vc x).toArray 56)).heap[F]? = some (.cells (vc x).toArray 56 (0, 0)) := alloc_at' _ hF
  clear h hs hk1 hk2 hv2 k2
  go_wp2_with (first | (refine list_wnew rfl wide_V _ _ rfl F rfl (vc x) rfl _ rfl hF rfl (vc_one _) ?_))
  generalize w2.alloc (.cells (vc x).toArray 56) = w3 at *
  clear hF
  have H0 : Hid (Kept (fun _ => False) w3 w3) := Kept.refl _ _
  have HF : Hid (w3.heap[F]? = some (.cells (vc x).toArray 56 (0, 0))) := hF3
  have HV : Hid (ViewIn q N p (vgetT g (3, 0)) w3 ∧ Kept (fun n => n = N) w w3) := ⟨hv3, k3⟩
  clear hF3 hv3 k3
  go_loopw [7, 12] (fun _ v wr => ∃ i : Int, v = .int .i64 i ∧ 0 ≤ i ∧ i ≤ 8 ∧ Hid (∀ j, 0 ≤ j → j < i → hasB x.n0 j = true) ∧ Hid (Kept (fun _ => False) w3 wr)) (fun _ v _ => (8 - intOf v).toNat)
  case atStart => exact ⟨0, rfl, by omega, by omega, fun j h1 h2 => by omega, H0.out⟩
  case round =>
    obtain ⟨i, rfl, hi1, hi2, HB, HK⟩ := hrel
    clear H0
    by_cases hlt : i < 8
    · have hb := and_b x.n0 i (by omega) (by omega)
      have hF4 := HK.out.at HF.out (fun x => x)
      have c0 := cell_at hF4 (i := 0) (v := .int .i64 x.n0) rfl
      cases hbit : hasB x.n0 i with
      | true =>
        rw [hbit, if_pos rfl] at hb
        have hz : (pw i != 0) = true := by have := pw_pos (i := i) (by omega) (by omega); simp; omega
        have HB2 : Hid (∀ j, 0 ≤ j → j < i + 1 → hasB x.n0 j = true) := fun j h1 h2 => by
          by_cases e : j = i
          · rw [e]; exact hbit
          · exact HB.out j h1 (by omega)
        clear hbit
        go_wp2_with fail
        go_quiet (exact Calls.quiet_of_same (pbit_w i _ (by omega) (by omega)))
        have HK2 : Hid (Kept (fun _ => False) w3 (wr.drewN nq)) := HK.out.trans (kept_drewN _ _) (fun _ _ e => e)
        clear hF4 c0 HK HB
        go_wp2
        go_roundw
        case rel => exact ⟨i + 1, rfl, by omega, by omega, HB2.out, HK2⟩
        case measure => simp [intOf]; omega
      | false =>
        rw [hbit] at hb
        simp only [Bool.false_eq_true, if_false] at hb
        have HE : Hid (nwA f g = i) := by show _ = _; rw [HA.out.1]; exact free8_at hi1 hlt HB.out hbit
        clear hbit
        go_wp2_with fail
        go_quiet (exact Calls.quiet_of_same (pbit_w i _ (by omega) (by omega)))
        have HK2 : Hid (Kept (fun _ => False) w3 (wr.drewN nq)) := HK.out.trans (kept_drewN _ _) (fun _ _ e => e)
        clear hF4 c0 HK HB
        generalize wr.drewN nq = wd at *
        have hF4 := HK2.out.at HF.out (fun x => x)
        have c0 := cell_at hF4 (i := 0) (v := .int .i64 x.n0) rfl
        have f0 := free_at hF4 0
        go_wp2_with fail
        go_cut [6] from 22 to 29 (fun v wc => v = .pointer (some ⟨F, 0, none⟩) ∧ Hid (Kept (fun n => n = F) wd wc ∧ wc.heap[F]? = some (.cells (vc (withN x (orN x.n0 i))).toArray 56 (0, 0))))
        case first =>
          go_region_with (refine (pbit_w i _ (by omega) (by omega)).mono ?_; rintro e w4 ⟨rfl, hw4⟩; subst hw4)
          all_goals
            go_wp2
            go_meet
            case rel => exact And.intro rfl (And.intro (by refine Kept.drew (Kept.setCell (Kept.refl _ _) ?_ _); intro _; rfl) (by show (wd.setCell _ _).heap[F]? = _; rw [set_at hF4]; rfl))
        case rest =>
          obtain ⟨rfl, HC⟩ := hcut
          have hFx := HC.out.2
          clear hF4 c0 f0
          have c1 := cell_at hFx (i := 1) (v := .int .i64 x.n1) rfl
          have f1 := free_at hFx 1
          have hFy : (wc.setCell ⟨F, 1, none⟩ (.int .i64 (wrap64 (x.n1 + 1)))).heap[F]? = some (.cells (vc (nwV x i)).toArray 56 (0, 0)) := by rw [set_at hFx]; rfl
          have kF : Kept (fun n => n = F) wc (wc.setCell ⟨F, 1, none⟩ (.int .i64 (wrap64 (x.n1 + 1)))) := by refine Kept.setCell (Kept.refl _ _) ?_ _; intro _; rfl
          have hK : Kept (fun n => n = F) w3 (wc.setCell ⟨F, 1, none⟩ (.int .i64 (wrap64 (x.n1 + 1)))) := ((HK2.out.mono (fun _ _ e => e.elim)).trans HC.out.1 (fun _ _ e => e)).trans kF (fun _ _ e => e)
          have hvw : ViewIn q N p (vgetT g (3, 0)) (wc.setCell ⟨F, 1, none⟩ (.int .i64 (wrap64 (x.n1 + 1)))) := HV.out.1.kept hK (by omega) (by omega)
          have hKw : Kept (fun n => n = N) w (wc.setCell ⟨F, 1, none⟩ (.int .i64 (wrap64 (x.n1 + 1)))) := HV.out.2.trans hK (fun k h1 h2 => by omega)
          clear hFx HK2 HC hK HV HF kF
          obtain ⟨y, hy⟩ : ∃ y, nwV x i = y := ⟨_, rfl⟩
          rw [hy] at hFy
          have HY : Hid (nwT f g par = vputT (vputT (vgetT g (3, 0)) (3, 0) y) (4, i) (prN (wrap64 (par + 1)) y.n1)) := by
            show _ = _
            rw [HA.out.2, HE.out, if_pos hlt, hy]
          clear hy HA
          go_wp2_with fail
          generalize wc.setCell ⟨F, 1, none⟩ (.int .i64 (wrap64 (x.n1 + 1))) = w4 at *
          clear c1 f1
          have KS : ∀ w', Kept (fun n => n = N) w4 w' → True := fun _ _ => trivial
          have KV : ∀ w', Kept (fun n => n = N) w4 w' → w'.rangeAt F 0 (vc y) := fun w' hk' => range_kept (whole_range hFy) hk' (by omega)
          refine wp_region_held_drew (S := fun w' => Kept (fun n => n = N) w4 w') (by kernel_rfl) ((Kept.refl _ _).drew) (fun hHeld => ?_)
          refine h_take 0 (some 36) (Op.move (Operand.tmp 0)) 25 ?v1 rfl rfl (by kernel_rfl) (by kernel_rfl) (by kernel_rfl) (fun _ _ _ h => h) ?hy1 hHeld ?_
          case hy1 => (intro _ _ _ w hSw; have hcs := KS _ hSw; go_simp; try with_reducible rfl)
          simp only [Act.put, List.setIfInBounds_toArray, List.set_cons_zero, List.set_cons_succ]
          refine h_take 2 (some 38) (Op.load 56 (Operand.tmp 6)) 56 (vv y) rfl rfl (by kernel_rfl) (by kernel_rfl) (by kernel_rfl) (fun _ _ _ h => h) (fun _ _ _ w hSw => exec_load rfl (load_wide wide_V (KV w hSw) rfl)) hHeld ?_
          simp only [Act.put, List.setIfInBounds_toArray, List.set_cons_zero, List.set_cons_succ]
          refine h_step 1 (some 37) (Op.call { callee := Callee.value (Operand.func 23), args := #[], argTypes := #[] }) 53 rfl rfl (by kernel_rfl) (fun _ _ _ K hK => ?_)
          go_simp
          refine (ptable_w _).mono ?_
          rintro e w5 ⟨rfl, hk5⟩
          replace hk5 : Kept (fun _ => False) w4 w5 := (Kept.refl _ w4).drew.thru hk5
          go_wp2_with fail
          refine hK.out _ _ (hk5.mono (fun _ _ e => e.elim)) (fun hHeld => ?_)
          clear hK K
          try simp only [Act.put, List.setIfInBounds_toArray, List.set_cons_zero, List.set_cons_succ]
          refine h_step 3 (some 39) (Op.call { callee := Callee.value (Operand.func 25), args := #[Operand.tmp 36, Operand.tmp 37, Operand.tmp 38], argTypes := #[25, 53, 56] }) 0 rfl rfl (by kernel_rfl) (fun _ _ _ K hK => ?_)
          go_simp
          refine (vput_w q N p (vgetT g (3, 0)) 3 0 y w5 (hvw.still hk5)).mono ?_
          rintro e w6 ⟨rfl, hv6, hk6⟩
          replace hk6 : Kept (fun n => n = N) w4 w6 := (hk5.mono (fun _ _ e => e.elim)).trans hk6 (fun _ _ e => e)
          go_wp2_with fail
          refine hK.out _ _ (hk6) (fun hHeld => ?_)
          clear hK K
          try simp only [Act.put, List.setIfInBounds_toArray, List.set_cons_zero, List.set_cons_succ]
          refine wpAnyH_done (by kernel_rfl) ?_ _
          have hK6 : Kept (fun n => n = N) w w6 := hKw.trans hk6 (fun _ _ e => e)
          have hF6 := hk6.at hFy (by show ¬ F = N; omega)
          have lF6 := lt_at hF6
          clear hHeld KS KV hk5 hvw hKw hk6 hFy
          obtain ⟨G, hG⟩ : ∃ G : Nat, w6.heap.size = G := ⟨_, rfl⟩
          have lG : N < G := by have := hK6.size; omega
          have lq : q < G := by have := hK6.size; omega
          have lw : w.heap.size ≤ G := by have := hK6.size; omega
          obtain ⟨w7, h7⟩ : ∃ w7, w6.alloc (.cells (vc zeroV).toArray 56) = w7 := ⟨_, rfl⟩
          have b7 : w7.heap[G]? = some (.cells (vc zeroV).toArray 56 (0, 0)) := by subst h7; exact alloc_at' _ hG
          have k7 : Kept (fun _ => False) w6 w7 := by subst h7; exact (Kept.refl _ _).alloc _
          obtain ⟨r, hr⟩ : ∃ r, wrap64 (par + 1) = r := ⟨_, rfl⟩
          rw [hr] at HY
          have c0 : w7.cell? ⟨G, 0, none⟩ = some (.int .i64 0) := cell_at b7 rfl
          have f0 := free_at b7 0
          have b8 := set_at b7 0 (.int .i64 1)
          obtain ⟨w8, h8⟩ : ∃ w8, w7.setCell ⟨G, 0, none⟩ (.int .i64 1) = w8 := ⟨_, rfl⟩
          rw [h8] at b8
          have k8 : Kept (fun _ => False) w6 w8 := by subst h8; exact Kept.setCell k7 (fun e => by simp at e; omega) _
          have c1 : w8.cell? ⟨G, 1, none⟩ = some (.int .i64 0) := cell_at b8 rfl
          have f1 := free_at b8 1
          rw [zero_cells] at h7
          go_wp2_with fail
          refine (pone_w par _).mono ?_
          rintro e w9 ⟨rfl, hw9⟩
          subst hw9
          rw [hr]
          have b9 := set_at b8 1 (.int .i64 r)
          obtain ⟨wa, ha⟩ : ∃ wa, w9.setCell ⟨G, 1, none⟩ (.int .i64 r) = wa := ⟨_, rfl⟩
          rw [ha] at b9
          have k9 : Kept (fun _ => False) w6 wa := by subst ha; exact Kept.setCell k8 (fun e => by simp at e; omega) _
          have hFa := k9.at hF6 (fun e => e)
          have d1 : wa.cell? ⟨F, 1, none⟩ = some (.int .i64 y.n1) := cell_at hFa rfl
          have c2 : wa.cell? ⟨G, 2, none⟩ = some (.int .i64 0) := cell_at b9 rfl
          have f2 := free_at b9 2
          have bz : (wa.setCell ⟨G, 2, none⟩ (.int .i64 y.n1)).heap[G]? = some (.cells (vc (prN r y.n1)).toArray 56 (0, 0)) := by rw [set_at b9]; rfl
          have kz : Kept (fun _ => False) w6 (wa.setCell ⟨G, 2, none⟩ (.int .i64 y.n1)) := Kept.setCell k9 (fun e => by simp at e; omega) _
          clear c0 f0 b7 k7 h7 h8 b8 k8
          go_wp2_with fail
          generalize wa.setCell ⟨G, 2, none⟩ (.int .i64 y.n1) = wb at *
          clear c1 f1 c2 f2 d1 b9 k9 ha hG hFa hF6
          have hvb := hv6.still kz
          have hKb := hK6.trans kz (fun _ _ e => e.elim)
          clear hv6 hK6 kz
          have KS : ∀ w', Kept (fun n => n = N) wb w' → True := fun _ _ => trivial
          have KV : ∀ w', Kept (fun n => n = N) wb w' → w'.rangeAt G 0 (vc (prN r y.n1)) := fun w' hk' => range_kept (whole_range bz) hk' (by omega)
          refine wp_region_held_drew (S := fun w' => Kept (fun n => n = N) wb w') (by kernel_rfl) ((Kept.refl _ _).drew) (fun hHeld => ?_)
          refine h_take 0 (some 51) (Op.move (Operand.tmp 0)) 25 ?v2 rfl rfl (by kernel_rfl) (by kernel_rfl) (by kernel_rfl) (fun _ _ _ h => h) ?hy2 hHeld ?_
          case hy2 => (intro _ _ _ w hSw; have hcs := KS _ hSw; go_simp; try with_reducible rfl)
          simp only [Act.put, List.setIfInBounds_toArray, List.set_cons_zero, List.set_cons_succ]
          refine h_take 1 (some 52) (Op.move (Operand.tmp 7)) 3 ?v3 rfl rfl (by kernel_rfl) (by kernel_rfl) (by kernel_rfl) (fun _ _ _ h => h) ?hy3 hHeld ?_
          case hy3 => (intro _ _ _ w hSw; have hcs := KS _ hSw; go_simp; try with_reducible rfl)
          simp only [Act.put, List.setIfInBounds_toArray, List.set_cons_zero, List.set_cons_succ]
          refine h_take 3 (some 54) (Op.load 56 (Operand.tmp 8)) 56 (vv (prN r y.n1)) rfl rfl (by kernel_rfl) (by kernel_rfl) (by kernel_rfl) (fun _ _ _ h => h) (fun _ _ _ w hSw => exec_load rfl (load_wide wide_V (KV w hSw) rfl)) hHeld ?_
          simp only [Act.put, List.setIfInBounds_toArray, List.set_cons_zero, List.set_cons_succ]
          refine h_step 2 (some 53) (Op.call { callee := Callee.value (Operand.func 27), args := #[Operand.tmp 52], argTypes := #[3] }) 53 rfl rfl (by kernel_rfl) (fun _ _ _ K hK => ?_)
          go_simp
          refine (pobject_w i _).mono ?_
          rintro e wc1 ⟨rfl, hkc⟩
          replace hkc : Kept (fun _ => False) wb wc1 := (Kept.refl _ wb).drew.thru hkc
          go_wp2_with fail
          refine hK.out _ _ (hkc.mono (fun _ _ e => e.elim)) (fun hHeld => ?_)
          clear hK K
          try simp only [Act.put, List.setIfInBounds_toArray, List.set_cons_zero, List.set_cons_succ]
          refine h_step 4 (some 55) (Op.call { callee := Callee.value (Operand.func 25), args := #[Operand.tmp 51, Operand.tmp 53, Operand.tmp 54], argTypes := #[25, 53, 56] }) 0 rfl rfl (by kernel_rfl) (fun _ _ _ K hK => ?_)
          go_simp
          refine (vput_w q N p _ 4 i (prN r y.n1) wc1 (hvb.still hkc)).mono ?_
          rintro e wz ⟨rfl, hvz, hkz⟩
          replace hkz : Kept (fun n => n = N) wb wz := (hkc.mono (fun _ _ e => e.elim)).trans hkz (fun _ _ e => e)
          go_wp2_with fail
          refine hK.out _ _ (hkz) (fun hHeld => ?_)
          clear hK K
          try simp only [Act.put, List.setIfInBounds_toArray, List.set_cons_zero, List.set_cons_succ]
          refine wpAnyH_done (by kernel_rfl) ?_ _
          have hKz : Kept (fun n => n = N) w wz := hKb.trans hkz (fun _ _ e => e)
          have HZ : Hid (ViewIn q N p (nwT f g par) wz) := by show ViewIn _ _ _ _ _; rw [HY.out]; exact hvz
          have HR : Hid (nwR (nwA f g) = .tuple #[.int .i64 i, .bool true]) := by
            show _ = _
            rw [HE.out]; unfold nwR; rw [if_pos hlt]; simp [hlt]
          clear hHeld KS KV hkc hvb hKb hkz hvz bz HE
          go_wp2_with fail
          exact bodyPost_ret (v := .tuple #[.int .i64 i, .bool true]) (by simp [results, Try.results7, go_sem]) rfl ⟨by rw [HR.out], HZ.out, hKz⟩
    · obtain rfl : i = 8 := by omega
      have HE : Hid (nwA f g = 8) := by show _ = _; rw [HA.out.1]; exact free8_none HB.out
      have HR : Hid (nwR (nwA f g) = .tuple #[.int .i64 0, .bool false]) := by show _ = _; rw [HE.out]; rfl
      have HZ : Hid (ViewIn q N p (nwT f g par) wr) := by
        show ViewIn _ _ _ _ _
        rw [HA.out.2, HE.out]
        exact HV.out.1.still HK.out
      have hKz : Kept (fun n => n = N) w wr := HV.out.2.trans HK.out (fun _ _ e => e.elim)
      clear HA HE HV HK HB HF
      go_wp2_with fail
      exact bodyPost_ret (v := .tuple #[.int .i64 0, .bool false]) (by simp [results, Try.results7, go_sem]) rfl ⟨by rw [HR.out], HZ.out, hKz⟩

set_option maxHeartbeats 1000000 in
theorem fr_w (q N p B : Nat) (f : StF) (g : VwF) (i : Int) (w : World) (h : ViewIn q N p g w) (hs : StoreIn p B f w) (hNB : N ≠ B) : Calls Try.prog 12 #[.pointer (some ⟨q, 0, none⟩), .int .i64 i] w
    fun e w' => e = .returned (.bool (isR f g i)) ∧ ViewIn q N p (frT f g i) w' ∧ Kept (fun n => n = N) w w' := by
  have hN : N < w.heap.size := h.map.lt
  have hq : q < w.heap.size := lt_at h.cell
  have hpN : p ≠ N := h.map.off hs.cell
  have hsk : ∀ w', Kept (fun n => n = N) w w' → StoreIn p B f w' := fun w' hk => hs.kept hk hpN (fun e => hNB e.symm)
  cases hR : isR f g i with
  | false =>
    have t0 : (stA f g i == 0) = true := by have : (stA f g i != 0) = false := hR; simpa using this
    have HA : Hid (frT f g i = stT f g i) := fr_no hR
    clear hR
    go_enter Try.func12, Try.ntmps12
    go_wp2_with fail
    refine (state_w q N p B f g i w h hs hNB).mono ?_
    rintro e w1 ⟨rfl, hv1, hk1⟩
    have HZ : Hid (ViewIn q N p (frT f g i) w1 ∧ Kept (fun n => n = N) w w1) := ⟨by rw [HA.out]; exact hv1, hk1⟩
    clear h hs hv1 hk1 hsk
    go_wp2_with fail
    exact bodyPost_ret (v := .bool false) (by simp [results, Try.results12, go_sem]) rfl ⟨rfl, HZ.out⟩
  | true =>
    have t0 : (stA f g i == 0) = false := by have : (stA f g i != 0) = true := hR; simpa using this
    obtain ⟨hi1, hi2⟩ := isR_range hR
    have HT : Hid (frT f g i = goT f (stT f g i) i) := by unfold frT; rw [hR, if_pos rfl]; exact rfl
    clear hR
    go_enter Try.func12, Try.ntmps12
    go_wp2_with fail
    refine (state_w q N p B f g i w h hs hNB).mono ?_
    rintro e w1 ⟨rfl, hv1, hk1⟩
    clear h hs
    generalize stT f g i = g1 at *
    go_wp2_with fail
    clear t0
    refine (pobject_w i _).mono ?_
    rintro e w2 ⟨rfl, hk2⟩
    have K2 := hk1.trans hk2 (fun _ _ e => e.elim)
    go_wp2_with fail
    refine (vput_w q N p g1 4 i zeroV w2 (hv1.still hk2)).mono ?_
    rintro e w3 ⟨rfl, hv3, hk3⟩
    have K3 : Kept (fun n => n = N) w w3 := K2.trans hk3 (fun _ _ e => e)
    clear hv1 hk1 hk2 hk3 K2
    go_wp2_with fail
    refine (pmem_w i _).mono ?_
    rintro e w4 ⟨rfl, hk4⟩
    have K4 := K3.trans hk4 (fun _ _ e => e.elim)
    go_wp2_with fail
    refine (vput_w q N p _ 12 i zeroV w4 (hv3.still hk4)).mono ?_
    rintro e w5 ⟨rfl, hv5, hk5⟩
    have K5 : Kept (fun n => n = N) w w5 := K4.trans hk5 (fun _ _ e => e)
    clear hv3 hk4 hk5 K3 K4
    go_wp2_with fail
    refine (ptable_w _).mono ?_
    rintro e w9 ⟨rfl, hk9⟩
    have K9 := K5.trans hk9 (fun _ _ e => e.elim)
    go_wp2_with fail
    refine (vget_w q N p B f _ 3 0 w9 (hv5.still hk9) (hsk _ K9) hNB).mono ?_
    rintro e w10 ⟨rfl, hv10, hk10⟩
    have K10 : Kept (fun n => n = N) w w10 := K9.trans hk10 (fun _ _ e => e)
    clear hk9 hk10 hv5 K5 K9 hsk
    have ez : vgetF f (vputT (vputT g1 (4, i) zeroV) (12, i) zeroV) (3, 0) = ptV f g1 := by
      rw [get_put_other (plc_m12 hi1 hi2) (key_ne (by decide) _ _), get_put_other (plc_r4 hi1 hi2) (key_ne (by decide) _ _)]
    rw [ez]
    have HG : Hid (goT f g1 i = vputT (vgetT (vputT (vputT g1 (4, i) zeroV) (12, i) zeroV) (3, 0)) (3, 0) (withN (ptV f g1) (clrN (ptV f g1).n0 i))) := rfl
    generalize ptV f g1 = z at *
    clear ez
    obtain ⟨G, hG⟩ : ∃ G : Nat, w10.heap.size = G := ⟨_, rfl⟩
    have lG : w.heap.size ≤ G := by have := K10.size; omega
    obtain ⟨w11, h11⟩ : ∃ w11, w10.alloc (.cells (vc z).toArray 56) = w11 := ⟨_, rfl⟩
    have hz11 : w11.heap[G]? = some (.cells (vc z).toArray 56 (0, 0)) := by subst h11; exact alloc_at' _ hG
    have k11 : Kept (fun _ => False) w10 w11 := by subst h11; exact (Kept.refl _ _).alloc _
    have hv11 := hv10.still k11
    have K11 : Kept (fun n => n = N) w w11 := K10.trans k11 (fun _ _ e => e.elim)
    clear hv10 K10 k11
    go_wp2_with (first | (refine list_wnew rfl wide_V _ _ rfl G rfl (vc z) rfl _ rfl hG rfl (vc_one _) ?_))
    rw [h11]
    have c0 : w11.cell? ⟨G, 0, none⟩ = some (.int .i64 z.n0) := cell_at hz11 rfl
    have f0 := free_at hz11 0
    go_wp2_with fail
    clear hG h11
    try simp only [Act.put]
    go_cut [5] from 23 to 30 (fun v wc => v = .pointer (some ⟨G, 0, none⟩) ∧ Hid (Kept (fun n => n = G) w11 wc ∧ wc.heap[G]? = some (.cells (vc (withN z (clrN z.n0 i))).toArray 56 (0, 0))))
    case first =>
      have hfb := fun w => pbit_w i w hi1 (by omega)
      clear HG hv11 K11
      go_region_with (refine (hfb _).mono ?_; rintro e wd ⟨rfl, hwd⟩; subst hwd)
      all_goals
        go_wp2
        go_meet
        case rel => exact And.intro rfl (And.intro (by refine Kept.drew (Kept.setCell (Kept.refl _ _) ?_ _); intro _; rfl) (by show (w11.setCell _ _).heap[G]? = _; rw [set_at hz11]; rfl))
    case rest =>
      obtain ⟨rfl, HC⟩ := hcut
      have hFu := HC.out.2
      have hvw : ViewIn q N p _ wc := hv11.kept HC.out.1 (by omega) (by omega)
      have hKw : Kept (fun n => n = N) w wc := K11.trans HC.out.1 (fun k h1 h2 => by omega)
      clear c0 f0 HC K11 hv11 hz11
      obtain ⟨u, hu⟩ : ∃ u, withN z (clrN z.n0 i) = u := ⟨_, rfl⟩
      rw [hu] at hFu HG
      clear hu
      have KS : ∀ w', Kept (fun n => n = N) wc w' → True := fun _ _ => trivial
      have KV : ∀ w', Kept (fun n => n = N) wc w' → w'.rangeAt G 0 (vc u) := fun w' hk' => range_kept (whole_range hFu) hk' (by omega)
      go_wp2_with fail
      refine wp_region_held_drew (S := fun w' => Kept (fun n => n = N) wc w') (by kernel_rfl) ((Kept.refl _ _).drew) (fun hHeld => ?_)
      refine h_take 0 (some 31) (Op.move (Operand.tmp 0)) 25 ?v4 rfl rfl (by kernel_rfl) (by kernel_rfl) (by kernel_rfl) (fun _ _ _ h => h) ?hy4 hHeld ?_
      case hy4 => (intro _ _ _ w hSw; have hcs := KS _ hSw; go_simp; try with_reducible rfl)
      simp only [Act.put, List.setIfInBounds_toArray, List.set_cons_zero, List.set_cons_succ]
      refine h_take 2 (some 33) (Op.load 56 (Operand.tmp 5)) 56 (vv u) rfl rfl (by kernel_rfl) (by kernel_rfl) (by kernel_rfl) (fun _ _ _ h => h) (fun _ _ _ w hSw => exec_load rfl (load_wide wide_V (KV w hSw) rfl)) hHeld ?_
      simp only [Act.put, List.setIfInBounds_toArray, List.set_cons_zero, List.set_cons_succ]
      refine h_step 1 (some 32) (Op.call { callee := Callee.value (Operand.func 23), args := #[], argTypes := #[] }) 53 rfl rfl (by kernel_rfl) (fun _ _ _ K hK => ?_)
      go_simp
      refine (ptable_w _).mono ?_
      rintro e w5 ⟨rfl, hk5⟩
      replace hk5 : Kept (fun _ => False) wc w5 := (Kept.refl _ wc).drew.thru hk5
      go_wp2_with fail
      refine hK.out _ _ (hk5.mono (fun _ _ e => e.elim)) (fun hHeld => ?_)
      clear hK K
      try simp only [Act.put, List.setIfInBounds_toArray, List.set_cons_zero, List.set_cons_succ]
      refine h_step 3 (some 34) (Op.call { callee := Callee.value (Operand.func 25), args := #[Operand.tmp 31, Operand.tmp 32, Operand.tmp 33], argTypes := #[25, 53, 56] }) 0 rfl rfl (by kernel_rfl) (fun _ _ _ K hK => ?_)
      go_simp
      refine (vput_w q N p _ 3 0 u w5 (hvw.still hk5)).mono ?_
      rintro e wz ⟨rfl, hvz, hkz⟩
      replace hkz : Kept (fun n => n = N) wc wz := (hk5.mono (fun _ _ e => e.elim)).trans hkz (fun _ _ e => e)
      go_wp2_with fail
      refine hK.out _ _ (hkz) (fun hHeld => ?_)
      clear hK K
      try simp only [Act.put, List.setIfInBounds_toArray, List.set_cons_zero, List.set_cons_succ]
      refine wpAnyH_done (by kernel_rfl) ?_ _
      have HZ : Hid (ViewIn q N p (frT f g i) wz ∧ Kept (fun n => n = N) w wz) := ⟨by rw [HT.out, HG.out]; exact hvz, hKw.trans hkz (fun _ _ e => e)⟩
      clear hHeld KS KV hk5 hvw hkz hvz hFu hKw
      go_wp2_with fail
      exact bodyPost_ret (v := .bool true) (by simp [results, Try.results12, go_sem]) rfl ⟨rfl, HZ.out⟩
end Go.Proofs.Ytiklclmpealllaa
