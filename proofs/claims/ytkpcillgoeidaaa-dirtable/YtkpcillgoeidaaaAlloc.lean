
/- What Alloc does when it is called; no conditions. -/
import Derived.Test.YtkpcillgoeidaaaIno
import Derived.Deep.CutBlock
namespace Go.Proofs.Ytkpcillgoeidaaa
open Go.RowKit
set_option maxRecDepth 100000
set_option linter.unusedSimpArgs false

def numV (n : Int) : V := ⟨n, 0, 0, 0, 0, 0, 0, 0, 0, 0, 0, 0, 0, 0, 0, 0, ByteArray.empty⟩
/-- The least place whose bit is not set; 16: there is none. -/
def freeN (n : Int) : Int := ((List.range 15).find? (fun j : Nat => !hasB n ((j : Int) + 1))).elim 16 (fun j : Nat => (j : Int) + 1)
def withN (x : V) (n : Int) : V := { x with n0 := n }
def allocA (f : StF) (g : VwF) : Int := freeN (vgetF f g (9, 0)).n0
def allocT (f : StF) (g : VwF) (typ : Int) : VwF := if allocA f g < 16 then vputT (vputT (vgetT g (9, 0)) (9, 0) (withN (vgetF f g (9, 0)) (orN (vgetF f g (9, 0)).n0 (allocA f g)))) (10, allocA f g) (numV typ) else vgetT g (9, 0)
def allocV (i : Int) : Value := .tuple #[.int .i64 (if i < 16 then i else 0), .bool (decide (i < 16))]

theorem freeN_at {n i : Int} (h1 : 1 ≤ i) (h2 : i < 16) (ha : ∀ j, 1 ≤ j → j < i → hasB n j = true) (hi : hasB n i = false) : freeN n = i := by
  unfold freeN
  have : (List.range 15).find? (fun j : Nat => !hasB n ((j : Int) + 1)) = some (i - 1).toNat := by
    rw [List.find?_range_eq_some]
    refine ⟨?_, by simp; omega, fun j hj => ?_⟩
    · rw [show (((i - 1).toNat : Nat) : Int) + 1 = i by omega, hi]; rfl
    · rw [ha _ (by omega) (by omega)]; rfl
  rw [this]
  show (((i - 1).toNat : Nat) : Int) + 1 = i
  omega
theorem freeN_none {n : Int} (ha : ∀ j, 1 ≤ j → j < 16 → hasB n j = true) : freeN n = 16 := by
  unfold freeN
  have : (List.range 15).find? (fun j : Nat => !hasB n ((j : Int) + 1)) = none := by
    rw [List.find?_eq_none]
    intro j hj
    have : j < 15 := by simpa using hj
    rw [ha _ (by omega) (by omega)]; simp
  rw [this]; rfl

set_option maxHeartbeats 1000000 in
theorem alloc_w (q N p B : Nat) (f : StF) (g : VwF) (typ : Int) (w : World) (h : ViewIn q N p g w) (hs : StoreIn p B f w) (hNB : N ≠ B) : Calls Try.prog 9 #[.pointer (some ⟨q, 0, none⟩), .int .i64 typ] w
    fun e w' => e = .returned (allocV (allocA f g)) ∧ ViewIn q N p (allocT f g typ) w' ∧ Kept (fun n => n = N) w w' := by
  have hN : N < w.heap.size := h.map.lt
  have hq : q < w.heap.size := lt_at h.cell
  go_enter Try.func9, Try.ntmps9
  go_wp2_with fail
  refine (table_w w).mono ?_
  rintro e w1 ⟨rfl, hk1⟩
  go_wp2_with fail
  refine (vget_w q N p B f g 9 0 w1 (h.still hk1) (hs.still hk1) hNB).mono ?_
  rintro e w2 ⟨rfl, hv2, hk2⟩
  have k2 : Kept (fun n => n = N) w w2 := (hk1.mono (fun _ _ e => e.elim)).trans hk2 (fun _ _ e => e)
  have HA : Hid (allocA f g = freeN (vgetF f g (9, 0)).n0 ∧ allocT f g typ = if allocA f g < 16 then vputT (vputT (vgetT g (9, 0)) (9, 0) (withN (vgetF f g (9, 0)) (orN (vgetF f g (9, 0)).n0 (allocA f g)))) (10, allocA f g) (numV typ) else vgetT g (9, 0)) := ⟨rfl, rfl⟩
  generalize vgetF f g (9, 0) = x at *
  obtain ⟨F, hF⟩ : ∃ F : Nat, w2.heap.size = F := ⟨_, rfl⟩
  have lF : w.heap.size ≤ F := by have := k2.size; omega
  have hv3 : ViewIn q N p (vgetT g (9, 0)) (w2.alloc (.cells (vc x).toArray 64)) := hv2.still ((Kept.refl _ _).alloc _)
  have k3 : Kept (fun n => n = N) w (w2.alloc (.cells (vc x).toArray 64)) := k2.alloc _
  have hF3 : (w2.alloc (.cells (vc x).toArray 64)).heap[F]? = some (.cells (vc x).toArray 64 (0, 0)) := alloc_at' _ hF
  clear h hs hk1 hk2 hv2 k2
  go_wp2_with (first | (refine list_wnew rfl wide_V _ _ rfl F rfl (vc x) rfl _ rfl hF rfl (vc_one _) ?_))
  generalize w2.alloc (.cells (vc x).toArray 64) = w3 at *
  clear hF
  have H0 : Hid (Kept (fun _ => False) w3 w3) := Kept.refl _ _
  have HF : Hid (w3.heap[F]? = some (.cells (vc x).toArray 64 (0, 0))) := hF3
  have HV : Hid (ViewIn q N p (vgetT g (9, 0)) w3 ∧ Kept (fun n => n = N) w w3) := ⟨hv3, k3⟩
  clear hF3 hv3 k3
  go_loopw [7] (fun v wr => ∃ i : Int, v = .int .i64 i ∧ 1 ≤ i ∧ i ≤ 16 ∧ Hid (∀ j, 1 ≤ j → j < i → hasB x.n0 j = true) ∧ Hid (Kept (fun _ => False) w3 wr)) (fun v _ => (16 - intOf v).toNat)
  case atStart => exact ⟨1, rfl, by omega, by omega, fun j h1 h2 => by omega, H0.out⟩
  case round =>
    obtain ⟨i, rfl, hi1, hi2, HB, HK⟩ := hrel
    clear H0
    by_cases hlt : i < 16
    · have hb := and_b x.n0 i (by omega) hlt
      have hF4 := HK.out.at HF.out (fun x => x)
      have c0 := cell_at hF4 (i := 0) (v := .int .i64 x.n0) rfl
      cases hbit : hasB x.n0 i with
      | true =>
        rw [hbit, if_pos rfl] at hb
        have hz : (pw i != 0) = true := by have := pw_pos (i := i) (by omega) hlt; simp; omega
        have HB2 : Hid (∀ j, 1 ≤ j → j < i + 1 → hasB x.n0 j = true) := fun j h1 h2 => by
          by_cases e : j = i
          · rw [e]; exact hbit
          · exact HB.out j h1 (by omega)
        clear hbit
        go_wp2_with fail
        go_quiet (exact Calls.quiet_of_same (bit_w i _ (by omega) hlt))
        have HK2 : Hid (Kept (fun _ => False) w3 (wr.drewN nq)) := HK.out.trans (kept_drewN _ _) (fun _ _ e => e)
        clear hF4 c0 HK HB
        go_wp2
        go_roundw
        case rel => exact ⟨i + 1, rfl, by omega, by omega, HB2.out, HK2⟩
        case measure => simp [intOf]; omega
      | false =>
        rw [hbit] at hb
        simp only [Bool.false_eq_true, if_false] at hb
        have HE : Hid (allocA f g = i) := by show _ = _; rw [HA.out.1]; exact freeN_at hi1 hlt HB.out hbit
        clear hbit
        go_wp2_with fail
        go_quiet (exact Calls.quiet_of_same (bit_w i _ (by omega) hlt))
        have HK2 : Hid (Kept (fun _ => False) w3 (wr.drewN nq)) := HK.out.trans (kept_drewN _ _) (fun _ _ e => e)
        clear hF4 c0 HK HB
        generalize wr.drewN nq = wd at *
        have hF4 := HK2.out.at HF.out (fun x => x)
        have c0 := cell_at hF4 (i := 0) (v := .int .i64 x.n0) rfl
        have f0 := free_at hF4 0
        go_wp2_with fail
        go_cut [6] from 23 to 30 (fun v wc => v = .pointer (some ⟨F, 0, none⟩) ∧ Hid (Kept (fun n => n = F) wd wc ∧ wc.heap[F]? = some (.cells (vc (withN x (orN x.n0 i))).toArray 64 (0, 0))))
        case first =>
          go_region_with (refine (bit_w i _ (by omega) hlt).mono ?_; rintro e w4 ⟨rfl, hw4⟩; subst hw4)
          all_goals
            go_wp2
            go_meet
            case rel => exact And.intro rfl (And.intro (by refine Kept.drew (Kept.setCell (Kept.refl _ _) ?_ _); intro _; rfl) (by show (wd.setCell _ _).heap[F]? = _; rw [set_at hF4]; rfl))
        case rest =>
          obtain ⟨rfl, HC⟩ := hcut
          have hFy := HC.out.2
          have hK : Kept (fun n => n = F) w3 wc := (HK2.out.mono (fun _ _ e => e.elim)).trans HC.out.1 (fun _ _ e => e)
          have hvw : ViewIn q N p (vgetT g (9, 0)) wc := HV.out.1.kept hK (by omega) (by omega)
          have hKw : Kept (fun n => n = N) w wc := HV.out.2.trans hK (fun k h1 h2 => by omega)
          clear hF4 c0 f0 HK2 HC hK HV HF
          obtain ⟨y, hy⟩ : ∃ y, withN x (orN x.n0 i) = y := ⟨_, rfl⟩
          rw [hy] at hFy
          have HY : Hid (allocT f g typ = vputT (vputT (vgetT g (9, 0)) (9, 0) y) (10, i) (numV typ)) := by
            show _ = _
            rw [HA.out.2, HE.out, if_pos hlt, hy]
          clear hy HA
          have KS : ∀ w', Kept (fun n => n = N) wc w' → True := fun _ _ => trivial
          have KV : ∀ w', Kept (fun n => n = N) wc w' → w'.rangeAt F 0 (vc y) := fun w' hk' => range_kept (whole_range hFy) hk' (by omega)
          go_wp2_with fail
          refine wp_region_held_drew (S := fun w' => Kept (fun n => n = N) wc w') (by kernel_rfl) ((Kept.refl _ _).drew) (fun hHeld => ?_)
          refine h_take 0 (some 31) (Op.move (Operand.tmp 0)) 27 ?v1 rfl rfl (by kernel_rfl) (by kernel_rfl) (by kernel_rfl) (fun _ _ _ h => h) ?hy1 hHeld ?_
          case hy1 => (intro _ _ _ w hSw; have hcs := KS _ hSw; go_simp; try with_reducible rfl)
          simp only [Act.put, List.setIfInBounds_toArray, List.set_cons_zero, List.set_cons_succ]
          refine h_take 2 (some 33) (Op.load 64 (Operand.tmp 6)) 64 (vv y) rfl rfl (by kernel_rfl) (by kernel_rfl) (by kernel_rfl) (fun _ _ _ h => h) (fun _ _ _ w hSw => exec_load rfl (load_wide wide_V (KV w hSw) rfl)) hHeld ?_
          simp only [Act.put, List.setIfInBounds_toArray, List.set_cons_zero, List.set_cons_succ]
          refine h_step 1 (some 32) (Op.call { callee := Callee.value (Operand.func 35), args := #[], argTypes := #[] }) 61 rfl rfl (by kernel_rfl) (fun _ _ _ K hK => ?_)
          go_simp
          refine (table_w _).mono ?_
          rintro e w5 ⟨rfl, hk5⟩
          replace hk5 : Kept (fun _ => False) wc w5 := (Kept.refl _ wc).drew.thru hk5
          go_wp2_with fail
          refine hK.out _ _ (hk5.mono (fun _ _ e => e.elim)) (fun hHeld => ?_)
          clear hK K
          try simp only [Act.put, List.setIfInBounds_toArray, List.set_cons_zero, List.set_cons_succ]
          refine h_step 3 (some 34) (Op.call { callee := Callee.value (Operand.func 37), args := #[Operand.tmp 31, Operand.tmp 32, Operand.tmp 33], argTypes := #[27, 61, 64] }) 0 rfl rfl (by kernel_rfl) (fun _ _ _ K hK => ?_)
          go_simp
          refine (vput_w q N p (vgetT g (9, 0)) 9 0 y w5 (hvw.still hk5)).mono ?_
          rintro e w6 ⟨rfl, hv6, hk6⟩
          replace hk6 : Kept (fun n => n = N) wc w6 := (hk5.mono (fun _ _ e => e.elim)).trans hk6 (fun _ _ e => e)
          go_wp2_with fail
          refine hK.out _ _ (hk6) (fun hHeld => ?_)
          clear hK K
          try simp only [Act.put, List.setIfInBounds_toArray, List.set_cons_zero, List.set_cons_succ]
          refine wpAnyH_done (by kernel_rfl) ?_ _
          have hK6 : Kept (fun n => n = N) w w6 := hKw.trans hk6 (fun _ _ e => e)
          clear hHeld KS KV hk5 hvw hKw hk6 hFy
          obtain ⟨G, hG⟩ : ∃ G : Nat, w6.heap.size = G := ⟨_, rfl⟩
          have lG : N < G := by have := hK6.size; omega
          have lq : q < G := by have := hK6.size; omega
          have lw : w.heap.size ≤ G := by have := hK6.size; omega
          obtain ⟨w7, h7⟩ : ∃ w7, w6.alloc (.cells (vc zeroV).toArray 64) = w7 := ⟨_, rfl⟩
          have b7 : w7.heap[G]? = some (.cells (vc zeroV).toArray 64 (0, 0)) := by subst h7; exact alloc_at' _ hG
          have k7 : Kept (fun _ => False) w6 w7 := by subst h7; exact (Kept.refl _ _).alloc _
          have c0 : w7.cell? ⟨G, 0, none⟩ = some (.int .i64 0) := cell_at b7 rfl
          have f0 := free_at b7 0
          have b8 : (w7.setCell ⟨G, 0, none⟩ (.int .i64 typ)).heap[G]? = some (.cells (vc (numV typ)).toArray 64 (0, 0)) := by rw [set_at b7]; rfl
          have k8 : Kept (fun _ => False) w6 (w7.setCell ⟨G, 0, none⟩ (.int .i64 typ)) := Kept.setCell k7 (fun e => by simp at e; omega) _
          rw [zero_cells] at h7
          go_wp2_with fail
          generalize w7.setCell ⟨G, 0, none⟩ (.int .i64 typ) = w8 at *
          clear c0 f0 b7 k7 h7 hG
          have hv8 := hv6.still k8
          have hK8 := hK6.trans k8 (fun _ _ e => e.elim)
          clear hv6 hK6 k8
          have KS : ∀ w', Kept (fun n => n = N) w8 w' → True := fun _ _ => trivial
          have KV : ∀ w', Kept (fun n => n = N) w8 w' → w'.rangeAt G 0 (vc (numV typ)) := fun w' hk' => range_kept (whole_range b8) hk' (by omega)
          refine wp_region_held_drew (S := fun w' => Kept (fun n => n = N) w8 w') (by kernel_rfl) ((Kept.refl _ _).drew) (fun hHeld => ?_)
          refine h_take 0 (some 38) (Op.move (Operand.tmp 0)) 27 ?v2 rfl rfl (by kernel_rfl) (by kernel_rfl) (by kernel_rfl) (fun _ _ _ h => h) ?hy2 hHeld ?_
          case hy2 => (intro _ _ _ w hSw; have hcs := KS _ hSw; go_simp; try with_reducible rfl)
          simp only [Act.put, List.setIfInBounds_toArray, List.set_cons_zero, List.set_cons_succ]
          refine h_take 1 (some 39) (Op.move (Operand.tmp 7)) 3 ?v3 rfl rfl (by kernel_rfl) (by kernel_rfl) (by kernel_rfl) (fun _ _ _ h => h) ?hy3 hHeld ?_
          case hy3 => (intro _ _ _ w hSw; have hcs := KS _ hSw; go_simp; try with_reducible rfl)
          simp only [Act.put, List.setIfInBounds_toArray, List.set_cons_zero, List.set_cons_succ]
          refine h_take 3 (some 41) (Op.load 64 (Operand.tmp 8)) 64 (vv (numV typ)) rfl rfl (by kernel_rfl) (by kernel_rfl) (by kernel_rfl) (fun _ _ _ h => h) (fun _ _ _ w hSw => exec_load rfl (load_wide wide_V (KV w hSw) rfl)) hHeld ?_
          simp only [Act.put, List.setIfInBounds_toArray, List.set_cons_zero, List.set_cons_succ]
          refine h_step 2 (some 40) (Op.call { callee := Callee.value (Operand.func 38), args := #[Operand.tmp 39], argTypes := #[3] }) 61 rfl rfl (by kernel_rfl) (fun _ _ _ K hK => ?_)
          go_simp
          refine (object_w i _).mono ?_
          rintro e w9 ⟨rfl, hk9⟩
          replace hk9 : Kept (fun _ => False) w8 w9 := (Kept.refl _ w8).drew.thru hk9
          go_wp2_with fail
          refine hK.out _ _ (hk9.mono (fun _ _ e => e.elim)) (fun hHeld => ?_)
          clear hK K
          try simp only [Act.put, List.setIfInBounds_toArray, List.set_cons_zero, List.set_cons_succ]
          refine h_step 4 (some 42) (Op.call { callee := Callee.value (Operand.func 37), args := #[Operand.tmp 38, Operand.tmp 40, Operand.tmp 41], argTypes := #[27, 61, 64] }) 0 rfl rfl (by kernel_rfl) (fun _ _ _ K hK => ?_)
          go_simp
          refine (vput_w q N p _ 10 i (numV typ) w9 (hv8.still hk9)).mono ?_
          rintro e wz ⟨rfl, hvz, hkz⟩
          replace hkz : Kept (fun n => n = N) w8 wz := (hk9.mono (fun _ _ e => e.elim)).trans hkz (fun _ _ e => e)
          go_wp2_with fail
          refine hK.out _ _ (hkz) (fun hHeld => ?_)
          clear hK K
          try simp only [Act.put, List.setIfInBounds_toArray, List.set_cons_zero, List.set_cons_succ]
          refine wpAnyH_done (by kernel_rfl) ?_ _
          have hKz : Kept (fun n => n = N) w wz := hK8.trans hkz (fun _ _ e => e)
          have HZ : Hid (ViewIn q N p (allocT f g typ) wz) := by show ViewIn _ _ _ _ _; rw [HY.out]; exact hvz
          have HR : Hid (allocV (allocA f g) = .tuple #[.int .i64 i, .bool true]) := by
            show _ = _
            rw [HE.out]; unfold allocV; rw [if_pos hlt]; simp [hlt]
          clear hHeld KS KV hk9 hv8 hK8 hkz hvz b8 HE
          go_wp2_with fail
          exact bodyPost_ret (v := .tuple #[.int .i64 i, .bool true]) (by simp [results, Try.results9, go_sem]) rfl ⟨by rw [HR.out], HZ.out, hKz⟩
    · obtain rfl : i = 16 := by omega
      have HE : Hid (allocA f g = 16) := by show _ = _; rw [HA.out.1]; exact freeN_none HB.out
      have HR : Hid (allocV (allocA f g) = .tuple #[.int .i64 0, .bool false]) := by show _ = _; rw [HE.out]; rfl
      have HZ : Hid (ViewIn q N p (allocT f g typ) wr) := by
        show ViewIn _ _ _ _ _
        rw [HA.out.2, HE.out]
        exact HV.out.1.still HK.out
      have hKz : Kept (fun n => n = N) w wr := HV.out.2.trans HK.out (fun _ _ e => e.elim)
      clear HA HE HV HK HB HF
      go_wp2_with fail
      exact bodyPost_ret (v := .tuple #[.int .i64 0, .bool false]) (by simp [results, Try.results9, go_sem]) rfl ⟨by rw [HR.out], HZ.out, hKz⟩
end Go.Proofs.Ytkpcillgoeidaaa
