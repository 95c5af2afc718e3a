
/- Stores and views side by side: New; texts of numbers; no conditions. -/
import Derived.Test.YtkpcillgoeidaaaKeep2
import Derived.Test.YtkpcillgoeidaaaWrite
namespace Go.Proofs.Ytkpcillgoeidaaa
open Go.RowKit
set_option maxRecDepth 100000
set_option linter.unusedSimpArgs false

def cutV (x : V) : V := withS x (x.s.extract 0 (min x.s.size 200))
def initF (Q : Nat → K2 × V) : Nat → StF
  | 0 => fun _ => none
  | n + 1 => putF (initF Q n) (Q n).1 (cutV (Q n).2)

theorem cutV_small (x : V) : (cutV x).s.size ≤ 200 := by
  show (x.s.extract 0 (min x.s.size 200)).size ≤ 200
  rw [← bl_len, bl_extract]
  simp
  omega
theorem look_put {f : StF} {k j : K2} {x : V} : lookF (putF f k x) j = if 0 ≤ plc k ∧ j = k then x else lookF f j := by
  unfold putF lookF
  by_cases h : 0 ≤ plc k
  · rw [if_pos h]
    unfold upd
    by_cases e : j = k
    · simp [e, h]
    · simp [e]
  · rw [if_neg h, if_neg (fun e => h e.1)]
theorem initF_small (Q : Nat → K2 × V) (n : Nat) (k : K2) : (lookF (initF Q n) k).s.size ≤ 200 := by
  induction n with
  | zero => show ByteArray.empty.size ≤ 200; decide
  | succ n ih =>
    unfold initF
    rw [look_put]
    split
    · exact cutV_small _
    · exact ih

structure MakeIn (w0 : World) (T p B rp rB : Nat) (f f2 : StF) (w : World) : Prop where
  cell : w.heap[T]? = some (.cells (tc p (.pointer none) rp (.pointer none)) 31 (0, 0))
  s : StoreIn p B f w
  rs : RStoreIn rp rB f2 w
  kept : Kept (fun _ => False) w0 w
  nT : w0.heap.size ≤ T
  nB : w0.heap.size ≤ B
  nrB : w0.heap.size ≤ rB
  a2 : B ≠ rB

section
variable {w0 : World} {T p B rp rB : Nat} {f f2 f' : StF} {w w' : World}
theorem MakeIn.still (h : MakeIn w0 T p B rp rB f f2 w) (hk : Kept (fun _ => False) w w') : MakeIn w0 T p B rp rB f f2 w' := { h with cell := hk.at h.cell (fun x => x), s := h.s.still hk, rs := h.rs.still hk, kept := h.kept.thru hk }
theorem MakeIn.putS (h : MakeIn w0 T p B rp rB f f2 w) (hs : StoreIn p B f' w') (hk : Kept (fun n => n = B) w w') : MakeIn w0 T p B rp rB f' f2 w' :=
  { h with cell := hk.at h.cell (h.s.map.off h.cell), s := hs, rs := h.rs.kept hk (h.s.map.off h.rs.cell) (fun e => h.a2 e.symm), kept := h.kept.trans hk (fun k h1 h2 => by have := h.nB; omega) }
theorem MakeIn.putR (h : MakeIn w0 T p B rp rB f f2 w) (hs : RStoreIn rp rB f' w') (hk : Kept (fun n => n = rB) w w') : MakeIn w0 T p B rp rB f f' w' :=
  { h with cell := hk.at h.cell (h.rs.map.off h.cell), rs := hs, s := h.s.kept hk (h.rs.map.off h.s.cell) h.a2, kept := h.kept.trans hk (fun k h1 h2 => by have := h.nrB; omega) }
end

set_option maxHeartbeats 2000000 in
theorem keepnew_w (ao : Option Addr) (len cap lb off : Nat) (Q : Nat → K2 × V) (hao : 0 < len → ao = some ⟨lb, off, none⟩) (w : World) (hc : ∀ i, i < len → w.rangeAt lb (off + i * 19) (wc (Q i))) :
    Calls Try.prog 8 #[.slice ao len cap] w fun e w' => ∃ T p B q N rp rB rq R W, e = .returned (.pointer (some ⟨T, 0, none⟩)) ∧
      KeepIn w T p B q N rp rB rq R W (initF Q (min len 60)) (initF Q (min len 60)) (fun _ => none) (fun _ => none) w' ∧ w.heap.size ≤ T := by
  have HC : Hid (∀ i, i < len → w.rangeAt lb (off + i * 19) (wc (Q i))) := hc
  clear hc
  go_enter Try.func8, Try.ntmps8
  go_wp2_with fail
  refine (new_w w).mono ?_
  rintro e w1 ⟨p, B, rfl, hS1, hk1, hp, hB⟩
  go_wp2_with fail
  refine (rnew_w w1).mono ?_
  rintro e w2 ⟨rp, rB, rfl, hR2, hk2, hrp, hrB⟩
  obtain ⟨T, hT⟩ : ∃ T : Nat, w2.heap.size = T := ⟨_, rfl⟩
  have H0 : Hid (MakeIn w T p B rp rB (initF Q 0) (initF Q 0) (w2.alloc (.cells (tc p (.pointer none) rp (.pointer none)) 31))) := by
    have l1 := hS1.map.lt
    have s1 := hk1.size
    have s2 := hk2.size
    have k3 : Kept (fun _ => False) w2 (w2.alloc (.cells (tc p (.pointer none) rp (.pointer none)) 31)) := (Kept.refl _ _).alloc _
    exact ⟨alloc_at' _ hT, (hS1.still hk2).still k3, hR2.still k3, (hk1.thru hk2).thru k3, by omega, by omega, by omega, by omega⟩
  clear hS1 hR2 hk1 hk2 hp hB hrp hrB
  have c0 := cell_at H0.out.cell (i := 0) (v := .pointer (some ⟨p, 0, none⟩)) rfl
  unfold tc at H0 c0
  go_wp2_with fail
  obtain ⟨w3, h3⟩ : ∃ w3, w2.alloc (.cells #[.pointer (some ⟨p, 0, none⟩), .pointer none, .pointer (some ⟨rp, 0, none⟩), .pointer none] 31) = w3 := ⟨_, rfl⟩
  rw [h3] at H0
  try rw [h3]
  clear c0 h3 hT
  go_loopw [4, 5] (fun v _ wr => ∃ i : Nat, v = .int .i64 i ∧ i ≤ len ∧ i ≤ 60 ∧ Hid (MakeIn w T p B rp rB (initF Q i) (initF Q i) wr)) (fun v _ _ => 60 - (intOf v).toNat)
  case atStart => exact ⟨0, rfl, Nat.zero_le _, Nat.zero_le _, H0.out⟩
  case round =>
    obtain ⟨i, rfl, hi1, hi2, HH⟩ := hrel
    clear H0
    by_cases hlt : i < len ∧ i < 60
    · obtain ⟨hl1, hl2⟩ := hlt
      have t1 : (i : Int) < (len : Int) := by omega
      have t2 : (i : Int) < 60 := by omega
      have h0 := hao (by omega)
      subst h0
      have r1 := HC.out i hl1
      obtain ⟨⟨⟨kx, ky⟩, x⟩, hq⟩ : ∃ t, Q i = t := ⟨_, rfl⟩
      rw [hq] at r1
      have r2 : wr.rangeAt lb (off + i * 19) (wc ((kx, ky), x)) := range_kept r1 HH.out.kept (fun x => x)
      obtain ⟨X, hX⟩ : ∃ X : Nat, wr.heap.size = X := ⟨_, rfl⟩
      have hX2 : (wr.alloc (.cells (wc ((kx, ky), x)).toArray 66)).heap[X]? = some (.cells (wc ((kx, ky), x)).toArray 66 (0, 0)) := alloc_at' _ hX
      have hM := HH.out.still ((Kept.refl _ wr).alloc (.cells (wc ((kx, ky), x)).toArray 66))
      have hXW : w.heap.size ≤ X := by have := HH.out.kept.size; omega
      clear r1 HH
      go_upto_region 8 with (first | (refine list_wload rfl wide_W _ rfl lb (off + i * 19) rfl (wc ((kx, ky), x)) r2 rfl ?_) | (refine list_wnew rfl wide_W _ _ rfl X rfl (wc ((kx, ky), x)) rfl _ rfl hX rfl (wc_one _) ?_))
      generalize wr.alloc (.cells (wc ((kx, ky), x)).toArray 66) = w4 at *
      have c18 : w4.cell? ⟨X, 18, none⟩ = some (.string x.s) := cell_at hX2 rfl
      have f18 := free_at hX2 18
      obtain ⟨t, ht⟩ : ∃ t, x.s.extract 0 (min x.s.size 200) = t := ⟨_, rfl⟩
      have hX5 : (w4.setCell ⟨X, 18, none⟩ (.string t)).heap[X]? = some (.cells (wc ((kx, ky), cutV x)).toArray 66 (0, 0)) := by rw [set_at hX2]; unfold cutV; rw [ht]; rfl
      have k5 : Kept (fun n => n = X) w4 (w4.setCell ⟨X, 18, none⟩ (.string t)) := by refine Kept.setCell (Kept.refl _ _) ?_ _; intro _; rfl
      have hXT : X ≠ T := by intro e; have := hM.cell; rw [← e, hX2] at this; simp [tc, wc, vc] at this
      have hXp : X ≠ p := by intro e; have := hM.s.cell; rw [← e, hX2] at this; simp [wc, vc] at this
      have hXrp : X ≠ rp := by intro e; have := hM.rs.cell; rw [← e, hX2] at this; simp [wc, vc] at this
      have hXB : X ≠ B := hM.s.map.off hX2
      have hXrB : X ≠ rB := hM.rs.map.off hX2
      have HM5 : Hid (MakeIn w T p B rp rB (initF Q i) (initF Q i) (w4.setCell ⟨X, 18, none⟩ (.string t))) := { hM with
        cell := k5.at hM.cell (fun e => hXT e.symm), s := hM.s.kept k5 (fun e => hXp e.symm) (fun e => hXB e.symm), rs := hM.rs.kept k5 (fun e => hXrp e.symm) (fun e => hXrB e.symm), kept := hM.kept.trans k5 (fun k h1 h2 => by omega) }
      clear hM hX2 k5
      simp only [Act.put]
      go_cut [4] from 29 to 39 (fun v wx => v = .int .i64 i ∧ wx = w4.setCell ⟨X, 18, none⟩ (.string t))
      case first =>
        by_cases hm : (200 : Int) < x.s.size
        · have e1 : x.s.extract 0 200 = t := by rw [← ht, Nat.min_eq_right (by omega)]
          clear ht
          go_wp2
          go_meet
          case rel => exact ⟨rfl, rfl⟩
        · have e1 : x.s.extract 0 x.s.size = t := by rw [← ht, Nat.min_eq_left (by omega)]
          clear ht
          go_wp2
          go_meet
          case rel => exact ⟨rfl, rfl⟩
      case rest =>
        obtain ⟨rfl, hw⟩ := hcut
        rw [← hw] at HM5 hX5
        clear hw c18 f18 ht r2
        obtain ⟨y, hy⟩ : ∃ y, cutV x = y := ⟨_, rfl⟩
        rw [hy] at hX5
        have HF : Hid (initF Q (i + 1) = putF (initF Q i) (kx, ky) y) := by show putF (initF Q i) (Q i).1 (cutV (Q i).2) = _; rw [hq]; simp only; rw [hy]
        have hM := HM5.out
        obtain ⟨d0, d1, d2⟩ := write_cells (whole_range hX5)
        rw [Nat.zero_add] at d1 d2
        simp only at d0 d1 d2
        have KS : ∀ w', Kept (fun n => n = B ∨ n = rB) wc w' → (w'.cell? ⟨X, 0, none⟩ = some (.int .i64 kx) ∧ w'.cell? ⟨X, 1, none⟩ = some (.int .i64 ky) ∧ w'.cell? ⟨T, 0, none⟩ = some (.pointer (some ⟨p, 0, none⟩)) ∧ w'.cell? ⟨T, 2, none⟩ = some (.pointer (some ⟨rp, 0, none⟩))) :=
          fun w' hk' => ⟨hk'.cell d0 (by simp; omega), hk'.cell d1 (by simp; omega), hk'.cell (cell_at hM.cell rfl) (by have := hM.s.map.off hM.cell; have := hM.rs.map.off hM.cell; simp; omega), hk'.cell (cell_at hM.cell rfl) (by have := hM.s.map.off hM.cell; have := hM.rs.map.off hM.cell; simp; omega)⟩
        have KV : ∀ w', Kept (fun n => n = B ∨ n = rB) wc w' → w'.rangeAt X 2 (vc y) := fun w' hk' => range_kept d2 hk' (by simp; omega)
        go_wp2_with fail
        refine wp_region_held_drew (S := fun w' => Kept (fun n => n = B ∨ n = rB) wc w') (by kernel_rfl) ((Kept.refl _ _).drew) (fun hHeld => ?_)
        refine h_take 0 (some 40) (Op.move (Operand.tmp 3)) 22 ?v1 rfl rfl (by kernel_rfl) (by kernel_rfl) (by kernel_rfl) (fun _ _ _ h => h) ?hy1 hHeld ?_
        case hy1 => (intro _ _ _ w hSw; have hcs := KS _ hSw; go_simp; try with_reducible rfl)
        simp only [Act.put, List.setIfInBounds_toArray, List.set_cons_zero, List.set_cons_succ]
        refine h_take 1 (some 41) (Op.nilCheck (Operand.tmp 40)) 0 ?v2 rfl rfl (by kernel_rfl) (by kernel_rfl) (by kernel_rfl) (fun _ _ _ h => h) ?hy2 hHeld ?_
        case hy2 => (intro _ _ _ w hSw; have hcs := KS _ hSw; go_simp; try with_reducible rfl)
        simp only [Act.put, List.setIfInBounds_toArray, List.set_cons_zero, List.set_cons_succ]
        refine h_take 2 (some 42) (Op.fieldAddr 31 (Operand.tmp 41) 0) 0 ?v3 rfl rfl (by kernel_rfl) (by kernel_rfl) (by kernel_rfl) (fun _ _ _ h => h) ?hy3 hHeld ?_
        case hy3 => (intro _ _ _ w hSw; have hcs := KS _ hSw; go_simp; try with_reducible rfl)
        simp only [Act.put, List.setIfInBounds_toArray, List.set_cons_zero, List.set_cons_succ]
        refine h_take 3 (some 43) (Op.load 26 (Operand.tmp 42)) 26 ?v4 rfl rfl (by kernel_rfl) (by kernel_rfl) (by kernel_rfl) (fun _ _ _ h => h) ?hy4 hHeld ?_
        case hy4 => (intro _ _ _ w hSw; have hcs := KS _ hSw; go_simp; try with_reducible rfl)
        simp only [Act.put, List.setIfInBounds_toArray, List.set_cons_zero, List.set_cons_succ]
        refine h_take 4 (some 44) (Op.fieldAddr 66 (Operand.tmp 5) 0) 0 ?v5 rfl rfl (by kernel_rfl) (by kernel_rfl) (by kernel_rfl) (fun _ _ _ h => h) ?hy5 hHeld ?_
        case hy5 => (intro _ _ _ w hSw; have hcs := KS _ hSw; go_simp; try with_reducible rfl)
        simp only [Act.put, List.setIfInBounds_toArray, List.set_cons_zero, List.set_cons_succ]
        refine h_take 5 (some 45) (Op.load 61 (Operand.tmp 44)) 61 ?v6 rfl rfl (by kernel_rfl) (by kernel_rfl) (by kernel_rfl) (fun _ _ _ h => h) ?hy6 hHeld ?_
        case hy6 => (intro _ _ _ w hSw; have hcs := KS _ hSw; go_simp; try with_reducible rfl)
        simp only [Act.put, List.setIfInBounds_toArray, List.set_cons_zero, List.set_cons_succ]
        refine h_take 6 (some 46) (Op.fieldAddr 66 (Operand.tmp 5) 1) 0 ?v7 rfl rfl (by kernel_rfl) (by kernel_rfl) (by kernel_rfl) (fun _ _ _ h => h) ?hy7 hHeld ?_
        case hy7 => (intro _ _ _ w hSw; have hcs := KS _ hSw; go_simp; try with_reducible rfl)
        simp only [Act.put, List.setIfInBounds_toArray, List.set_cons_zero, List.set_cons_succ]
        refine h_take 7 (some 47) (Op.load 64 (Operand.tmp 46)) 64 (vv y) rfl rfl (by kernel_rfl) (by kernel_rfl) (by kernel_rfl) (fun _ _ _ h => h) (fun _ _ _ w hSw => exec_load rfl (load_wide wide_V (KV w hSw) rfl)) hHeld ?_
        simp only [Act.put, List.setIfInBounds_toArray, List.set_cons_zero, List.set_cons_succ]
        refine h_step 8 (some 48) (Op.call { callee := Callee.value (Operand.func 31), args := #[Operand.tmp 43, Operand.tmp 45, Operand.tmp 47], argTypes := #[26, 61, 64] }) 4 rfl rfl (by kernel_rfl) (fun _ _ _ K hK => ?_)
        go_simp
        refine (put_w p B _ kx ky y wc.drew (hM.s.still (Kept.refl _ _).drew)).mono ?_
        rintro e w5 ⟨rfl, hs5, hk5⟩
        replace hk5 : Kept (fun n => n = B) wc w5 := (Kept.refl _ wc).drew.trans hk5 (fun _ _ e => e)
        have hM5 := hM.putS hs5 hk5
        go_wp2_with fail
        refine hK.out _ _ (hk5.mono (fun _ _ e => .inl e)) (fun hHeld => ?_)
        clear hK K
        try simp only [Act.put, List.setIfInBounds_toArray, List.set_cons_zero, List.set_cons_succ]
        refine wpAnyH_done (by kernel_rfl) ?_ _
        have hX6 := hk5.at hX5 hXB
        clear hHeld KS KV hk5 hs5 hX5 hM HM5 d0 d1 d2
        obtain ⟨d0, d1, d2⟩ := write_cells (whole_range hX6)
        rw [Nat.zero_add] at d1 d2
        simp only at d0 d1 d2
        have KS : ∀ w', Kept (fun n => n = B ∨ n = rB) w5 w' → (w'.cell? ⟨X, 0, none⟩ = some (.int .i64 kx) ∧ w'.cell? ⟨X, 1, none⟩ = some (.int .i64 ky) ∧ w'.cell? ⟨T, 0, none⟩ = some (.pointer (some ⟨p, 0, none⟩)) ∧ w'.cell? ⟨T, 2, none⟩ = some (.pointer (some ⟨rp, 0, none⟩))) :=
          fun w' hk' => ⟨hk'.cell d0 (by simp; omega), hk'.cell d1 (by simp; omega), hk'.cell (cell_at hM5.cell rfl) (by have := hM5.s.map.off hM5.cell; have := hM5.rs.map.off hM5.cell; simp; omega), hk'.cell (cell_at hM5.cell rfl) (by have := hM5.s.map.off hM5.cell; have := hM5.rs.map.off hM5.cell; simp; omega)⟩
        have KV : ∀ w', Kept (fun n => n = B ∨ n = rB) w5 w' → w'.rangeAt X 2 (vc y) := fun w' hk' => range_kept d2 hk' (by simp; omega)
        go_wp2_with fail
        refine wp_region_held_drew (S := fun w' => Kept (fun n => n = B ∨ n = rB) w5 w') (by kernel_rfl) ((Kept.refl _ _).drew) (fun hHeld => ?_)
        refine h_take 0 (some 49) (Op.move (Operand.tmp 3)) 22 ?v8 rfl rfl (by kernel_rfl) (by kernel_rfl) (by kernel_rfl) (fun _ _ _ h => h) ?hy8 hHeld ?_
        case hy8 => (intro _ _ _ w hSw; have hcs := KS _ hSw; go_simp; try with_reducible rfl)
        simp only [Act.put, List.setIfInBounds_toArray, List.set_cons_zero, List.set_cons_succ]
        refine h_take 1 (some 50) (Op.nilCheck (Operand.tmp 49)) 0 ?v9 rfl rfl (by kernel_rfl) (by kernel_rfl) (by kernel_rfl) (fun _ _ _ h => h) ?hy9 hHeld ?_
        case hy9 => (intro _ _ _ w hSw; have hcs := KS _ hSw; go_simp; try with_reducible rfl)
        simp only [Act.put, List.setIfInBounds_toArray, List.set_cons_zero, List.set_cons_succ]
        refine h_take 2 (some 51) (Op.fieldAddr 31 (Operand.tmp 50) 2) 0 ?v10 rfl rfl (by kernel_rfl) (by kernel_rfl) (by kernel_rfl) (fun _ _ _ h => h) ?hy10 hHeld ?_
        case hy10 => (intro _ _ _ w hSw; have hcs := KS _ hSw; go_simp; try with_reducible rfl)
        simp only [Act.put, List.setIfInBounds_toArray, List.set_cons_zero, List.set_cons_succ]
        refine h_take 3 (some 52) (Op.load 28 (Operand.tmp 51)) 28 ?v11 rfl rfl (by kernel_rfl) (by kernel_rfl) (by kernel_rfl) (fun _ _ _ h => h) ?hy11 hHeld ?_
        case hy11 => (intro _ _ _ w hSw; have hcs := KS _ hSw; go_simp; try with_reducible rfl)
        simp only [Act.put, List.setIfInBounds_toArray, List.set_cons_zero, List.set_cons_succ]
        refine h_take 4 (some 53) (Op.fieldAddr 66 (Operand.tmp 5) 0) 0 ?v12 rfl rfl (by kernel_rfl) (by kernel_rfl) (by kernel_rfl) (fun _ _ _ h => h) ?hy12 hHeld ?_
        case hy12 => (intro _ _ _ w hSw; have hcs := KS _ hSw; go_simp; try with_reducible rfl)
        simp only [Act.put, List.setIfInBounds_toArray, List.set_cons_zero, List.set_cons_succ]
        refine h_take 5 (some 54) (Op.load 61 (Operand.tmp 53)) 61 ?v13 rfl rfl (by kernel_rfl) (by kernel_rfl) (by kernel_rfl) (fun _ _ _ h => h) ?hy13 hHeld ?_
        case hy13 => (intro _ _ _ w hSw; have hcs := KS _ hSw; go_simp; try with_reducible rfl)
        simp only [Act.put, List.setIfInBounds_toArray, List.set_cons_zero, List.set_cons_succ]
        refine h_take 6 (some 55) (Op.fieldAddr 66 (Operand.tmp 5) 1) 0 ?v14 rfl rfl (by kernel_rfl) (by kernel_rfl) (by kernel_rfl) (fun _ _ _ h => h) ?hy14 hHeld ?_
        case hy14 => (intro _ _ _ w hSw; have hcs := KS _ hSw; go_simp; try with_reducible rfl)
        simp only [Act.put, List.setIfInBounds_toArray, List.set_cons_zero, List.set_cons_succ]
        refine h_take 7 (some 56) (Op.load 64 (Operand.tmp 55)) 64 (vv y) rfl rfl (by kernel_rfl) (by kernel_rfl) (by kernel_rfl) (fun _ _ _ h => h) (fun _ _ _ w hSw => exec_load rfl (load_wide wide_V (KV w hSw) rfl)) hHeld ?_
        simp only [Act.put, List.setIfInBounds_toArray, List.set_cons_zero, List.set_cons_succ]
        refine h_step 8 (some 57) (Op.call { callee := Callee.value (Operand.func 32), args := #[Operand.tmp 52, Operand.tmp 54, Operand.tmp 56], argTypes := #[28, 61, 64] }) 4 rfl rfl (by kernel_rfl) (fun _ _ _ K hK => ?_)
        go_simp
        refine (rput_w rp rB _ kx ky y w5.drew (hM5.rs.still (Kept.refl _ _).drew)).mono ?_
        rintro e w6 ⟨rfl, hs6, hk6⟩
        replace hk6 : Kept (fun n => n = rB) w5 w6 := (Kept.refl _ w5).drew.trans hk6 (fun _ _ e => e)
        have hM6 := hM5.putR hs6 hk6
        go_wp2_with fail
        refine hK.out _ _ (hk6.mono (fun _ _ e => .inr e)) (fun hHeld => ?_)
        clear hK K
        try simp only [Act.put, List.setIfInBounds_toArray, List.set_cons_zero, List.set_cons_succ]
        refine wpAnyH_done (by kernel_rfl) ?_ _
        have HZ : Hid (MakeIn w T p B rp rB (initF Q (i + 1)) (initF Q (i + 1)) w6) := by show MakeIn _ _ _ _ _ _ _ _ _; rw [HF.out]; exact hM6
        clear hHeld KS KV hk6 hs6 hX6 hM5 hM6 d0 d1 d2 HF hy hq hao hXT hXp hXrp hXB hXrB
        go_wp2
        go_roundw
        case rel => exact ⟨i + 1, by go_num, by omega, by omega, HZ.out⟩
        case measure => simp [intOf]; omega
    · have HI : Hid (i = min len 60) := by show _ = _; omega
      have HM : Hid (MakeIn w T p B rp rB (initF Q (min len 60)) (initF Q (min len 60)) wr) := by
        have := HH.out
        rw [HI.out] at this
        exact this
      clear HH hao
      have t3 : ¬ ((i : Int) < (len : Int) ∧ (i : Int) < 60) := by omega
      clear hlt
      by_cases t4 : (i : Int) < (len : Int)
      · have t5 : ¬ (i : Int) < 60 := by omega
        clear t3
        go_wp2_with fail
        refine (two_look T p rp _ _ wr HM.out.cell).mono ?_
        rintro e w9 ⟨rfl, q', N', rq', R', W', hT9, hv9, hx9, hk9, lq, lN, lrq, lR, lW, a6, a7⟩
        have hm := HM.out
        have s1 := hm.s.map.lt
        have s2 := hm.rs.map.lt
        have s3 := hm.kept.size
        have e1 := hm.nB
        have e2 := hm.nrB
        have e3 := hm.nT
        have e4 := hm.a2
        have oB : ¬ B = T := fun e => hm.s.map.off hm.cell e.symm
        have orB : ¬ rB = T := fun e => hm.rs.map.off hm.cell e.symm
        have hpT : ¬ p = T := fun e => by have := hm.cell; rw [← e, hm.s.cell] at this; simp [tc] at this
        have hrpT : ¬ rp = T := fun e => by have := hm.cell; rw [← e, hm.rs.cell] at this; simp [tc] at this
        have HZ : Hid (KeepIn w T p B q' N' rp rB rq' R' W' (initF Q (min len 60)) (initF Q (min len 60)) (fun _ => none) (fun _ => none) w9 ∧ w.heap.size ≤ T) := by
          refine ⟨⟨hT9, ?_⟩, e3⟩
          exact { s := hm.s.kept hk9 hpT oB, v := hv9, rs := hm.rs.kept hk9 hrpT orB, rv := hx9, kept := hm.kept.trans hk9 (fun k h1 h2 => by omega),
                  nB := by omega, nN := by omega, nrB := by omega, nR := by omega, nW := by omega,
                  a1 := by omega, a2 := by omega, a3 := by omega, a4 := by omega, a5 := by omega, a6 := a6, a7 := a7, a8 := by omega, a9 := by omega }
        have c1 : w9.cell? ⟨T, 1, none⟩ = some (.pointer (some ⟨q', 0, none⟩)) := cell_at hT9 rfl
        clear hm HM hv9 hx9 hk9 hT9 HI
        go_wp2_with fail
        go_ret
        exact ⟨_, _, _, _, _, _, _, _, _, _, rfl, HZ.out⟩
      · clear t3
        go_wp2_with fail
        refine (two_look T p rp _ _ wr HM.out.cell).mono ?_
        rintro e w9 ⟨rfl, q', N', rq', R', W', hT9, hv9, hx9, hk9, lq, lN, lrq, lR, lW, a6, a7⟩
        have hm := HM.out
        have s1 := hm.s.map.lt
        have s2 := hm.rs.map.lt
        have s3 := hm.kept.size
        have e1 := hm.nB
        have e2 := hm.nrB
        have e3 := hm.nT
        have e4 := hm.a2
        have oB : ¬ B = T := fun e => hm.s.map.off hm.cell e.symm
        have orB : ¬ rB = T := fun e => hm.rs.map.off hm.cell e.symm
        have hpT : ¬ p = T := fun e => by have := hm.cell; rw [← e, hm.s.cell] at this; simp [tc] at this
        have hrpT : ¬ rp = T := fun e => by have := hm.cell; rw [← e, hm.rs.cell] at this; simp [tc] at this
        have HZ : Hid (KeepIn w T p B q' N' rp rB rq' R' W' (initF Q (min len 60)) (initF Q (min len 60)) (fun _ => none) (fun _ => none) w9 ∧ w.heap.size ≤ T) := by
          refine ⟨⟨hT9, ?_⟩, e3⟩
          exact { s := hm.s.kept hk9 hpT oB, v := hv9, rs := hm.rs.kept hk9 hrpT orB, rv := hx9, kept := hm.kept.trans hk9 (fun k h1 h2 => by omega),
                  nB := by omega, nN := by omega, nrB := by omega, nR := by omega, nW := by omega,
                  a1 := by omega, a2 := by omega, a3 := by omega, a4 := by omega, a5 := by omega, a6 := a6, a7 := a7, a8 := by omega, a9 := by omega }
        have c1 : w9.cell? ⟨T, 1, none⟩ = some (.pointer (some ⟨q', 0, none⟩)) := cell_at hT9 rfl
        clear hm HM hv9 hx9 hk9 hT9 HI
        go_wp2_with fail
        go_ret
        exact ⟨_, _, _, _, _, _, _, _, _, _, rfl, HZ.out⟩
end Go.Proofs.Ytkpcillgoeidaaa
