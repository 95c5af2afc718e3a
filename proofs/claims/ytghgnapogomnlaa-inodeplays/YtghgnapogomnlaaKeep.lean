/- Stores and views side by side: what their book does when it is called; no conditions but that each object's bytes are few. -/
import Derived.Test.YtghgnapogomnlaaRIno
import Derived.Test.YtghgnapogomnlaaRRedo
import Derived.Deep.CutBlock
namespace Go.Proofs.Ytghgnapogomnlaa
open Go.RowKit
set_option maxRecDepth 100000
set_option linter.unusedSimpArgs false

/-- The stores and views that a book at T keeps. -/
structure KeepIn (w0 : World) (T p B q N rp rB rq R W : Nat) (f f2 : StF) (g g2 : VwF) (w : World) : Prop where
  cell : w.heap[T]? = some (.cells #[.pointer (some ⟨p, 0, none⟩), .pointer (some ⟨q, 0, none⟩), .pointer (some ⟨rp, 0, none⟩), .pointer (some ⟨rq, 0, none⟩)] 42 (0, 0))
  game : GameIn w0 p B q N rp rB rq R W f f2 g g2 w

section
variable {w0 : World} {T p B q N rp rB rq R W : Nat} {f f2 f' : StF} {g g2 g' : VwF} {w w' : World}

theorem KeepIn.still (h : KeepIn w0 T p B q N rp rB rq R W f f2 g g2 w) (hk : Kept (fun _ => False) w w') : KeepIn w0 T p B q N rp rB rq R W f f2 g g2 w' := ⟨hk.at h.cell (fun x => x), h.game.still hk⟩
theorem KeepIn.putS (h : KeepIn w0 T p B q N rp rB rq R W f f2 g g2 w) (hs : StoreIn p B f' w') (hk : Kept (fun n => n = B) w w') : KeepIn w0 T p B q N rp rB rq R W f' f2 g g2 w' := ⟨hk.at h.cell (h.game.s.map.off h.cell), h.game.putS hs hk⟩
theorem KeepIn.putR (h : KeepIn w0 T p B q N rp rB rq R W f f2 g g2 w) (hs : RStoreIn rp rB f' w') (hk : Kept (fun n => n = rB) w w') : KeepIn w0 T p B q N rp rB rq R W f f' g g2 w' := ⟨hk.at h.cell (h.game.rs.map.off h.cell), h.game.putR hs hk⟩
theorem KeepIn.putV (h : KeepIn w0 T p B q N rp rB rq R W f f2 g g2 w) (hv : ViewIn q N p g' w') (hk : Kept (fun n => n = N) w w') : KeepIn w0 T p B q N rp rB rq R W f f2 g' g2 w' := ⟨hk.at h.cell (h.game.v.map.off h.cell), h.game.putV hv hk⟩
theorem KeepIn.nB (h : KeepIn w0 T p B q N rp rB rq R W f f2 g g2 w) : N ≠ B := fun e => h.game.a1 e.symm
theorem KeepIn.both (h : KeepIn w0 T p B q N rp rB rq R W f f2 g g2 w) : RBoth rq R W rp rB f2 g2 w := ⟨h.game.rv, h.game.rs, fun e => h.game.a8 e.symm, fun e => h.game.a9 e.symm⟩
theorem KeepIn.putX (h : KeepIn w0 T p B q N rp rB rq R W f f2 g g2 w) (hb : RBoth rq R W rp rB f2 g' w') (hk : Kept (RW R W) w w') : KeepIn w0 T p B q N rp rB rq R W f f2 g g' w' := by
  have e1 : ∀ {n : Nat} {c : Array Value} {t : TypeId}, w.heap[n]? = some (.cells c t (0, 0)) → ¬ RW R W n := fun hn e => by
    rcases e with e | e
    · exact h.game.rv.r.off hn e
    · exact h.game.rv.w.off hn e
  exact ⟨hk.at h.cell (e1 h.cell), { h.game with
    s := h.game.s.kept hk (e1 h.game.s.cell) (by have := h.game.a3; have := h.game.a4; unfold RW; omega)
    v := h.game.v.kept hk (e1 h.game.v.cell) (by have := h.game.a6; have := h.game.a7; unfold RW; omega)
    rs := hb.s
    rv := hb.v
    kept := h.game.kept.trans hk (fun k h1 h2 => by have := h.game.nR; have := h.game.nW; unfold RW at h2; omega) }⟩
theorem KeepIn.cells (h : KeepIn w0 T p B q N rp rB rq R W f f2 g g2 w) : w.cell? ⟨T, 0, none⟩ = some (.pointer (some ⟨p, 0, none⟩)) ∧ w.cell? ⟨T, 1, none⟩ = some (.pointer (some ⟨q, 0, none⟩)) ∧ w.cell? ⟨T, 2, none⟩ = some (.pointer (some ⟨rp, 0, none⟩)) ∧ w.cell? ⟨T, 3, none⟩ = some (.pointer (some ⟨rq, 0, none⟩)) :=
  ⟨cell_at h.cell rfl, cell_at h.cell rfl, cell_at h.cell rfl, cell_at h.cell rfl⟩
end

set_option maxHeartbeats 1000000 in
theorem two_same {w0 : World} {T p B q N rp rB rq R W : Nat} {f : StF} {g : VwF} {w : World} (h : KeepIn w0 T p B q N rp rB rq R W f f g g w) : Calls Try.prog 28 #[.pointer (some ⟨T, 0, none⟩)] w
    fun e w' => e = .returned (.bool true) ∧ Kept (fun _ => False) w w' := by
  have KS : ∀ w', Kept (fun _ => False) w w' → (w'.cell? ⟨T, 1, none⟩ = some (.pointer (some ⟨q, 0, none⟩)) ∧ w'.cell? ⟨T, 3, none⟩ = some (.pointer (some ⟨rq, 0, none⟩))) := fun w' hk => ⟨(h.still hk).cells.2.1, (h.still hk).cells.2.2.2⟩
  go_enter Try.func28, Try.ntmps28
  go_wp2_with fail
  refine wp_region_held_drew (S := fun w' => Kept (fun _ => False) w w') (by kernel_rfl) ((Kept.refl _ _).drew) (fun hHeld => ?_)
  refine h_take 0 (some 3) (Op.move (Operand.tmp 0)) 35 ?v1 rfl rfl (by kernel_rfl) (by kernel_rfl) (by kernel_rfl) (fun _ _ _ h => h) ?hy1 hHeld ?_
  case hy1 => (intro _ _ _ w hSw; have hcs := KS _ hSw; go_simp; try with_reducible rfl)
  simp only [Act.put, List.setIfInBounds_toArray, List.set_cons_zero, List.set_cons_succ]
  refine h_take 1 (some 4) (Op.nilCheck (Operand.tmp 3)) 0 ?v2 rfl rfl (by kernel_rfl) (by kernel_rfl) (by kernel_rfl) (fun _ _ _ h => h) ?hy2 hHeld ?_
  case hy2 => (intro _ _ _ w hSw; have hcs := KS _ hSw; go_simp; try with_reducible rfl)
  simp only [Act.put, List.setIfInBounds_toArray, List.set_cons_zero, List.set_cons_succ]
  refine h_take 2 (some 5) (Op.fieldAddr 42 (Operand.tmp 4) 1) 0 ?v3 rfl rfl (by kernel_rfl) (by kernel_rfl) (by kernel_rfl) (fun _ _ _ h => h) ?hy3 hHeld ?_
  case hy3 => (intro _ _ _ w hSw; have hcs := KS _ hSw; go_simp; try with_reducible rfl)
  simp only [Act.put, List.setIfInBounds_toArray, List.set_cons_zero, List.set_cons_succ]
  refine h_take 3 (some 6) (Op.load 24 (Operand.tmp 5)) 24 ?v4 rfl rfl (by kernel_rfl) (by kernel_rfl) (by kernel_rfl) (fun _ _ _ h => h) ?hy4 hHeld ?_
  case hy4 => (intro _ _ _ w hSw; have hcs := KS _ hSw; go_simp; try with_reducible rfl)
  simp only [Act.put, List.setIfInBounds_toArray, List.set_cons_zero, List.set_cons_succ]
  refine h_take 5 (some 8) (Op.move (Operand.tmp 0)) 35 ?v5 rfl rfl (by kernel_rfl) (by kernel_rfl) (by kernel_rfl) (fun _ _ _ h => h) ?hy5 hHeld ?_
  case hy5 => (intro _ _ _ w hSw; have hcs := KS _ hSw; go_simp; try with_reducible rfl)
  simp only [Act.put, List.setIfInBounds_toArray, List.set_cons_zero, List.set_cons_succ]
  refine h_take 6 (some 9) (Op.nilCheck (Operand.tmp 8)) 0 ?v6 rfl rfl (by kernel_rfl) (by kernel_rfl) (by kernel_rfl) (fun _ _ _ h => h) ?hy6 hHeld ?_
  case hy6 => (intro _ _ _ w hSw; have hcs := KS _ hSw; go_simp; try with_reducible rfl)
  simp only [Act.put, List.setIfInBounds_toArray, List.set_cons_zero, List.set_cons_succ]
  refine h_take 7 (some 10) (Op.fieldAddr 42 (Operand.tmp 9) 3) 0 ?v7 rfl rfl (by kernel_rfl) (by kernel_rfl) (by kernel_rfl) (fun _ _ _ h => h) ?hy7 hHeld ?_
  case hy7 => (intro _ _ _ w hSw; have hcs := KS _ hSw; go_simp; try with_reducible rfl)
  simp only [Act.put, List.setIfInBounds_toArray, List.set_cons_zero, List.set_cons_succ]
  refine h_take 8 (some 11) (Op.load 40 (Operand.tmp 10)) 40 ?v8 rfl rfl (by kernel_rfl) (by kernel_rfl) (by kernel_rfl) (fun _ _ _ h => h) ?hy8 hHeld ?_
  case hy8 => (intro _ _ _ w hSw; have hcs := KS _ hSw; go_simp; try with_reducible rfl)
  simp only [Act.put, List.setIfInBounds_toArray, List.set_cons_zero, List.set_cons_succ]
  refine h_step 4 (some 7) (Op.call { callee := Callee.value (Operand.func 47), args := #[Operand.tmp 6], argTypes := #[24] }) 90 rfl rfl (by kernel_rfl) (fun _ _ _ K hK => ?_)
  go_simp
  refine (reads_w q N p g _ ((h.still (Kept.refl _ _).drew).game.v)).mono ?_
  rintro e y3 ⟨v3, rfl, o3⟩
  have j3 : Kept (fun _ => False) w y3 := ((Kept.refl _ w).drew).thru o3.kept
  go_wp2_with fail
  refine hK.out _ _ (j3) (fun hHeld => ?_)
  clear hK K
  try simp only [Act.put, List.setIfInBounds_toArray, List.set_cons_zero, List.set_cons_succ]
  refine h_step 9 (some 12) (Op.call { callee := Callee.value (Operand.func 48), args := #[Operand.tmp 11], argTypes := #[40] }) 90 rfl rfl (by kernel_rfl) (fun _ _ _ K hK => ?_)
  go_simp
  refine (rreads_w rq R W rp g _ ((h.still j3).game.rv)).mono ?_
  rintro e y4 ⟨v4, rfl, o4⟩
  have j4 : Kept (fun _ => False) w y4 := j3.thru o4.kept
  go_wp2_with fail
  refine hK.out _ _ (j4) (fun hHeld => ?_)
  clear hK K
  try simp only [Act.put, List.setIfInBounds_toArray, List.set_cons_zero, List.set_cons_succ]
  refine h_step 10 (some 13) (Op.call { callee := Callee.value (Operand.func 46), args := #[Operand.tmp 7, Operand.tmp 12], argTypes := #[90, 90] }) 4 rfl rfl (by kernel_rfl) (fun _ _ _ K hK => ?_)
  go_simp
  refine (same_w _ _ (readsF g) (by have := reads_le g; omega) y4 (o3.src.kept o4.kept) o4.src).mono ?_
  rintro e y5 ⟨rfl, hk5⟩
  have j5 : Kept (fun _ => False) w y5 := j4.thru hk5
  go_wp2_with fail
  refine hK.out _ _ (j5) (fun hHeld => ?_)
  clear hK K
  try simp only [Act.put, List.setIfInBounds_toArray, List.set_cons_zero, List.set_cons_succ]
  clear o3 o4 j3 j4 hk5
  refine h_take 11 (some 14) (Op.move (Operand.tmp 13)) 4 ?v9 rfl rfl (by kernel_rfl) (by kernel_rfl) (by kernel_rfl) (fun _ _ _ h => h) ?hy9 hHeld ?_
  case hy9 => (intro _ _ _ w hSw; have hcs := KS _ hSw; go_simp; try with_reducible rfl)
  simp only [Act.put, List.setIfInBounds_toArray, List.set_cons_zero, List.set_cons_succ]
  refine h_take 12 (some 15) (Op.move (Operand.tmp 0)) 35 ?v10 rfl rfl (by kernel_rfl) (by kernel_rfl) (by kernel_rfl) (fun _ _ _ h => h) ?hy10 hHeld ?_
  case hy10 => (intro _ _ _ w hSw; have hcs := KS _ hSw; go_simp; try with_reducible rfl)
  simp only [Act.put, List.setIfInBounds_toArray, List.set_cons_zero, List.set_cons_succ]
  refine h_take 13 (some 16) (Op.nilCheck (Operand.tmp 15)) 0 ?v11 rfl rfl (by kernel_rfl) (by kernel_rfl) (by kernel_rfl) (fun _ _ _ h => h) ?hy11 hHeld ?_
  case hy11 => (intro _ _ _ w hSw; have hcs := KS _ hSw; go_simp; try with_reducible rfl)
  simp only [Act.put, List.setIfInBounds_toArray, List.set_cons_zero, List.set_cons_succ]
  refine h_take 14 (some 17) (Op.fieldAddr 42 (Operand.tmp 16) 1) 0 ?v12 rfl rfl (by kernel_rfl) (by kernel_rfl) (by kernel_rfl) (fun _ _ _ h => h) ?hy12 hHeld ?_
  case hy12 => (intro _ _ _ w hSw; have hcs := KS _ hSw; go_simp; try with_reducible rfl)
  simp only [Act.put, List.setIfInBounds_toArray, List.set_cons_zero, List.set_cons_succ]
  refine h_take 15 (some 18) (Op.load 24 (Operand.tmp 17)) 24 ?v13 rfl rfl (by kernel_rfl) (by kernel_rfl) (by kernel_rfl) (fun _ _ _ h => h) ?hy13 hHeld ?_
  case hy13 => (intro _ _ _ w hSw; have hcs := KS _ hSw; go_simp; try with_reducible rfl)
  simp only [Act.put, List.setIfInBounds_toArray, List.set_cons_zero, List.set_cons_succ]
  refine h_take 17 (some 20) (Op.move (Operand.tmp 0)) 35 ?v14 rfl rfl (by kernel_rfl) (by kernel_rfl) (by kernel_rfl) (fun _ _ _ h => h) ?hy14 hHeld ?_
  case hy14 => (intro _ _ _ w hSw; have hcs := KS _ hSw; go_simp; try with_reducible rfl)
  simp only [Act.put, List.setIfInBounds_toArray, List.set_cons_zero, List.set_cons_succ]
  refine h_take 18 (some 21) (Op.nilCheck (Operand.tmp 20)) 0 ?v15 rfl rfl (by kernel_rfl) (by kernel_rfl) (by kernel_rfl) (fun _ _ _ h => h) ?hy15 hHeld ?_
  case hy15 => (intro _ _ _ w hSw; have hcs := KS _ hSw; go_simp; try with_reducible rfl)
  simp only [Act.put, List.setIfInBounds_toArray, List.set_cons_zero, List.set_cons_succ]
  refine h_take 19 (some 22) (Op.fieldAddr 42 (Operand.tmp 21) 3) 0 ?v16 rfl rfl (by kernel_rfl) (by kernel_rfl) (by kernel_rfl) (fun _ _ _ h => h) ?hy16 hHeld ?_
  case hy16 => (intro _ _ _ w hSw; have hcs := KS _ hSw; go_simp; try with_reducible rfl)
  simp only [Act.put, List.setIfInBounds_toArray, List.set_cons_zero, List.set_cons_succ]
  refine h_take 20 (some 23) (Op.load 40 (Operand.tmp 22)) 40 ?v17 rfl rfl (by kernel_rfl) (by kernel_rfl) (by kernel_rfl) (fun _ _ _ h => h) ?hy17 hHeld ?_
  case hy17 => (intro _ _ _ w hSw; have hcs := KS _ hSw; go_simp; try with_reducible rfl)
  simp only [Act.put, List.setIfInBounds_toArray, List.set_cons_zero, List.set_cons_succ]
  refine h_step 16 (some 19) (Op.call { callee := Callee.value (Operand.func 43), args := #[Operand.tmp 18], argTypes := #[24] }) 33 rfl rfl (by kernel_rfl) (fun _ _ _ K hK => ?_)
  go_simp
  refine (redo_w q N p g y5 ((h.still j5).game.v)).mono ?_
  rintro e y9 ⟨v9, rfl, o9⟩
  have j9 : Kept (fun _ => False) w y9 := j5.thru o9.kept
  go_wp2_with fail
  refine hK.out _ _ (j9) (fun hHeld => ?_)
  clear hK K
  try simp only [Act.put, List.setIfInBounds_toArray, List.set_cons_zero, List.set_cons_succ]
  refine h_step 21 (some 24) (Op.call { callee := Callee.value (Operand.func 44), args := #[Operand.tmp 23], argTypes := #[40] }) 33 rfl rfl (by kernel_rfl) (fun _ _ _ K hK => ?_)
  go_simp
  refine (rredo_w rq R W rp g y9 ((h.still j9).game.rv)).mono ?_
  rintro e y10 ⟨v10, rfl, o10⟩
  have j10 : Kept (fun _ => False) w y10 := j9.thru o10.kept
  go_wp2_with fail
  refine hK.out _ _ (j10) (fun hHeld => ?_)
  clear hK K
  try simp only [Act.put, List.setIfInBounds_toArray, List.set_cons_zero, List.set_cons_succ]
  refine h_step 22 (some 25) (Op.call { callee := Callee.value (Operand.func 49), args := #[Operand.tmp 19, Operand.tmp 24], argTypes := #[33, 33] }) 4 rfl rfl (by kernel_rfl) (fun _ _ _ K hK => ?_)
  go_simp
  refine (samew_w _ _ (redoF g) (by have := redo_le g; omega) y10 ((OwnR.src wc_length o9).kept o10.kept) (OwnR.src wc_length o10)).mono ?_
  rintro e y11 ⟨rfl, hk11⟩
  have j11 : Kept (fun _ => False) w y11 := j10.thru hk11
  go_wp2_with fail
  refine hK.out _ _ (j11) (fun hHeld => ?_)
  clear hK K
  try simp only [Act.put, List.setIfInBounds_toArray, List.set_cons_zero, List.set_cons_succ]
  refine h_take 23 (some 26) (Op.pick (Operand.tmp 14) (Operand.tmp 25) (Operand.const (Value.bool false))) 4 ?v18 rfl rfl (by kernel_rfl) (by kernel_rfl) (by kernel_rfl) (fun _ _ _ h => h) ?hy18 hHeld ?_
  case hy18 => (intro _ _ _ w hSw; have hcs := KS _ hSw; go_simp; try with_reducible rfl)
  simp only [Act.put, List.setIfInBounds_toArray, List.set_cons_zero, List.set_cons_succ]
  refine h_take 24 (some 2) (Op.assign (Operand.tmp 26)) 4 ?v19 rfl rfl (by kernel_rfl) (by kernel_rfl) (by kernel_rfl) (fun _ _ _ h => h) ?hy19 hHeld ?_
  case hy19 => (intro _ _ _ w hSw; have hcs := KS _ hSw; go_simp; try with_reducible rfl)
  simp only [Act.put, List.setIfInBounds_toArray, List.set_cons_zero, List.set_cons_succ]
  refine wpAnyH_done (by kernel_rfl) ?_ _
  clear hHeld KS
  go_wp2_with fail
  go_ret
  exact ⟨rfl, j11⟩

set_option maxHeartbeats 1000000 in
theorem two_stores {w0 : World} {T p B q N rp rB rq R W : Nat} {f : StF} {g g2 : VwF} {w : World} (h : KeepIn w0 T p B q N rp rB rq R W f f g g2 w) : Calls Try.prog 29 #[.pointer (some ⟨T, 0, none⟩)] w
    fun e w' => e = .returned (.bool true) ∧ Kept (fun _ => False) w w' := by
  have HH : Hid (KeepIn w0 T p B q N rp rB rq R W f f g g2 w) := h
  have H0 : Hid (Kept (fun _ => False) w w) := Kept.refl _ _
  clear h
  go_enter Try.func29, Try.ntmps29
  go_wp2_with fail
  go_loopw [3] (fun v wr => ∃ i : Nat, v = .int .i64 i ∧ i ≤ 55 ∧ Hid (Kept (fun _ => False) w wr)) (fun v _ => 55 - (intOf v).toNat)
  case atStart => exact ⟨0, rfl, by omega, H0.out⟩
  case round =>
    obtain ⟨i, rfl, hi, HK⟩ := hrel
    clear H0
    go_wp2_with fail
    refine (refall_w _).mono ?_
    rintro e w1 ⟨rfl, hk1⟩
    have HK1 : Hid (Kept (fun _ => False) w w1) := HK.out.thru hk1
    clear HK hk1
    by_cases hlt : i < 55
    · have t1 : (i : Int) < 55 := by omega
      go_wp2_with fail
      refine (refat_w (i : Int) _).mono ?_
      rintro e w2 ⟨rfl, hk2⟩
      obtain ⟨⟨kx, ky⟩, hkk⟩ : ∃ k, keyAt (i : Int) = k := ⟨_, rfl⟩
      rw [hkk]
      simp only
      generalize isAt (i : Int) = ia
      obtain ⟨D, hD⟩ : ∃ D : Nat, w2.heap.size = D := ⟨_, rfl⟩
      have k3 : Kept (fun _ => False) w (w2.alloc (.cells #[.int .i64 kx, .int .i64 ky] 55)) := (HK1.out.thru hk2).alloc _
      have hK : (w2.alloc (.cells #[.int .i64 kx, .int .i64 ky] 55)).heap[D]? = some (.cells #[.int .i64 kx, .int .i64 ky] 55 (0, 0)) := alloc_at' _ hD
      go_wp2_with fail
      generalize w2.alloc (.cells #[.int .i64 kx, .int .i64 ky] 55) = w3 at *
      have hG := HH.out.still k3
      have KS : ∀ w', Kept (fun _ => False) w3 w' → (w'.cell? ⟨D, 0, none⟩ = some (.int .i64 kx) ∧ w'.cell? ⟨D, 1, none⟩ = some (.int .i64 ky) ∧ w'.cell? ⟨T, 0, none⟩ = some (.pointer (some ⟨p, 0, none⟩)) ∧ w'.cell? ⟨T, 2, none⟩ = some (.pointer (some ⟨rp, 0, none⟩))) :=
        fun w' hk' => ⟨hk'.cell (cell_at hK rfl) (fun x => x), hk'.cell (cell_at hK rfl) (fun x => x), (hG.still hk').cells.1, (hG.still hk').cells.2.2.1⟩
      refine wp_region_held_drew (S := fun w' => Kept (fun _ => False) w3 w') (by kernel_rfl) ((Kept.refl _ _).drew) (fun hHeld => ?_)
      refine h_take 0 (some 16) (Op.move (Operand.tmp 0)) 35 ?v20 rfl rfl (by kernel_rfl) (by kernel_rfl) (by kernel_rfl) (fun _ _ _ h => h) ?hy20 hHeld ?_
      case hy20 => (intro _ _ _ w hSw; have hcs := KS _ hSw; go_simp; try with_reducible rfl)
      simp only [Act.put, List.setIfInBounds_toArray, List.set_cons_zero, List.set_cons_succ]
      refine h_take 1 (some 17) (Op.nilCheck (Operand.tmp 16)) 0 ?v21 rfl rfl (by kernel_rfl) (by kernel_rfl) (by kernel_rfl) (fun _ _ _ h => h) ?hy21 hHeld ?_
      case hy21 => (intro _ _ _ w hSw; have hcs := KS _ hSw; go_simp; try with_reducible rfl)
      simp only [Act.put, List.setIfInBounds_toArray, List.set_cons_zero, List.set_cons_succ]
      refine h_take 2 (some 18) (Op.fieldAddr 42 (Operand.tmp 17) 0) 0 ?v22 rfl rfl (by kernel_rfl) (by kernel_rfl) (by kernel_rfl) (fun _ _ _ h => h) ?hy22 hHeld ?_
      case hy22 => (intro _ _ _ w hSw; have hcs := KS _ hSw; go_simp; try with_reducible rfl)
      simp only [Act.put, List.setIfInBounds_toArray, List.set_cons_zero, List.set_cons_succ]
      refine h_take 3 (some 19) (Op.load 22 (Operand.tmp 18)) 22 ?v23 rfl rfl (by kernel_rfl) (by kernel_rfl) (by kernel_rfl) (fun _ _ _ h => h) ?hy23 hHeld ?_
      case hy23 => (intro _ _ _ w hSw; have hcs := KS _ hSw; go_simp; try with_reducible rfl)
      simp only [Act.put, List.setIfInBounds_toArray, List.set_cons_zero, List.set_cons_succ]
      refine h_take 4 (some 20) (Op.load 55 (Operand.tmp 4)) 55 ?v24 rfl rfl (by kernel_rfl) (by kernel_rfl) (by kernel_rfl) (fun _ _ _ h => h) ?hy24 hHeld ?_
      case hy24 => (intro _ _ _ w hSw; have hcs := KS _ hSw; go_simp; try with_reducible rfl)
      simp only [Act.put, List.setIfInBounds_toArray, List.set_cons_zero, List.set_cons_succ]
      refine h_take 6 (some 22) (Op.move (Operand.tmp 0)) 35 ?v25 rfl rfl (by kernel_rfl) (by kernel_rfl) (by kernel_rfl) (fun _ _ _ h => h) ?hy25 hHeld ?_
      case hy25 => (intro _ _ _ w hSw; have hcs := KS _ hSw; go_simp; try with_reducible rfl)
      simp only [Act.put, List.setIfInBounds_toArray, List.set_cons_zero, List.set_cons_succ]
      refine h_take 7 (some 23) (Op.nilCheck (Operand.tmp 22)) 0 ?v26 rfl rfl (by kernel_rfl) (by kernel_rfl) (by kernel_rfl) (fun _ _ _ h => h) ?hy26 hHeld ?_
      case hy26 => (intro _ _ _ w hSw; have hcs := KS _ hSw; go_simp; try with_reducible rfl)
      simp only [Act.put, List.setIfInBounds_toArray, List.set_cons_zero, List.set_cons_succ]
      refine h_take 8 (some 24) (Op.fieldAddr 42 (Operand.tmp 23) 2) 0 ?v27 rfl rfl (by kernel_rfl) (by kernel_rfl) (by kernel_rfl) (fun _ _ _ h => h) ?hy27 hHeld ?_
      case hy27 => (intro _ _ _ w hSw; have hcs := KS _ hSw; go_simp; try with_reducible rfl)
      simp only [Act.put, List.setIfInBounds_toArray, List.set_cons_zero, List.set_cons_succ]
      refine h_take 9 (some 25) (Op.load 39 (Operand.tmp 24)) 39 ?v28 rfl rfl (by kernel_rfl) (by kernel_rfl) (by kernel_rfl) (fun _ _ _ h => h) ?hy28 hHeld ?_
      case hy28 => (intro _ _ _ w hSw; have hcs := KS _ hSw; go_simp; try with_reducible rfl)
      simp only [Act.put, List.setIfInBounds_toArray, List.set_cons_zero, List.set_cons_succ]
      refine h_take 10 (some 26) (Op.load 55 (Operand.tmp 4)) 55 ?v29 rfl rfl (by kernel_rfl) (by kernel_rfl) (by kernel_rfl) (fun _ _ _ h => h) ?hy29 hHeld ?_
      case hy29 => (intro _ _ _ w hSw; have hcs := KS _ hSw; go_simp; try with_reducible rfl)
      simp only [Act.put, List.setIfInBounds_toArray, List.set_cons_zero, List.set_cons_succ]
      refine h_step 5 (some 21) (Op.call { callee := Callee.value (Operand.func 52), args := #[Operand.tmp 19, Operand.tmp 20], argTypes := #[22, 55] }) 51 rfl rfl (by kernel_rfl) (fun _ _ _ K hK => ?_)
      go_simp
      refine (get_w p B f kx ky w3.drew (hG.game.s.still (Kept.refl _ _).drew)).mono ?_
      rintro e y4 ⟨rfl, hk4⟩
      have k4 : Kept (fun _ => False) w3 y4 := (Kept.refl _ w3).drew.thru hk4
      go_wp2_with fail
      refine hK.out _ _ (k4) (fun hHeld => ?_)
      clear hK K
      try simp only [Act.put, List.setIfInBounds_toArray, List.set_cons_zero, List.set_cons_succ]
      refine h_step 11 (some 27) (Op.call { callee := Callee.value (Operand.func 53), args := #[Operand.tmp 25, Operand.tmp 26], argTypes := #[39, 55] }) 51 rfl rfl (by kernel_rfl) (fun _ _ _ K hK => ?_)
      go_simp
      refine (rget_w rp rB f kx ky y4 (hG.game.rs.still k4)).mono ?_
      rintro e y5 ⟨rfl, hk5⟩
      have k5 : Kept (fun _ => False) w3 y5 := k4.thru hk5
      go_wp2_with fail
      refine hK.out _ _ (k5) (fun hHeld => ?_)
      clear hK K
      try simp only [Act.put, List.setIfInBounds_toArray, List.set_cons_zero, List.set_cons_succ]
      refine h_take 12 (some 28) (Op.binOp BinOp.neq 51 (Operand.tmp 21) (Operand.tmp 27) 51) 4 (.bool false) rfl rfl (by kernel_rfl) (by kernel_rfl) (by kernel_rfl) (fun _ _ _ h => h) (fun _ _ _ w hSw => exec_neV (a := lookF f (kx, ky)) rfl rfl) hHeld ?_
      simp only [Act.put, List.setIfInBounds_toArray, List.set_cons_zero, List.set_cons_succ]
      refine wpAnyH_done (by kernel_rfl) ?_ _
      have HN : Hid (Kept (fun _ => False) w y5) := k3.thru k5
      clear hHeld KS hk4 k4 hk5 k5 hG hK k3 hk2 HK1
      go_wp2
      go_roundw
      case rel => exact ⟨i + 1, by go_num, by omega, HN.out⟩
      case measure => simp [intOf]; omega
    · obtain rfl : i = 55 := by omega
      go_wp2
      go_ret
      exact ⟨rfl, HK1.out⟩
end Go.Proofs.Ytghgnapogomnlaa
