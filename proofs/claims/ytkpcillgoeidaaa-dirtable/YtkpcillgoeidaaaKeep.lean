
/- Stores and views side by side: what their book does when it is called; no conditions but that each object's bytes are few. -/
import Derived.Test.YtkpcillgoeidaaaRIno
import Derived.Test.YtkpcillgoeidaaaRRedo
import Derived.Deep.CutBlock
namespace Go.Proofs.Ytkpcillgoeidaaa
open Go.RowKit
set_option maxRecDepth 100000
set_option linter.unusedSimpArgs false

/-- The stores and views that a book at T keeps. -/
structure KeepIn (w0 : World) (T p B q N rp rB rq R W : Nat) (f f2 : StF) (g g2 : VwF) (w : World) : Prop where
  cell : w.heap[T]? = some (.cells #[.pointer (some ⟨p, 0, none⟩), .pointer (some ⟨q, 0, none⟩), .pointer (some ⟨rp, 0, none⟩), .pointer (some ⟨rq, 0, none⟩)] 31 (0, 0))
  game : GameIn w0 p B q N rp rB rq R W f f2 g g2 w

section
variable {w0 : World} {T p B q N rp rB rq R W : Nat} {f f2 f' : StF} {g g2 g' : VwF} {w w' : World}

theorem KeepIn.still (h : KeepIn w0 T p B q N rp rB rq R W f f2 g g2 w) (hk : Kept (fun _ => False) w w') : KeepIn w0 T p B q N rp rB rq R W f f2 g g2 w' := ⟨hk.at h.cell (fun x => x), h.game.still hk⟩
theorem KeepIn.putS (h : KeepIn w0 T p B q N rp rB rq R W f f2 g g2 w) (hs : StoreIn p B f' w') (hk : Kept (fun n => n = B) w w') : KeepIn w0 T p B q N rp rB rq R W f' f2 g g2 w' := ⟨hk.at h.cell (h.game.s.map.off h.cell), h.game.putS hs hk⟩
theorem KeepIn.putR (h : KeepIn w0 T p B q N rp rB rq R W f f2 g g2 w) (hs : RStoreIn rp rB f' w') (hk : Kept (fun n => n = rB) w w') : KeepIn w0 T p B q N rp rB rq R W f f' g g2 w' := ⟨hk.at h.cell (h.game.rs.map.off h.cell), h.game.putR hs hk⟩
theorem KeepIn.putV (h : KeepIn w0 T p B q N rp rB rq R W f f2 g g2 w) (hv : ViewIn q N p g' w') (hk : Kept (fun n => n = N) w w') : KeepIn w0 T p B q N rp rB rq R W f f2 g' g2 w' := ⟨hk.at h.cell (h.game.v.map.off h.cell), h.game.putV hv hk⟩
theorem KeepIn.nB (h : KeepIn w0 T p B q N rp rB rq R W f f2 g g2 w) : N ≠ B := fun e => h.game.a1 e.symm
theorem KeepIn.both (h : KeepIn w0 T p B q N rp rB rq R W f f2 g g2 w) : RBoth rq R W rp rB f2 g2 w := ⟨h.game.rv, h.game.rs, fun e => h.game.a8 e.symm, fun e => h.game.a9 e.symm⟩
theorem KeepIn.putX (h : KeepIn w0 T p B q N rp rB rq R W f f2 g g2 w) (hb : RBoth rq R W rp rB f2 g' w') (hk : Kept (RW R W) w w') : KeepIn w0 T p B q N rp rB rq R W f f2 g g' w' := by
  have e1 : ∀ {n : Nat} {c : Array Value} {t : TypeId}, w.heap[n]? = some (.cells c t (0, 0)) → ¬ RW R W n := fun hn e => by
    rcases e with e | e
    · exact h.game.rv.r.off hn e
    · exact h.game.rv.w.off hn e
  exact ⟨hk.at h.cell (e1 h.cell), { h.game with
    s := h.game.s.kept hk (e1 h.game.s.cell) (by have := h.game.a3; have := h.game.a4; unfold RW; omega)
    v := h.game.v.kept hk (e1 h.game.v.cell) (by have := h.game.a6; have := h.game.a7; unfold RW; omega)
    rs := hb.s
    rv := hb.v
    kept := h.game.kept.trans hk (fun k h1 h2 => by have := h.game.nR; have := h.game.nW; unfold RW at h2; omega) }⟩
theorem KeepIn.cells (h : KeepIn w0 T p B q N rp rB rq R W f f2 g g2 w) : w.cell? ⟨T, 0, none⟩ = some (.pointer (some ⟨p, 0, none⟩)) ∧ w.cell? ⟨T, 1, none⟩ = some (.pointer (some ⟨q, 0, none⟩)) ∧ w.cell? ⟨T, 2, none⟩ = some (.pointer (some ⟨rp, 0, none⟩)) ∧ w.cell? ⟨T, 3, none⟩ = some (.pointer (some ⟨rq, 0, none⟩)) :=
  ⟨cell_at h.cell rfl, cell_at h.cell rfl, cell_at h.cell rfl, cell_at h.cell rfl⟩
end

set_option maxHeartbeats 1000000 in
theorem two_same {w0 : World} {T p B q N rp rB rq R W : Nat} {f : StF} {g : VwF} {w : World} (h : KeepIn w0 T p B q N rp rB rq R W f f g g w) : Calls Try.prog 24 #[.pointer (some ⟨T, 0, none⟩)] w
    fun e w' => e = .returned (.bool true) ∧ Kept (fun _ => False) w w' := by
  have KS : ∀ w', Kept (fun _ => False) w w' → (w'.cell? ⟨T, 1, none⟩ = some (.pointer (some ⟨q, 0, none⟩)) ∧ w'.cell? ⟨T, 3, none⟩ = some (.pointer (some ⟨rq, 0, none⟩))) := fun w' hk => ⟨(h.still hk).cells.2.1, (h.still hk).cells.2.2.2⟩
  go_enter Try.func24, Try.ntmps24
  go_wp2_with fail
  refine wp_region_held_drew (S := fun w' => Kept (fun _ => False) w w') (by kernel_rfl) ((Kept.refl _ _).drew) (fun hHeld => ?_)
  refine h_take 0 (some 3) (Op.move (Operand.tmp 0)) 22 ?v1 rfl rfl (by kernel_rfl) (by kernel_rfl) (by kernel_rfl) (fun _ _ _ h => h) ?hy1 hHeld ?_
  case hy1 => (intro _ _ _ w hSw; have hcs := KS _ hSw; go_simp; try with_reducible rfl)
  simp only [Act.put, List.setIfInBounds_toArray, List.set_cons_zero, List.set_cons_succ]
  refine h_take 1 (some 4) (Op.nilCheck (Operand.tmp 3)) 0 ?v2 rfl rfl (by kernel_rfl) (by kernel_rfl) (by kernel_rfl) (fun _ _ _ h => h) ?hy2 hHeld ?_
  case hy2 => (intro _ _ _ w hSw; have hcs := KS _ hSw; go_simp; try with_reducible rfl)
  simp only [Act.put, List.setIfInBounds_toArray, List.set_cons_zero, List.set_cons_succ]
  refine h_take 2 (some 5) (Op.fieldAddr 31 (Operand.tmp 4) 1) 0 ?v3 rfl rfl (by kernel_rfl) (by kernel_rfl) (by kernel_rfl) (fun _ _ _ h => h) ?hy3 hHeld ?_
  case hy3 => (intro _ _ _ w hSw; have hcs := KS _ hSw; go_simp; try with_reducible rfl)
  simp only [Act.put, List.setIfInBounds_toArray, List.set_cons_zero, List.set_cons_succ]
  refine h_take 3 (some 6) (Op.load 27 (Operand.tmp 5)) 27 ?v4 rfl rfl (by kernel_rfl) (by kernel_rfl) (by kernel_rfl) (fun _ _ _ h => h) ?hy4 hHeld ?_
  case hy4 => (intro _ _ _ w hSw; have hcs := KS _ hSw; go_simp; try with_reducible rfl)
  simp only [Act.put, List.setIfInBounds_toArray, List.set_cons_zero, List.set_cons_succ]
  refine h_take 5 (some 8) (Op.move (Operand.tmp 0)) 22 ?v5 rfl rfl (by kernel_rfl) (by kernel_rfl) (by kernel_rfl) (fun _ _ _ h => h) ?hy5 hHeld ?_
  case hy5 => (intro _ _ _ w hSw; have hcs := KS _ hSw; go_simp; try with_reducible rfl)
  simp only [Act.put, List.setIfInBounds_toArray, List.set_cons_zero, List.set_cons_succ]
  refine h_take 6 (some 9) (Op.nilCheck (Operand.tmp 8)) 0 ?v6 rfl rfl (by kernel_rfl) (by kernel_rfl) (by kernel_rfl) (fun _ _ _ h => h) ?hy6 hHeld ?_
  case hy6 => (intro _ _ _ w hSw; have hcs := KS _ hSw; go_simp; try with_reducible rfl)
  simp only [Act.put, List.setIfInBounds_toArray, List.set_cons_zero, List.set_cons_succ]
  refine h_take 7 (some 10) (Op.fieldAddr 31 (Operand.tmp 9) 3) 0 ?v7 rfl rfl (by kernel_rfl) (by kernel_rfl) (by kernel_rfl) (fun _ _ _ h => h) ?hy7 hHeld ?_
  case hy7 => (intro _ _ _ w hSw; have hcs := KS _ hSw; go_simp; try with_reducible rfl)
  simp only [Act.put, List.setIfInBounds_toArray, List.set_cons_zero, List.set_cons_succ]
  refine h_take 8 (some 11) (Op.load 29 (Operand.tmp 10)) 29 ?v8 rfl rfl (by kernel_rfl) (by kernel_rfl) (by kernel_rfl) (fun _ _ _ h => h) ?hy8 hHeld ?_
  case hy8 => (intro _ _ _ w hSw; have hcs := KS _ hSw; go_simp; try with_reducible rfl)
  simp only [Act.put, List.setIfInBounds_toArray, List.set_cons_zero, List.set_cons_succ]
  refine h_step 4 (some 7) (Op.call { callee := Callee.value (Operand.func 56), args := #[Operand.tmp 6], argTypes := #[27] }) 89 rfl rfl (by kernel_rfl) (fun _ _ _ K hK => ?_)
  go_simp
  refine (reads_w q N p g _ ((h.still (Kept.refl _ _).drew).game.v)).mono ?_
  rintro e y3 ⟨v3, rfl, o3⟩
  have j3 : Kept (fun _ => False) w y3 := ((Kept.refl _ w).drew).thru o3.kept
  go_wp2_with fail
  refine hK.out _ _ (j3) (fun hHeld => ?_)
  clear hK K
  try simp only [Act.put, List.setIfInBounds_toArray, List.set_cons_zero, List.set_cons_succ]
  refine h_step 9 (some 12) (Op.call { callee := Callee.value (Operand.func 57), args := #[Operand.tmp 11], argTypes := #[29] }) 89 rfl rfl (by kernel_rfl) (fun _ _ _ K hK => ?_)
  go_simp
  refine (rreads_w rq R W rp g _ ((h.still j3).game.rv)).mono ?_
  rintro e y4 ⟨v4, rfl, o4⟩
  have j4 : Kept (fun _ => False) w y4 := j3.thru o4.kept
  go_wp2_with fail
  refine hK.out _ _ (j4) (fun hHeld => ?_)
  clear hK K
  try simp only [Act.put, List.setIfInBounds_toArray, List.set_cons_zero, List.set_cons_succ]
  refine h_step 10 (some 13) (Op.call { callee := Callee.value (Operand.func 55), args := #[Operand.tmp 7, Operand.tmp 12], argTypes := #[89, 89] }) 4 rfl rfl (by kernel_rfl) (fun _ _ _ K hK => ?_)
  go_simp
  refine (same_w _ _ (readsF g) (by have := reads_le g; omega) y4 (o3.src.kept o4.kept) o4.src).mono ?_
  rintro e y5 ⟨rfl, hk5⟩
  have j5 : Kept (fun _ => False) w y5 := j4.thru hk5
  go_wp2_with fail
  refine hK.out _ _ (j5) (fun hHeld => ?_)
  clear hK K
  try simp only [Act.put, List.setIfInBounds_toArray, List.set_cons_zero, List.set_cons_succ]
  clear o3 o4 j3 j4 hk5
  refine h_take 11 (some 14) (Op.move (Operand.tmp 13)) 4 ?v9 rfl rfl (by kernel_rfl) (by kernel_rfl) (by kernel_rfl) (fun _ _ _ h => h) ?hy9 hHeld ?_
  case hy9 => (intro _ _ _ w hSw; have hcs := KS _ hSw; go_simp; try with_reducible rfl)
  simp only [Act.put, List.setIfInBounds_toArray, List.set_cons_zero, List.set_cons_succ]
  refine h_take 12 (some 15) (Op.move (Operand.tmp 0)) 22 ?v10 rfl rfl (by kernel_rfl) (by kernel_rfl) (by kernel_rfl) (fun _ _ _ h => h) ?hy10 hHeld ?_
  case hy10 => (intro _ _ _ w hSw; have hcs := KS _ hSw; go_simp; try with_reducible rfl)
  simp only [Act.put, List.setIfInBounds_toArray, List.set_cons_zero, List.set_cons_succ]
  refine h_take 13 (some 16) (Op.nilCheck (Operand.tmp 15)) 0 ?v11 rfl rfl (by kernel_rfl) (by kernel_rfl) (by kernel_rfl) (fun _ _ _ h => h) ?hy11 hHeld ?_
  case hy11 => (intro _ _ _ w hSw; have hcs := KS _ hSw; go_simp; try with_reducible rfl)
  simp only [Act.put, List.setIfInBounds_toArray, List.set_cons_zero, List.set_cons_succ]
  refine h_take 14 (some 17) (Op.fieldAddr 31 (Operand.tmp 16) 1) 0 ?v12 rfl rfl (by kernel_rfl) (by kernel_rfl) (by kernel_rfl) (fun _ _ _ h => h) ?hy12 hHeld ?_
  case hy12 => (intro _ _ _ w hSw; have hcs := KS _ hSw; go_simp; try with_reducible rfl)
  simp only [Act.put, List.setIfInBounds_toArray, List.set_cons_zero, List.set_cons_succ]
  refine h_take 15 (some 18) (Op.load 27 (Operand.tmp 17)) 27 ?v13 rfl rfl (by kernel_rfl) (by kernel_rfl) (by kernel_rfl) (fun _ _ _ h => h) ?hy13 hHeld ?_
  case hy13 => (intro _ _ _ w hSw; have hcs := KS _ hSw; go_simp; try with_reducible rfl)
  simp only [Act.put, List.setIfInBounds_toArray, List.set_cons_zero, List.set_cons_succ]
  refine h_take 17 (some 20) (Op.move (Operand.tmp 0)) 22 ?v14 rfl rfl (by kernel_rfl) (by kernel_rfl) (by kernel_rfl) (fun _ _ _ h => h) ?hy14 hHeld ?_
  case hy14 => (intro _ _ _ w hSw; have hcs := KS _ hSw; go_simp; try with_reducible rfl)
  simp only [Act.put, List.setIfInBounds_toArray, List.set_cons_zero, List.set_cons_succ]
  refine h_take 18 (some 21) (Op.nilCheck (Operand.tmp 20)) 0 ?v15 rfl rfl (by kernel_rfl) (by kernel_rfl) (by kernel_rfl) (fun _ _ _ h => h) ?hy15 hHeld ?_
  case hy15 => (intro _ _ _ w hSw; have hcs := KS _ hSw; go_simp; try with_reducible rfl)
  simp only [Act.put, List.setIfInBounds_toArray, List.set_cons_zero, List.set_cons_succ]
  refine h_take 19 (some 22) (Op.fieldAddr 31 (Operand.tmp 21) 3) 0 ?v16 rfl rfl (by kernel_rfl) (by kernel_rfl) (by kernel_rfl) (fun _ _ _ h => h) ?hy16 hHeld ?_
  case hy16 => (intro _ _ _ w hSw; have hcs := KS _ hSw; go_simp; try with_reducible rfl)
  simp only [Act.put, List.setIfInBounds_toArray, List.set_cons_zero, List.set_cons_succ]
  refine h_take 20 (some 23) (Op.load 29 (Operand.tmp 22)) 29 ?v17 rfl rfl (by kernel_rfl) (by kernel_rfl) (by kernel_rfl) (fun _ _ _ h => h) ?hy17 hHeld ?_
  case hy17 => (intro _ _ _ w hSw; have hcs := KS _ hSw; go_simp; try with_reducible rfl)
  simp only [Act.put, List.setIfInBounds_toArray, List.set_cons_zero, List.set_cons_succ]
  refine h_step 16 (some 19) (Op.call { callee := Callee.value (Operand.func 51), args := #[Operand.tmp 18], argTypes := #[27] }) 39 rfl rfl (by kernel_rfl) (fun _ _ _ K hK => ?_)
  go_simp
  refine (redo_w q N p g y5 ((h.still j5).game.v)).mono ?_
  rintro e y9 ⟨v9, rfl, o9⟩
  have j9 : Kept (fun _ => False) w y9 := j5.thru o9.kept
  go_wp2_with fail
  refine hK.out _ _ (j9) (fun hHeld => ?_)
  clear hK K
  try simp only [Act.put, List.setIfInBounds_toArray, List.set_cons_zero, List.set_cons_succ]
  refine h_step 21 (some 24) (Op.call { callee := Callee.value (Operand.func 52), args := #[Operand.tmp 23], argTypes := #[29] }) 39 rfl rfl (by kernel_rfl) (fun _ _ _ K hK => ?_)
  go_simp
  refine (rredo_w rq R W rp g y9 ((h.still j9).game.rv)).mono ?_
  rintro e y10 ⟨v10, rfl, o10⟩
  have j10 : Kept (fun _ => False) w y10 := j9.thru o10.kept
  go_wp2_with fail
  refine hK.out _ _ (j10) (fun hHeld => ?_)
  clear hK K
  try simp only [Act.put, List.setIfInBounds_toArray, List.set_cons_zero, List.set_cons_succ]
  refine h_step 22 (some 25) (Op.call { callee := Callee.value (Operand.func 58), args := #[Operand.tmp 19, Operand.tmp 24], argTypes := #[39, 39] }) 4 rfl rfl (by kernel_rfl) (fun _ _ _ K hK => ?_)
  go_simp
  refine (samew_w _ _ (redoF g) (by have := redo_le g; omega) y10 ((OwnR.src wc_length o9).kept o10.kept) (OwnR.src wc_length o10)).mono ?_
  rintro e y11 ⟨rfl, hk11⟩
  have j11 : Kept (fun _ => False) w y11 := j10.thru hk11
  go_wp2_with fail
  refine hK.out _ _ (j11) (fun hHeld => ?_)
  clear hK K
  try simp only [Act.put, List.setIfInBounds_toArray, List.set_cons_zero, List.set_cons_succ]
  refine h_take 23 (some 26) (Op.pick (Operand.tmp 14) (Operand.tmp 25) (Operand.const (Value.bool false))) 4 ?v18 rfl rfl (by kernel_rfl) (by kernel_rfl) (by kernel_rfl) (fun _ _ _ h => h) ?hy18 hHeld ?_
  case hy18 => (intro _ _ _ w hSw; have hcs := KS _ hSw; go_simp; try with_reducible rfl)
  simp only [Act.put, List.setIfInBounds_toArray, List.set_cons_zero, List.set_cons_succ]
  refine h_take 24 (some 2) (Op.assign (Operand.tmp 26)) 4 ?v19 rfl rfl (by kernel_rfl) (by kernel_rfl) (by kernel_rfl) (fun _ _ _ h => h) ?hy19 hHeld ?_
  case hy19 => (intro _ _ _ w hSw; have hcs := KS _ hSw; go_simp; try with_reducible rfl)
  simp only [Act.put, List.setIfInBounds_toArray, List.set_cons_zero, List.set_cons_succ]
  refine wpAnyH_done (by kernel_rfl) ?_ _
  clear hHeld KS
  go_wp2_with fail
  go_ret
  exact ⟨rfl, j11⟩

end Go.Proofs.Ytkpcillgoeidaaa
