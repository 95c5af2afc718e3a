
/- Inodes of the reference; two stores and views side by side; no conditions but lengths. -/
import Derived.Test.YtigfgnaakoicjaaInA
import Derived.Test.YtigfgnaakoicjaaStC
import Derived.Test.YtigfgnaakoicjaaStA
import Derived.Deep.CutBlock
namespace Go.Proofs.Ytigfgnaakoicjaa
open Go.RowKit
set_option maxRecDepth 100000
set_option linter.unusedSimpArgs false

/-- The reference's view and its store. -/
structure RBoth (q R W p B : Nat) (f : StF) (g : VwF) (w : World) : Prop where
  v : RViewIn q R W p g w
  s : RStoreIn p B f w
  a1 : R ≠ B
  a2 : W ≠ B
def RW (R W : Nat) : Nat → Prop := fun n => n = R ∨ n = W

section
variable {q R W p B : Nat} {f : StF} {g : VwF} {w w' : World}
theorem RBoth.still (h : RBoth q R W p B f g w) (hk : Kept (fun _ => False) w w') : RBoth q R W p B f g w' := { h with v := h.v.still hk, s := h.s.still hk }
theorem RBoth.kept {X : Nat → Prop} (h : RBoth q R W p B f g w) (hk : Kept X w w') (x1 : ¬ X q) (x2 : ¬ X R) (x3 : ¬ X W) (x4 : ¬ X p) (x5 : ¬ X B) : RBoth q R W p B f g w' := { h with v := h.v.kept hk x1 x2 x3, s := h.s.kept hk x4 x5 }
theorem RBoth.lt (h : RBoth q R W p B f g w) : q < w.heap.size ∧ R < w.heap.size ∧ W < w.heap.size ∧ p < w.heap.size ∧ B < w.heap.size := ⟨lt_at h.v.cell, h.v.r.lt, h.v.w.lt, lt_at h.s.cell, h.s.map.lt⟩
end

def av (x : V) : Value := .agg ((vc x).toArray.extract 0 16)
theorem field_arr (x : V) (w : World) : (Instr.field 41 (vv x) 0).run Try.prog w = .ok (av x) w := by kernel_rfl
theorem field_str (x : V) (w : World) : (Instr.field 41 (vv x) 1).run Try.prog w = .ok (.string x.s) w := by kernel_rfl
theorem index_n0 (x : V) (w : World) : (Instr.index 39 (av x) (.int .i64 0)).run Try.prog w = .ok (.int .i64 x.n0) w := by kernel_rfl

theorem get_twice {f : StF} {g : VwF} {k : K2} : vgetF f (vgetT g k) k = vgetF f g k ∧ vgetT (vgetT g k) k = vgetT g k := by
  unfold vgetF vgetT
  by_cases h : 0 ≤ plc k
  · simp only [if_pos h]
    constructor
    · rw [note_upd, if_pos rfl]
    · rw [note_upd, if_pos rfl]
      funext j
      unfold upd
      split <;> rfl
  · simp only [if_neg h]
    exact ⟨trivial, trivial⟩

end Go.Proofs.Ytigfgnaakoicjaa

namespace Go.Proofs.Ytigfgnaakoicjaa
open Go.RowKit
set_option maxRecDepth 100000
set_option linter.unusedSimpArgs false

/-- The stores and views that a book at T keeps. -/
structure KeepIn (w0 : World) (T p B q N rp rB rq R W : Nat) (f f2 : StF) (g g2 : VwF) (w : World) : Prop where
  cell : w.heap[T]? = some (.cells #[.pointer (some ⟨p, 0, none⟩), .pointer (some ⟨q, 0, none⟩), .pointer (some ⟨rp, 0, none⟩), .pointer (some ⟨rq, 0, none⟩)] 30 (0, 0))
  game : GameIn w0 p B q N rp rB rq R W f f2 g g2 w

section
variable {w0 : World} {T p B q N rp rB rq R W : Nat} {f f2 f' : StF} {g g2 g' : VwF} {w w' : World}

theorem KeepIn.still (h : KeepIn w0 T p B q N rp rB rq R W f f2 g g2 w) (hk : Kept (fun _ => False) w w') : KeepIn w0 T p B q N rp rB rq R W f f2 g g2 w' := ⟨hk.at h.cell (fun x => x), h.game.still hk⟩
theorem KeepIn.putS (h : KeepIn w0 T p B q N rp rB rq R W f f2 g g2 w) (hs : StoreIn p B f' w') (hk : Kept (fun n => n = B) w w') : KeepIn w0 T p B q N rp rB rq R W f' f2 g g2 w' := ⟨hk.at h.cell (h.game.s.map.off h.cell), h.game.putS hs hk⟩
theorem KeepIn.putR (h : KeepIn w0 T p B q N rp rB rq R W f f2 g g2 w) (hs : RStoreIn rp rB f' w') (hk : Kept (fun n => n = rB) w w') : KeepIn w0 T p B q N rp rB rq R W f f' g g2 w' := ⟨hk.at h.cell (h.game.rs.map.off h.cell), h.game.putR hs hk⟩
theorem KeepIn.putV (h : KeepIn w0 T p B q N rp rB rq R W f f2 g g2 w) (hv : ViewIn q N p g' w') (hk : Kept (fun n => n = N) w w') : KeepIn w0 T p B q N rp rB rq R W f f2 g' g2 w' := ⟨hk.at h.cell (h.game.v.map.off h.cell), h.game.putV hv hk⟩
theorem KeepIn.nB (h : KeepIn w0 T p B q N rp rB rq R W f f2 g g2 w) : N ≠ B := fun e => h.game.a1 e.symm
theorem KeepIn.both (h : KeepIn w0 T p B q N rp rB rq R W f f2 g g2 w) : RBoth rq R W rp rB f2 g2 w := ⟨h.game.rv, h.game.rs, fun e => h.game.a8 e.symm, fun e => h.game.a9 e.symm⟩
theorem KeepIn.putX (h : KeepIn w0 T p B q N rp rB rq R W f f2 g g2 w) (hb : RBoth rq R W rp rB f2 g' w') (hk : Kept (RW R W) w w') : KeepIn w0 T p B q N rp rB rq R W f f2 g g' w' := by
  have e1 : ∀ {n : Nat} {c : Array Value} {t : TypeId}, w.heap[n]? = some (.cells c t (0, 0)) → ¬ RW R W n := fun hn e => by
    rcases e with e | e
    · exact h.game.rv.r.off hn e
    · exact h.game.rv.w.off hn e
  exact ⟨hk.at h.cell (e1 h.cell), { h.game with
    s := h.game.s.kept hk (e1 h.game.s.cell) (by have := h.game.a3; have := h.game.a4; unfold RW; omega)
    v := h.game.v.kept hk (e1 h.game.v.cell) (by have := h.game.a6; have := h.game.a7; unfold RW; omega)
    rs := hb.s
    rv := hb.v
    kept := h.game.kept.trans hk (fun k h1 h2 => by have := h.game.nR; have := h.game.nW; unfold RW at h2; omega) }⟩
theorem KeepIn.cells (h : KeepIn w0 T p B q N rp rB rq R W f f2 g g2 w) : w.cell? ⟨T, 0, none⟩ = some (.pointer (some ⟨p, 0, none⟩)) ∧ w.cell? ⟨T, 1, none⟩ = some (.pointer (some ⟨q, 0, none⟩)) ∧ w.cell? ⟨T, 2, none⟩ = some (.pointer (some ⟨rp, 0, none⟩)) ∧ w.cell? ⟨T, 3, none⟩ = some (.pointer (some ⟨rq, 0, none⟩)) :=
  ⟨cell_at h.cell rfl, cell_at h.cell rfl, cell_at h.cell rfl, cell_at h.cell rfl⟩
end

end Go.Proofs.Ytigfgnaakoicjaa

namespace Go.Proofs.Ytigfgnaakoicjaa
open Go.RowKit
set_option maxRecDepth 100000
set_option linter.unusedSimpArgs false

def tc (p : Nat) (a : Value) (rp : Nat) (b : Value) : Array Value := #[.pointer (some ⟨p, 0, none⟩), a, .pointer (some ⟨rp, 0, none⟩), b]
def ptr (p : Nat) : Value := .pointer (some ⟨p, 0, none⟩)

set_option maxHeartbeats 1000000 in
theorem two_look (T p rp : Nat) (a b : Value) (w : World) (h : w.heap[T]? = some (.cells (tc p a rp b) 30 (0, 0))) : Calls Try.prog 22 #[.pointer (some ⟨T, 0, none⟩)] w
    fun e w' => e = .returned (.tuple #[]) ∧ ∃ q N rq R W, w'.heap[T]? = some (.cells (tc p (ptr q) rp (ptr rq)) 30 (0, 0)) ∧ ViewIn q N p (fun _ => none) w' ∧ RViewIn rq R W rp (fun _ => none) w' ∧ Kept (fun n => n = T) w w' ∧
      w.heap.size ≤ q ∧ w.heap.size ≤ N ∧ w.heap.size ≤ rq ∧ w.heap.size ≤ R ∧ w.heap.size ≤ W ∧ N ≠ R ∧ N ≠ W := by
  have lT := lt_at h
  have KC : ∀ w', Kept (fun _ => False) w w' → w'.heap[T]? = some (.cells (tc p a rp b) 30 (0, 0)) := fun w' hk => hk.at h (fun x => x)
  have KS : ∀ w', (Kept (fun n => n = T) w w' ∧ w'.cell? ⟨T, 0, none⟩ = some (.pointer (some ⟨p, 0, none⟩)) ∧ w'.cell? ⟨T, 2, none⟩ = some (.pointer (some ⟨rp, 0, none⟩))) → (w'.cell? ⟨T, 0, none⟩ = some (.pointer (some ⟨p, 0, none⟩)) ∧ w'.cell? ⟨T, 2, none⟩ = some (.pointer (some ⟨rp, 0, none⟩))) := fun w' hk => hk.2
  have KF : ∀ w', Kept (fun _ => False) w w' → (Kept (fun n => n = T) w w' ∧ w'.cell? ⟨T, 0, none⟩ = some (.pointer (some ⟨p, 0, none⟩)) ∧ w'.cell? ⟨T, 2, none⟩ = some (.pointer (some ⟨rp, 0, none⟩))) := fun w' hk => ⟨hk.mono (fun _ _ e => e.elim), cell_at (KC w' hk) rfl, cell_at (KC w' hk) rfl⟩
  go_enter Try.func22, Try.ntmps22
  go_wp2_with fail
  refine wp_region_held_drew (S := fun w' => Kept (fun n => n = T) w w' ∧ w'.cell? ⟨T, 0, none⟩ = some (.pointer (some ⟨p, 0, none⟩)) ∧ w'.cell? ⟨T, 2, none⟩ = some (.pointer (some ⟨rp, 0, none⟩))) (by kernel_rfl) (KF _ (Kept.refl _ _).drew) (fun hHeld => ?_)
  refine h_take 0 (some 2) (Op.move (Operand.tmp 0)) 22 ?v1 rfl rfl (by kernel_rfl) (by kernel_rfl) (by kernel_rfl) (fun _ _ _ h => h) ?hy1 hHeld ?_
  case hy1 => (intro _ _ _ w hSw; have hcs := KS _ hSw; go_simp; try with_reducible rfl)
  simp only [Act.put, List.setIfInBounds_toArray, List.set_cons_zero, List.set_cons_succ]
  refine h_take 1 (some 3) (Op.move (Operand.tmp 0)) 22 ?v2 rfl rfl (by kernel_rfl) (by kernel_rfl) (by kernel_rfl) (fun _ _ _ h => h) ?hy2 hHeld ?_
  case hy2 => (intro _ _ _ w hSw; have hcs := KS _ hSw; go_simp; try with_reducible rfl)
  simp only [Act.put, List.setIfInBounds_toArray, List.set_cons_zero, List.set_cons_succ]
  refine h_take 2 (some 4) (Op.move (Operand.tmp 0)) 22 ?v3 rfl rfl (by kernel_rfl) (by kernel_rfl) (by kernel_rfl) (fun _ _ _ h => h) ?hy3 hHeld ?_
  case hy3 => (intro _ _ _ w hSw; have hcs := KS _ hSw; go_simp; try with_reducible rfl)
  simp only [Act.put, List.setIfInBounds_toArray, List.set_cons_zero, List.set_cons_succ]
  refine h_take 3 (some 5) (Op.nilCheck (Operand.tmp 4)) 0 ?v4 rfl rfl (by kernel_rfl) (by kernel_rfl) (by kernel_rfl) (fun _ _ _ h => h) ?hy4 hHeld ?_
  case hy4 => (intro _ _ _ w hSw; have hcs := KS _ hSw; go_simp; try with_reducible rfl)
  simp only [Act.put, List.setIfInBounds_toArray, List.set_cons_zero, List.set_cons_succ]
  refine h_take 4 (some 6) (Op.fieldAddr 30 (Operand.tmp 5) 0) 0 ?v5 rfl rfl (by kernel_rfl) (by kernel_rfl) (by kernel_rfl) (fun _ _ _ h => h) ?hy5 hHeld ?_
  case hy5 => (intro _ _ _ w hSw; have hcs := KS _ hSw; go_simp; try with_reducible rfl)
  simp only [Act.put, List.setIfInBounds_toArray, List.set_cons_zero, List.set_cons_succ]
  refine h_take 5 (some 7) (Op.load 25 (Operand.tmp 6)) 25 ?v6 rfl rfl (by kernel_rfl) (by kernel_rfl) (by kernel_rfl) (fun _ _ _ h => h) ?hy6 hHeld ?_
  case hy6 => (intro _ _ _ w hSw; have hcs := KS _ hSw; go_simp; try with_reducible rfl)
  simp only [Act.put, List.setIfInBounds_toArray, List.set_cons_zero, List.set_cons_succ]
  refine h_take 7 (some 9) (Op.move (Operand.tmp 0)) 22 ?v7 rfl rfl (by kernel_rfl) (by kernel_rfl) (by kernel_rfl) (fun _ _ _ h => h) ?hy7 hHeld ?_
  case hy7 => (intro _ _ _ w hSw; have hcs := KS _ hSw; go_simp; try with_reducible rfl)
  simp only [Act.put, List.setIfInBounds_toArray, List.set_cons_zero, List.set_cons_succ]
  refine h_take 8 (some 10) (Op.nilCheck (Operand.tmp 9)) 0 ?v8 rfl rfl (by kernel_rfl) (by kernel_rfl) (by kernel_rfl) (fun _ _ _ h => h) ?hy8 hHeld ?_
  case hy8 => (intro _ _ _ w hSw; have hcs := KS _ hSw; go_simp; try with_reducible rfl)
  simp only [Act.put, List.setIfInBounds_toArray, List.set_cons_zero, List.set_cons_succ]
  refine h_take 9 (some 11) (Op.fieldAddr 30 (Operand.tmp 10) 2) 0 ?v9 rfl rfl (by kernel_rfl) (by kernel_rfl) (by kernel_rfl) (fun _ _ _ h => h) ?hy9 hHeld ?_
  case hy9 => (intro _ _ _ w hSw; have hcs := KS _ hSw; go_simp; try with_reducible rfl)
  simp only [Act.put, List.setIfInBounds_toArray, List.set_cons_zero, List.set_cons_succ]
  refine h_take 10 (some 12) (Op.load 27 (Operand.tmp 11)) 27 ?v10 rfl rfl (by kernel_rfl) (by kernel_rfl) (by kernel_rfl) (fun _ _ _ h => h) ?hy10 hHeld ?_
  case hy10 => (intro _ _ _ w hSw; have hcs := KS _ hSw; go_simp; try with_reducible rfl)
  simp only [Act.put, List.setIfInBounds_toArray, List.set_cons_zero, List.set_cons_succ]
  refine h_step 6 (some 8) (Op.call { callee := Callee.value (Operand.func 28), args := #[Operand.tmp 7], argTypes := #[25] }) 26 rfl rfl (by kernel_rfl) (fun _ _ _ K hK => ?_)
  go_simp
  refine (look_w p _).mono ?_
  rintro e w1 ⟨q, N, rfl, hv1, hk1, hq, hN⟩
  replace hk1 : Kept (fun _ => False) w w1 := ((Kept.refl _ w).drew).thru hk1
  replace hq : w.heap.size ≤ q := hq
  replace hN : w.heap.size ≤ N := hN
  go_wp2_with fail
  refine hK.out _ _ (KF _ hk1) (fun hHeld => ?_)
  clear hK K
  try simp only [Act.put, List.setIfInBounds_toArray, List.set_cons_zero, List.set_cons_succ]
  refine h_step 11 (some 13) (Op.call { callee := Callee.value (Operand.func 29), args := #[Operand.tmp 12], argTypes := #[27] }) 28 rfl rfl (by kernel_rfl) (fun _ _ _ K hK => ?_)
  go_simp
  refine (rview_w rp w1).mono ?_
  rintro e w2 ⟨rq, R, W, rfl, hx2, hk2, hrq, hR, hW⟩
  have K2 : Kept (fun _ => False) w w2 := hk1.thru hk2
  have hv2 := hv1.still hk2
  have l1 := hv1.map.lt
  have l2 := hk1.size
  have lq := lt_at hv1.cell
  have g1 : N ≠ R ∧ N ≠ W := by omega
  have g2 : w.heap.size ≤ rq ∧ w.heap.size ≤ R ∧ w.heap.size ≤ W := by omega
  have hT2 := KC _ K2
  have f1 := free_at hT2 1
  clear hk2 hv1 hk1 hrq hR hW l1 l2 KF KC
  go_wp2_with fail
  refine hK.out _ _ ((⟨K2.mono (fun _ _ e => e.elim), cell_at hT2 rfl, cell_at hT2 rfl⟩ : _ ∧ _ ∧ _)) (fun hHeld => ?_)
  clear hK K
  try simp only [Act.put, List.setIfInBounds_toArray, List.set_cons_zero, List.set_cons_succ]
  refine h_take 12 (some 14) (Op.nilCheck (Operand.tmp 2)) 0 ?v11 rfl rfl (by kernel_rfl) (by kernel_rfl) (by kernel_rfl) (fun _ _ _ h => h) ?hy11 hHeld ?_
  case hy11 => (intro _ _ _ w hSw; have hcs := KS _ hSw; go_simp; try with_reducible rfl)
  simp only [Act.put, List.setIfInBounds_toArray, List.set_cons_zero, List.set_cons_succ]
  refine h_take 13 (some 15) (Op.fieldAddr 30 (Operand.tmp 14) 1) 0 ?v12 rfl rfl (by kernel_rfl) (by kernel_rfl) (by kernel_rfl) (fun _ _ _ h => h) ?hy12 hHeld ?_
  case hy12 => (intro _ _ _ w hSw; have hcs := KS _ hSw; go_simp; try with_reducible rfl)
  simp only [Act.put, List.setIfInBounds_toArray, List.set_cons_zero, List.set_cons_succ]
  have hT3 : (w2.setCell ⟨T, 1, none⟩ (ptr q)).heap[T]? = some (.cells (tc p (ptr q) rp b) 30 (0, 0)) := by rw [set_at hT2]; rfl
  have k3 : Kept (fun n => n = T) w2 (w2.setCell ⟨T, 1, none⟩ (ptr q)) := by refine Kept.setCell (Kept.refl _ _) ?_ _; intro _; rfl
  have f3 := free_at hT3 3
  have hT4 : ((w2.setCell ⟨T, 1, none⟩ (ptr q)).setCell ⟨T, 3, none⟩ (ptr rq)).heap[T]? = some (.cells (tc p (ptr q) rp (ptr rq)) 30 (0, 0)) := by rw [set_at hT3]; rfl
  have k4 : Kept (fun n => n = T) w2 ((w2.setCell ⟨T, 1, none⟩ (ptr q)).setCell ⟨T, 3, none⟩ (ptr rq)) := by refine Kept.setCell k3 ?_ _; intro _; rfl
  refine h_step 14 (none) (Op.store 26 (Operand.tmp 15) (Operand.tmp 8)) 0 rfl rfl (by kernel_rfl) (fun _ _ _ K hK => ?_)
  have x1 : w2.cell? ⟨T, 1, none⟩ = some a := cell_at hT2 rfl
  have x3 : (w2.setCell ⟨T, 1, none⟩ (ptr q)).cell? ⟨T, 3, none⟩ = some b := cell_at hT3 rfl
  unfold ptr at f3 x3
  go_wp2_with fail
  refine hK.out _ _ ((⟨(K2.mono (fun _ _ e => e.elim)).trans k3 (fun _ _ e => e), cell_at hT3 rfl, cell_at hT3 rfl⟩ : _ ∧ _ ∧ _)) (fun hHeld => ?_)
  clear hK K
  try simp only [Act.put, List.setIfInBounds_toArray, List.set_cons_zero, List.set_cons_succ]
  refine h_take 15 (some 16) (Op.nilCheck (Operand.tmp 3)) 0 ?v13 rfl rfl (by kernel_rfl) (by kernel_rfl) (by kernel_rfl) (fun _ _ _ h => h) ?hy13 hHeld ?_
  case hy13 => (intro _ _ _ w hSw; have hcs := KS _ hSw; go_simp; try with_reducible rfl)
  simp only [Act.put, List.setIfInBounds_toArray, List.set_cons_zero, List.set_cons_succ]
  refine h_take 16 (some 17) (Op.fieldAddr 30 (Operand.tmp 16) 3) 0 ?v14 rfl rfl (by kernel_rfl) (by kernel_rfl) (by kernel_rfl) (fun _ _ _ h => h) ?hy14 hHeld ?_
  case hy14 => (intro _ _ _ w hSw; have hcs := KS _ hSw; go_simp; try with_reducible rfl)
  simp only [Act.put, List.setIfInBounds_toArray, List.set_cons_zero, List.set_cons_succ]
  refine h_step 17 (none) (Op.store 28 (Operand.tmp 17) (Operand.tmp 13)) 0 rfl rfl (by kernel_rfl) (fun _ _ _ K hK => ?_)
  go_wp2_with fail
  refine hK.out _ _ ((⟨(K2.mono (fun _ _ e => e.elim)).trans k4 (fun _ _ e => e), cell_at hT4 rfl, cell_at hT4 rfl⟩ : _ ∧ _ ∧ _)) (fun hHeld => ?_)
  clear hK K
  try simp only [Act.put, List.setIfInBounds_toArray, List.set_cons_zero, List.set_cons_succ]
  refine wpAnyH_done (by kernel_rfl) ?_ _
  have HZ : Hid (∃ q N rq R W, ((w2.setCell ⟨T, 1, none⟩ (ptr q)).setCell ⟨T, 3, none⟩ (ptr rq)).heap[T]? = some (.cells (tc p (ptr q) rp (ptr rq)) 30 (0, 0)) ∧ True) := ⟨q, N, rq, R, W, hT4, trivial⟩
  have HV := hv2.kept k4 (show ¬ q = T by omega) (show ¬ N = T by omega)
  have HX := hx2.kept k4 (show ¬ rq = T by omega) (show ¬ R = T by omega) (show ¬ W = T by omega)
  have HK : Kept (fun n => n = T) w ((w2.setCell ⟨T, 1, none⟩ (ptr q)).setCell ⟨T, 3, none⟩ (ptr rq)) := (K2.mono (fun _ _ e => e.elim)).trans k4 (fun _ _ e => e)
  clear hHeld KS HZ
  go_wp2_with fail
  go_end0
  exact ⟨rfl, q, N, rq, R, W, hT4, HV, HX, HK, hq, hN, g2.1, g2.2.1, g2.2.2, g1.1, g1.2⟩
def putAll (f : StF) (l : Ws) : StF := l.foldl (fun f t => putF f t.1 t.2) f
theorem putAll_app (f : StF) (a b : Ws) : putAll f (a ++ b) = putAll (putAll f a) b := by unfold putAll; rw [List.foldl_append]
theorem SrcR.keptM {α : Type} {cs : α → List Value} {n : Nat} (hn : ∀ a, 0 < (cs a).length) {x : Value} {l : List α} {w w' : World} {κ ν : Type} {enc : κ → Value} {encv : ν → Value} {B : Nat} {f : κ → Option ν} (h : SrcR cs n x l w) (hm : MapIn enc encv B f w) (hk : Kept (fun n => n = B) w w') : SrcR cs n x l w' := by
  obtain ⟨ao, b, o, c, e, h0, h1, hc, h2⟩ := h
  refine ⟨ao, b, o, c, e, h0, h1, hc, fun j a ha => ?_⟩
  have hr := h2 j a ha
  refine range_kept hr hk (fun eb => ?_)
  have hv := List.getElem?_eq_getElem (hn a)
  have hcell := hr 0 _ hv
  obtain ⟨es, clock, hb, _⟩ := hm
  rw [eb] at hcell
  simp [World.cell?, hb] at hcell
theorem wc_pos (t : K2 × V) : 0 < (wc t).length := by rw [wc_length]; omega
theorem take_putAll (f : StF) {l : Ws} {i : Nat} (h : i < l.length) : putAll f (l.take (i + 1)) = putF (putAll f (l.take i)) l[i].1 l[i].2 := by
  rw [List.take_succ_eq_append_getElem h, putAll_app]; rfl
theorem write_cells {w : World} {b o : Nat} {t : K2 × V} (h : w.rangeAt b o (wc t)) : w.cell? ⟨b, o, none⟩ = some (.int .i64 t.1.1) ∧ w.cell? ⟨b, o + 1, none⟩ = some (.int .i64 t.1.2) ∧ w.rangeAt b (o + 2) (vc t.2) := by
  refine ⟨h 0 _ rfl, h 1 _ rfl, fun j u hu => ?_⟩
  have : (wc t)[2 + j]? = some u := by rw [Nat.add_comm]; exact hu
  have := h _ _ this
  rw [show o + (2 + j) = o + 2 + j by omega] at this
  exact this

end Go.Proofs.Ytigfgnaakoicjaa

namespace Go.Proofs.Ytigfgnaakoicjaa
open Go.RowKit
set_option maxRecDepth 100000
set_option linter.unusedSimpArgs false

def cutV (x : V) : V := withS x (x.s.extract 0 (min x.s.size 200))
def initF (Q : Nat → K2 × V) : Nat → StF
  | 0 => fun _ => none
  | n + 1 => putF (initF Q n) (Q n).1 (cutV (Q n).2)

theorem cutV_small (x : V) : (cutV x).s.size ≤ 200 := by
  show (x.s.extract 0 (min x.s.size 200)).size ≤ 200
  rw [← bl_len, bl_extract]
  simp
  omega
theorem look_put {f : StF} {k j : K2} {x : V} : lookF (putF f k x) j = if 0 ≤ plc k ∧ j = k then x else lookF f j := by
  unfold putF lookF
  by_cases h : 0 ≤ plc k
  · rw [if_pos h]
    unfold upd
    by_cases e : j = k
    · simp [e, h]
    · simp [e]
  · rw [if_neg h, if_neg (fun e => h e.1)]
theorem initF_small (Q : Nat → K2 × V) (n : Nat) (k : K2) : (lookF (initF Q n) k).s.size ≤ 200 := by
  induction n with
  | zero => show ByteArray.empty.size ≤ 200; decide
  | succ n ih =>
    unfold initF
    rw [look_put]
    split
    · exact cutV_small _
    · exact ih

structure MakeIn (w0 : World) (T p B rp rB : Nat) (f f2 : StF) (w : World) : Prop where
  cell : w.heap[T]? = some (.cells (tc p (.pointer none) rp (.pointer none)) 30 (0, 0))
  s : StoreIn p B f w
  rs : RStoreIn rp rB f2 w
  kept : Kept (fun _ => False) w0 w
  nT : w0.heap.size ≤ T
  nB : w0.heap.size ≤ B
  nrB : w0.heap.size ≤ rB
  a2 : B ≠ rB

section
variable {w0 : World} {T p B rp rB : Nat} {f f2 f' : StF} {w w' : World}
theorem MakeIn.still (h : MakeIn w0 T p B rp rB f f2 w) (hk : Kept (fun _ => False) w w') : MakeIn w0 T p B rp rB f f2 w' := { h with cell := hk.at h.cell (fun x => x), s := h.s.still hk, rs := h.rs.still hk, kept := h.kept.thru hk }
theorem MakeIn.putS (h : MakeIn w0 T p B rp rB f f2 w) (hs : StoreIn p B f' w') (hk : Kept (fun n => n = B) w w') : MakeIn w0 T p B rp rB f' f2 w' :=
  { h with cell := hk.at h.cell (h.s.map.off h.cell), s := hs, rs := h.rs.kept hk (h.s.map.off h.rs.cell) (fun e => h.a2 e.symm), kept := h.kept.trans hk (fun k h1 h2 => by have := h.nB; omega) }
theorem MakeIn.putR (h : MakeIn w0 T p B rp rB f f2 w) (hs : RStoreIn rp rB f' w') (hk : Kept (fun n => n = rB) w w') : MakeIn w0 T p B rp rB f f' w' :=
  { h with cell := hk.at h.cell (h.rs.map.off h.cell), rs := hs, s := h.s.kept hk (h.rs.map.off h.s.cell) h.a2, kept := h.kept.trans hk (fun k h1 h2 => by have := h.nrB; omega) }
end

set_option maxHeartbeats 2000000 in
theorem keepnew_w (ao : Option Addr) (len cap lb off : Nat) (Q : Nat → K2 × V) (hao : 0 < len → ao = some ⟨lb, off, none⟩) (w : World) (hc : ∀ i, i < len → w.rangeAt lb (off + i * 19) (wc (Q i))) :
    Calls Try.prog 11 #[.slice ao len cap] w fun e w' => ∃ T p B q N rp rB rq R W, e = .returned (.pointer (some ⟨T, 0, none⟩)) ∧
      KeepIn w T p B q N rp rB rq R W (initF Q (min len 60)) (initF Q (min len 60)) (fun _ => none) (fun _ => none) w' ∧ w.heap.size ≤ T := by
  have HC : Hid (∀ i, i < len → w.rangeAt lb (off + i * 19) (wc (Q i))) := hc
  clear hc
  go_enter Try.func11, Try.ntmps11
  go_wp2_with fail
  refine (new_w w).mono ?_
  rintro e w1 ⟨p, B, rfl, hS1, hk1, hp, hB⟩
  go_wp2_with fail
  refine (rnew_w w1).mono ?_
  rintro e w2 ⟨rp, rB, rfl, hR2, hk2, hrp, hrB⟩
  obtain ⟨T, hT⟩ : ∃ T : Nat, w2.heap.size = T := ⟨_, rfl⟩
  have H0 : Hid (MakeIn w T p B rp rB (initF Q 0) (initF Q 0) (w2.alloc (.cells (tc p (.pointer none) rp (.pointer none)) 30))) := by
    have l1 := hS1.map.lt
    have s1 := hk1.size
    have s2 := hk2.size
    have k3 : Kept (fun _ => False) w2 (w2.alloc (.cells (tc p (.pointer none) rp (.pointer none)) 30)) := (Kept.refl _ _).alloc _
    exact ⟨alloc_at' _ hT, (hS1.still hk2).still k3, hR2.still k3, (hk1.thru hk2).thru k3, by omega, by omega, by omega, by omega⟩
  clear hS1 hR2 hk1 hk2 hp hB hrp hrB
  have c0 := cell_at H0.out.cell (i := 0) (v := .pointer (some ⟨p, 0, none⟩)) rfl
  unfold tc at H0 c0
  go_wp2_with fail
  obtain ⟨w3, h3⟩ : ∃ w3, w2.alloc (.cells #[.pointer (some ⟨p, 0, none⟩), .pointer none, .pointer (some ⟨rp, 0, none⟩), .pointer none] 30) = w3 := ⟨_, rfl⟩
  rw [h3] at H0
  try rw [h3]
  clear c0 h3 hT
  go_loopw [4, 5] (fun v _ wr => ∃ i : Nat, v = .int .i64 i ∧ i ≤ len ∧ i ≤ 60 ∧ Hid (MakeIn w T p B rp rB (initF Q i) (initF Q i) wr)) (fun v _ _ => 60 - (intOf v).toNat)
  case atStart => exact ⟨0, rfl, Nat.zero_le _, Nat.zero_le _, H0.out⟩
  case round =>
    obtain ⟨i, rfl, hi1, hi2, HH⟩ := hrel
    clear H0
    by_cases hlt : i < len ∧ i < 60
    · obtain ⟨hl1, hl2⟩ := hlt
      have t1 : (i : Int) < (len : Int) := by omega
      have t2 : (i : Int) < 60 := by omega
      have h0 := hao (by omega)
      subst h0
      have r1 := HC.out i hl1
      obtain ⟨⟨⟨kx, ky⟩, x⟩, hq⟩ : ∃ t, Q i = t := ⟨_, rfl⟩
      rw [hq] at r1
      have r2 : wr.rangeAt lb (off + i * 19) (wc ((kx, ky), x)) := range_kept r1 HH.out.kept (fun x => x)
      obtain ⟨X, hX⟩ : ∃ X : Nat, wr.heap.size = X := ⟨_, rfl⟩
      have hX2 : (wr.alloc (.cells (wc ((kx, ky), x)).toArray 46)).heap[X]? = some (.cells (wc ((kx, ky), x)).toArray 46 (0, 0)) := alloc_at' _ hX
      have hM := HH.out.still ((Kept.refl _ wr).alloc (.cells (wc ((kx, ky), x)).toArray 46))
      have hXW : w.heap.size ≤ X := by have := HH.out.kept.size; omega
      clear r1 HH
      go_upto_region 8 with (first | (refine list_wload rfl wide_W _ rfl lb (off + i * 19) rfl (wc ((kx, ky), x)) r2 rfl ?_) | (refine list_wnew rfl wide_W _ _ rfl X rfl (wc ((kx, ky), x)) rfl _ rfl hX rfl (wc_one _) ?_))
      generalize wr.alloc (.cells (wc ((kx, ky), x)).toArray 46) = w4 at *
      have c18 : w4.cell? ⟨X, 18, none⟩ = some (.string x.s) := cell_at hX2 rfl
      have f18 := free_at hX2 18
      obtain ⟨t, ht⟩ : ∃ t, x.s.extract 0 (min x.s.size 200) = t := ⟨_, rfl⟩
      have hX5 : (w4.setCell ⟨X, 18, none⟩ (.string t)).heap[X]? = some (.cells (wc ((kx, ky), cutV x)).toArray 46 (0, 0)) := by rw [set_at hX2]; unfold cutV; rw [ht]; rfl
      have k5 : Kept (fun n => n = X) w4 (w4.setCell ⟨X, 18, none⟩ (.string t)) := by refine Kept.setCell (Kept.refl _ _) ?_ _; intro _; rfl
      have hXT : X ≠ T := by intro e; have := hM.cell; rw [← e, hX2] at this; simp [tc, wc, vc] at this
      have hXp : X ≠ p := by intro e; have := hM.s.cell; rw [← e, hX2] at this; simp [wc, vc] at this
      have hXrp : X ≠ rp := by intro e; have := hM.rs.cell; rw [← e, hX2] at this; simp [wc, vc] at this
      have hXB : X ≠ B := hM.s.map.off hX2
      have hXrB : X ≠ rB := hM.rs.map.off hX2
      have HM5 : Hid (MakeIn w T p B rp rB (initF Q i) (initF Q i) (w4.setCell ⟨X, 18, none⟩ (.string t))) := { hM with
        cell := k5.at hM.cell (fun e => hXT e.symm), s := hM.s.kept k5 (fun e => hXp e.symm) (fun e => hXB e.symm), rs := hM.rs.kept k5 (fun e => hXrp e.symm) (fun e => hXrB e.symm), kept := hM.kept.trans k5 (fun k h1 h2 => by omega) }
      clear hM hX2 k5
      simp only [Act.put]
      go_cut [4] from 29 to 39 (fun v wx => v = .int .i64 i ∧ wx = w4.setCell ⟨X, 18, none⟩ (.string t))
      case first =>
        by_cases hm : (200 : Int) < x.s.size
        · have e1 : x.s.extract 0 200 = t := by rw [← ht, Nat.min_eq_right (by omega)]
          clear ht
          go_wp2
          go_meet
          case rel => exact ⟨rfl, rfl⟩
        · have e1 : x.s.extract 0 x.s.size = t := by rw [← ht, Nat.min_eq_left (by omega)]
          clear ht
          go_wp2
          go_meet
          case rel => exact ⟨rfl, rfl⟩
      case rest =>
        obtain ⟨rfl, hw⟩ := hcut
        rw [← hw] at HM5 hX5
        clear hw c18 f18 ht r2
        obtain ⟨y, hy⟩ : ∃ y, cutV x = y := ⟨_, rfl⟩
        rw [hy] at hX5
        have HF : Hid (initF Q (i + 1) = putF (initF Q i) (kx, ky) y) := by show putF (initF Q i) (Q i).1 (cutV (Q i).2) = _; rw [hq]; simp only; rw [hy]
        have hM := HM5.out
        obtain ⟨d0, d1, d2⟩ := write_cells (whole_range hX5)
        rw [Nat.zero_add] at d1 d2
        simp only at d0 d1 d2
        have KS : ∀ w', Kept (fun n => n = B ∨ n = rB) wc w' → (w'.cell? ⟨X, 0, none⟩ = some (.int .i64 kx) ∧ w'.cell? ⟨X, 1, none⟩ = some (.int .i64 ky) ∧ w'.cell? ⟨T, 0, none⟩ = some (.pointer (some ⟨p, 0, none⟩)) ∧ w'.cell? ⟨T, 2, none⟩ = some (.pointer (some ⟨rp, 0, none⟩))) :=
          fun w' hk' => ⟨hk'.cell d0 (by simp; omega), hk'.cell d1 (by simp; omega), hk'.cell (cell_at hM.cell rfl) (by have := hM.s.map.off hM.cell; have := hM.rs.map.off hM.cell; simp; omega), hk'.cell (cell_at hM.cell rfl) (by have := hM.s.map.off hM.cell; have := hM.rs.map.off hM.cell; simp; omega)⟩
        have KV : ∀ w', Kept (fun n => n = B ∨ n = rB) wc w' → w'.rangeAt X 2 (vc y) := fun w' hk' => range_kept d2 hk' (by simp; omega)
        go_wp2_with fail
        refine wp_region_held_drew (S := fun w' => Kept (fun n => n = B ∨ n = rB) wc w') (by kernel_rfl) ((Kept.refl _ _).drew) (fun hHeld => ?_)
        refine h_take 0 (some 40) (Op.move (Operand.tmp 3)) 22 ?v15 rfl rfl (by kernel_rfl) (by kernel_rfl) (by kernel_rfl) (fun _ _ _ h => h) ?hy15 hHeld ?_
        case hy15 => (intro _ _ _ w hSw; have hcs := KS _ hSw; go_simp; try with_reducible rfl)
        simp only [Act.put, List.setIfInBounds_toArray, List.set_cons_zero, List.set_cons_succ]
        refine h_take 1 (some 41) (Op.nilCheck (Operand.tmp 40)) 0 ?v16 rfl rfl (by kernel_rfl) (by kernel_rfl) (by kernel_rfl) (fun _ _ _ h => h) ?hy16 hHeld ?_
        case hy16 => (intro _ _ _ w hSw; have hcs := KS _ hSw; go_simp; try with_reducible rfl)
        simp only [Act.put, List.setIfInBounds_toArray, List.set_cons_zero, List.set_cons_succ]
        refine h_take 2 (some 42) (Op.fieldAddr 30 (Operand.tmp 41) 0) 0 ?v17 rfl rfl (by kernel_rfl) (by kernel_rfl) (by kernel_rfl) (fun _ _ _ h => h) ?hy17 hHeld ?_
        case hy17 => (intro _ _ _ w hSw; have hcs := KS _ hSw; go_simp; try with_reducible rfl)
        simp only [Act.put, List.setIfInBounds_toArray, List.set_cons_zero, List.set_cons_succ]
        refine h_take 3 (some 43) (Op.load 25 (Operand.tmp 42)) 25 ?v18 rfl rfl (by kernel_rfl) (by kernel_rfl) (by kernel_rfl) (fun _ _ _ h => h) ?hy18 hHeld ?_
        case hy18 => (intro _ _ _ w hSw; have hcs := KS _ hSw; go_simp; try with_reducible rfl)
        simp only [Act.put, List.setIfInBounds_toArray, List.set_cons_zero, List.set_cons_succ]
        refine h_take 4 (some 44) (Op.fieldAddr 46 (Operand.tmp 5) 0) 0 ?v19 rfl rfl (by kernel_rfl) (by kernel_rfl) (by kernel_rfl) (fun _ _ _ h => h) ?hy19 hHeld ?_
        case hy19 => (intro _ _ _ w hSw; have hcs := KS _ hSw; go_simp; try with_reducible rfl)
        simp only [Act.put, List.setIfInBounds_toArray, List.set_cons_zero, List.set_cons_succ]
        refine h_take 5 (some 45) (Op.load 44 (Operand.tmp 44)) 44 ?v20 rfl rfl (by kernel_rfl) (by kernel_rfl) (by kernel_rfl) (fun _ _ _ h => h) ?hy20 hHeld ?_
        case hy20 => (intro _ _ _ w hSw; have hcs := KS _ hSw; go_simp; try with_reducible rfl)
        simp only [Act.put, List.setIfInBounds_toArray, List.set_cons_zero, List.set_cons_succ]
        refine h_take 6 (some 46) (Op.fieldAddr 46 (Operand.tmp 5) 1) 0 ?v21 rfl rfl (by kernel_rfl) (by kernel_rfl) (by kernel_rfl) (fun _ _ _ h => h) ?hy21 hHeld ?_
        case hy21 => (intro _ _ _ w hSw; have hcs := KS _ hSw; go_simp; try with_reducible rfl)
        simp only [Act.put, List.setIfInBounds_toArray, List.set_cons_zero, List.set_cons_succ]
        refine h_take 7 (some 47) (Op.load 41 (Operand.tmp 46)) 41 (vv y) rfl rfl (by kernel_rfl) (by kernel_rfl) (by kernel_rfl) (fun _ _ _ h => h) (fun _ _ _ w hSw => exec_load rfl (load_wide wide_V (KV w hSw) rfl)) hHeld ?_
        simp only [Act.put, List.setIfInBounds_toArray, List.set_cons_zero, List.set_cons_succ]
        refine h_step 8 (some 48) (Op.call { callee := Callee.value (Operand.func 20), args := #[Operand.tmp 43, Operand.tmp 45, Operand.tmp 47], argTypes := #[25, 44, 41] }) 4 rfl rfl (by kernel_rfl) (fun _ _ _ K hK => ?_)
        go_simp
        refine (put_w p B _ kx ky y wc.drew (hM.s.still (Kept.refl _ _).drew)).mono ?_
        rintro e w5 ⟨rfl, hs5, hk5⟩
        replace hk5 : Kept (fun n => n = B) wc w5 := (Kept.refl _ wc).drew.trans hk5 (fun _ _ e => e)
        have hM5 := hM.putS hs5 hk5
        go_wp2_with fail
        refine hK.out _ _ (hk5.mono (fun _ _ e => .inl e)) (fun hHeld => ?_)
        clear hK K
        try simp only [Act.put, List.setIfInBounds_toArray, List.set_cons_zero, List.set_cons_succ]
        refine wpAnyH_done (by kernel_rfl) ?_ _
        have hX6 := hk5.at hX5 hXB
        clear hHeld KS KV hk5 hs5 hX5 hM HM5 d0 d1 d2
        obtain ⟨d0, d1, d2⟩ := write_cells (whole_range hX6)
        rw [Nat.zero_add] at d1 d2
        simp only at d0 d1 d2
        have KS : ∀ w', Kept (fun n => n = B ∨ n = rB) w5 w' → (w'.cell? ⟨X, 0, none⟩ = some (.int .i64 kx) ∧ w'.cell? ⟨X, 1, none⟩ = some (.int .i64 ky) ∧ w'.cell? ⟨T, 0, none⟩ = some (.pointer (some ⟨p, 0, none⟩)) ∧ w'.cell? ⟨T, 2, none⟩ = some (.pointer (some ⟨rp, 0, none⟩))) :=
          fun w' hk' => ⟨hk'.cell d0 (by simp; omega), hk'.cell d1 (by simp; omega), hk'.cell (cell_at hM5.cell rfl) (by have := hM5.s.map.off hM5.cell; have := hM5.rs.map.off hM5.cell; simp; omega), hk'.cell (cell_at hM5.cell rfl) (by have := hM5.s.map.off hM5.cell; have := hM5.rs.map.off hM5.cell; simp; omega)⟩
        have KV : ∀ w', Kept (fun n => n = B ∨ n = rB) w5 w' → w'.rangeAt X 2 (vc y) := fun w' hk' => range_kept d2 hk' (by simp; omega)
        go_wp2_with fail
        refine wp_region_held_drew (S := fun w' => Kept (fun n => n = B ∨ n = rB) w5 w') (by kernel_rfl) ((Kept.refl _ _).drew) (fun hHeld => ?_)
        refine h_take 0 (some 49) (Op.move (Operand.tmp 3)) 22 ?v22 rfl rfl (by kernel_rfl) (by kernel_rfl) (by kernel_rfl) (fun _ _ _ h => h) ?hy22 hHeld ?_
        case hy22 => (intro _ _ _ w hSw; have hcs := KS _ hSw; go_simp; try with_reducible rfl)
        simp only [Act.put, List.setIfInBounds_toArray, List.set_cons_zero, List.set_cons_succ]
        refine h_take 1 (some 50) (Op.nilCheck (Operand.tmp 49)) 0 ?v23 rfl rfl (by kernel_rfl) (by kernel_rfl) (by kernel_rfl) (fun _ _ _ h => h) ?hy23 hHeld ?_
        case hy23 => (intro _ _ _ w hSw; have hcs := KS _ hSw; go_simp; try with_reducible rfl)
        simp only [Act.put, List.setIfInBounds_toArray, List.set_cons_zero, List.set_cons_succ]
        refine h_take 2 (some 51) (Op.fieldAddr 30 (Operand.tmp 50) 2) 0 ?v24 rfl rfl (by kernel_rfl) (by kernel_rfl) (by kernel_rfl) (fun _ _ _ h => h) ?hy24 hHeld ?_
        case hy24 => (intro _ _ _ w hSw; have hcs := KS _ hSw; go_simp; try with_reducible rfl)
        simp only [Act.put, List.setIfInBounds_toArray, List.set_cons_zero, List.set_cons_succ]
        refine h_take 3 (some 52) (Op.load 27 (Operand.tmp 51)) 27 ?v25 rfl rfl (by kernel_rfl) (by kernel_rfl) (by kernel_rfl) (fun _ _ _ h => h) ?hy25 hHeld ?_
        case hy25 => (intro _ _ _ w hSw; have hcs := KS _ hSw; go_simp; try with_reducible rfl)
        simp only [Act.put, List.setIfInBounds_toArray, List.set_cons_zero, List.set_cons_succ]
        refine h_take 4 (some 53) (Op.fieldAddr 46 (Operand.tmp 5) 0) 0 ?v26 rfl rfl (by kernel_rfl) (by kernel_rfl) (by kernel_rfl) (fun _ _ _ h => h) ?hy26 hHeld ?_
        case hy26 => (intro _ _ _ w hSw; have hcs := KS _ hSw; go_simp; try with_reducible rfl)
        simp only [Act.put, List.setIfInBounds_toArray, List.set_cons_zero, List.set_cons_succ]
        refine h_take 5 (some 54) (Op.load 44 (Operand.tmp 53)) 44 ?v27 rfl rfl (by kernel_rfl) (by kernel_rfl) (by kernel_rfl) (fun _ _ _ h => h) ?hy27 hHeld ?_
        case hy27 => (intro _ _ _ w hSw; have hcs := KS _ hSw; go_simp; try with_reducible rfl)
        simp only [Act.put, List.setIfInBounds_toArray, List.set_cons_zero, List.set_cons_succ]
        refine h_take 6 (some 55) (Op.fieldAddr 46 (Operand.tmp 5) 1) 0 ?v28 rfl rfl (by kernel_rfl) (by kernel_rfl) (by kernel_rfl) (fun _ _ _ h => h) ?hy28 hHeld ?_
        case hy28 => (intro _ _ _ w hSw; have hcs := KS _ hSw; go_simp; try with_reducible rfl)
        simp only [Act.put, List.setIfInBounds_toArray, List.set_cons_zero, List.set_cons_succ]
        refine h_take 7 (some 56) (Op.load 41 (Operand.tmp 55)) 41 (vv y) rfl rfl (by kernel_rfl) (by kernel_rfl) (by kernel_rfl) (fun _ _ _ h => h) (fun _ _ _ w hSw => exec_load rfl (load_wide wide_V (KV w hSw) rfl)) hHeld ?_
        simp only [Act.put, List.setIfInBounds_toArray, List.set_cons_zero, List.set_cons_succ]
        refine h_step 8 (some 57) (Op.call { callee := Callee.value (Operand.func 21), args := #[Operand.tmp 52, Operand.tmp 54, Operand.tmp 56], argTypes := #[27, 44, 41] }) 4 rfl rfl (by kernel_rfl) (fun _ _ _ K hK => ?_)
        go_simp
        refine (rput_w rp rB _ kx ky y w5.drew (hM5.rs.still (Kept.refl _ _).drew)).mono ?_
        rintro e w6 ⟨rfl, hs6, hk6⟩
        replace hk6 : Kept (fun n => n = rB) w5 w6 := (Kept.refl _ w5).drew.trans hk6 (fun _ _ e => e)
        have hM6 := hM5.putR hs6 hk6
        go_wp2_with fail
        refine hK.out _ _ (hk6.mono (fun _ _ e => .inr e)) (fun hHeld => ?_)
        clear hK K
        try simp only [Act.put, List.setIfInBounds_toArray, List.set_cons_zero, List.set_cons_succ]
        refine wpAnyH_done (by kernel_rfl) ?_ _
        have HZ : Hid (MakeIn w T p B rp rB (initF Q (i + 1)) (initF Q (i + 1)) w6) := by show MakeIn _ _ _ _ _ _ _ _ _; rw [HF.out]; exact hM6
        clear hHeld KS KV hk6 hs6 hX6 hM5 hM6 d0 d1 d2 HF hy hq hao hXT hXp hXrp hXB hXrB
        go_wp2
        go_roundw
        case rel => exact ⟨i + 1, by go_num, by omega, by omega, HZ.out⟩
        case measure => simp [intOf]; omega
    · have HI : Hid (i = min len 60) := by show _ = _; omega
      have HM : Hid (MakeIn w T p B rp rB (initF Q (min len 60)) (initF Q (min len 60)) wr) := by
        have := HH.out
        rw [HI.out] at this
        exact this
      clear HH hao
      have t3 : ¬ ((i : Int) < (len : Int) ∧ (i : Int) < 60) := by omega
      clear hlt
      by_cases t4 : (i : Int) < (len : Int)
      · have t5 : ¬ (i : Int) < 60 := by omega
        clear t3
        go_wp2_with fail
        refine (two_look T p rp _ _ wr HM.out.cell).mono ?_
        rintro e w9 ⟨rfl, q', N', rq', R', W', hT9, hv9, hx9, hk9, lq, lN, lrq, lR, lW, a6, a7⟩
        have hm := HM.out
        have s1 := hm.s.map.lt
        have s2 := hm.rs.map.lt
        have s3 := hm.kept.size
        have e1 := hm.nB
        have e2 := hm.nrB
        have e3 := hm.nT
        have e4 := hm.a2
        have oB : ¬ B = T := fun e => hm.s.map.off hm.cell e.symm
        have orB : ¬ rB = T := fun e => hm.rs.map.off hm.cell e.symm
        have hpT : ¬ p = T := fun e => by have := hm.cell; rw [← e, hm.s.cell] at this; simp [tc] at this
        have hrpT : ¬ rp = T := fun e => by have := hm.cell; rw [← e, hm.rs.cell] at this; simp [tc] at this
        have HZ : Hid (KeepIn w T p B q' N' rp rB rq' R' W' (initF Q (min len 60)) (initF Q (min len 60)) (fun _ => none) (fun _ => none) w9 ∧ w.heap.size ≤ T) := by
          refine ⟨⟨hT9, ?_⟩, e3⟩
          exact { s := hm.s.kept hk9 hpT oB, v := hv9, rs := hm.rs.kept hk9 hrpT orB, rv := hx9, kept := hm.kept.trans hk9 (fun k h1 h2 => by omega),
                  nB := by omega, nN := by omega, nrB := by omega, nR := by omega, nW := by omega,
                  a1 := by omega, a2 := by omega, a3 := by omega, a4 := by omega, a5 := by omega, a6 := a6, a7 := a7, a8 := by omega, a9 := by omega }
        have c1 : w9.cell? ⟨T, 1, none⟩ = some (.pointer (some ⟨q', 0, none⟩)) := cell_at hT9 rfl
        clear hm HM hv9 hx9 hk9 hT9 HI
        go_wp2_with fail
        go_ret
        exact ⟨_, _, _, _, _, _, _, _, _, _, rfl, HZ.out⟩
      · clear t3
        go_wp2_with fail
        refine (two_look T p rp _ _ wr HM.out.cell).mono ?_
        rintro e w9 ⟨rfl, q', N', rq', R', W', hT9, hv9, hx9, hk9, lq, lN, lrq, lR, lW, a6, a7⟩
        have hm := HM.out
        have s1 := hm.s.map.lt
        have s2 := hm.rs.map.lt
        have s3 := hm.kept.size
        have e1 := hm.nB
        have e2 := hm.nrB
        have e3 := hm.nT
        have e4 := hm.a2
        have oB : ¬ B = T := fun e => hm.s.map.off hm.cell e.symm
        have orB : ¬ rB = T := fun e => hm.rs.map.off hm.cell e.symm
        have hpT : ¬ p = T := fun e => by have := hm.cell; rw [← e, hm.s.cell] at this; simp [tc] at this
        have hrpT : ¬ rp = T := fun e => by have := hm.cell; rw [← e, hm.rs.cell] at this; simp [tc] at this
        have HZ : Hid (KeepIn w T p B q' N' rp rB rq' R' W' (initF Q (min len 60)) (initF Q (min len 60)) (fun _ => none) (fun _ => none) w9 ∧ w.heap.size ≤ T) := by
          refine ⟨⟨hT9, ?_⟩, e3⟩
          exact { s := hm.s.kept hk9 hpT oB, v := hv9, rs := hm.rs.kept hk9 hrpT orB, rv := hx9, kept := hm.kept.trans hk9 (fun k h1 h2 => by omega),
                  nB := by omega, nN := by omega, nrB := by omega, nR := by omega, nW := by omega,
                  a1 := by omega, a2 := by omega, a3 := by omega, a4 := by omega, a5 := by omega, a6 := a6, a7 := a7, a8 := by omega, a9 := by omega }
        have c1 : w9.cell? ⟨T, 1, none⟩ = some (.pointer (some ⟨q', 0, none⟩)) := cell_at hT9 rfl
        clear hm HM hv9 hx9 hk9 hT9 HI
        go_wp2_with fail
        go_ret
        exact ⟨_, _, _, _, _, _, _, _, _, _, rfl, HZ.out⟩
end Go.Proofs.Ytigfgnaakoicjaa

namespace Go.Proofs.Ytigfgnaakoicjaa
open Go.RowKit

theorem tmod_facts (n m : Int) (h : 0 < m) : -m < n.tmod m ∧ n.tmod m < m ∧ (n.tmod m < 0 → n % m = n.tmod m + m) ∧ (0 ≤ n.tmod m → n % m = n.tmod m) := by
  have a := Int.lt_tmod_of_pos n h
  have b := Int.tmod_lt_of_pos n h
  have e : n % m = (n.tmod m) % m := by
    rw [Int.tmod_def, Int.sub_mul_emod_self_left]
  refine ⟨a, b, ?_, ?_⟩
  · intro c
    rw [e, ← Int.add_emod_right]
    exact Int.emod_eq_of_lt (by omega) (by omega)
  · intro c
    rw [e]
    exact Int.emod_eq_of_lt c b



set_option maxHeartbeats 400000 in
theorem within_any (n lo hi : Int) (h1 : -1152921504606846976 ≤ lo) (h2 : lo ≤ hi) (h3 : hi ≤ 1152921504606846976) (w : World) :
    Calls Try.prog 10 #[.int .i64 n, .int .i64 lo, .int .i64 hi] w fun e w' => e = .returned (.int .i64 (lo + n % (hi - lo + 1))) ∧ w' = w := by
  obtain ⟨t1, t2, t3, t4⟩ := tmod_facts n (hi - lo + 1) (by omega)
  have T3 : Hid _ := t3
  have T4 : Hid _ := t4
  clear t3 t4
  go_enter Try.func10, Try.ntmps10
  go_wp2
  · go_ret
    refine ⟨ret_int ?_, rfl⟩
    rw [T3.out (by assumption)]
    omega
  · go_ret
    refine ⟨ret_int ?_, rfl⟩
    rw [T4.out (by assumption)]
end Go.Proofs.Ytigfgnaakoicjaa
