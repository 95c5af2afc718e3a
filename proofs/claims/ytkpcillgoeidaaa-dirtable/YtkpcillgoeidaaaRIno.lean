
/- What the reference's inodes do when they are called: Is, Alloc; no conditions. -/
import Derived.Test.YtkpcillgoeidaaaAlloc
import Derived.Test.YtkpcillgoeidaaaGameF
import Derived.Deep.CutBlock
namespace Go.Proofs.Ytkpcillgoeidaaa
open Go.RowKit
set_option maxRecDepth 100000
set_option linter.unusedSimpArgs false

/-- The reference's view and its store. -/
structure RBoth (q R W p B : Nat) (f : StF) (g : VwF) (w : World) : Prop where
  v : RViewIn q R W p g w
  s : RStoreIn p B f w
  a1 : R ≠ B
  a2 : W ≠ B
def RW (R W : Nat) : Nat → Prop := fun n => n = R ∨ n = W

section
variable {q R W p B : Nat} {f : StF} {g : VwF} {w w' : World}
theorem RBoth.still (h : RBoth q R W p B f g w) (hk : Kept (fun _ => False) w w') : RBoth q R W p B f g w' := { h with v := h.v.still hk, s := h.s.still hk }
theorem RBoth.kept {X : Nat → Prop} (h : RBoth q R W p B f g w) (hk : Kept X w w') (x1 : ¬ X q) (x2 : ¬ X R) (x3 : ¬ X W) (x4 : ¬ X p) (x5 : ¬ X B) : RBoth q R W p B f g w' := { h with v := h.v.kept hk x1 x2 x3, s := h.s.kept hk x4 x5 }
theorem RBoth.lt (h : RBoth q R W p B f g w) : q < w.heap.size ∧ R < w.heap.size ∧ W < w.heap.size ∧ p < w.heap.size ∧ B < w.heap.size := ⟨lt_at h.v.cell, h.v.r.lt, h.v.w.lt, lt_at h.s.cell, h.s.map.lt⟩
end

theorem rg_w {q R W p B : Nat} {f : StF} {g : VwF} {w : World} (h : RBoth q R W p B f g w) (x y : Int) : Calls Try.prog 47 #[.pointer (some ⟨q, 0, none⟩), .agg #[.int .i64 x, .int .i64 y]] w
    fun e w' => e = .returned (vv (vgetF f g (x, y))) ∧ RBoth q R W p B f (vgetT g (x, y)) w' ∧ Kept (RW R W) w w' := by
  refine (rvget_w q R W p B f g x y w h.v h.s h.a1).mono ?_
  rintro e w1 ⟨rfl, hv, hk⟩
  exact ⟨rfl, { h with v := hv, s := h.s.kept hk (fun e => h.v.r.off h.s.cell e) (fun e => h.a1 e.symm) }, hk.mono (fun _ _ e => .inl e)⟩
theorem rp_w {q R W p B : Nat} {f : StF} {g : VwF} {w : World} (h : RBoth q R W p B f g w) (x y : Int) (v : V) : Calls Try.prog 72 #[.pointer (some ⟨q, 0, none⟩), .agg #[.int .i64 x, .int .i64 y], vv v] w
    fun e w' => e = .returned (.tuple #[]) ∧ RBoth q R W p B f (vputT g (x, y) v) w' ∧ Kept (RW R W) w w' := by
  refine (rvput_w q R W p g x y v w h.v).mono ?_
  rintro e w1 ⟨rfl, hv, hk⟩
  exact ⟨rfl, { h with v := hv, s := h.s.kept hk (fun e => h.v.w.off h.s.cell e) (fun e => h.a2 e.symm) }, hk.mono (fun _ _ e => .inr e)⟩

def av (x : V) : Value := .agg ((vc x).toArray.extract 0 16)
theorem field_arr (x : V) (w : World) : (Instr.field 64 (vv x) 0).run Try.prog w = .ok (av x) w := by kernel_rfl
theorem field_str (x : V) (w : World) : (Instr.field 64 (vv x) 1).run Try.prog w = .ok (.string x.s) w := by kernel_rfl
theorem index_n0 (x : V) (w : World) : (Instr.index 62 (av x) (.int .i64 0)).run Try.prog w = .ok (.int .i64 x.n0) w := by kernel_rfl

theorem get_twice {f : StF} {g : VwF} {k : K2} : vgetF f (vgetT g k) k = vgetF f g k ∧ vgetT (vgetT g k) k = vgetT g k := by
  unfold vgetF vgetT
  by_cases h : 0 ≤ plc k
  · simp only [if_pos h]
    constructor
    · rw [note_upd, if_pos rfl]
    · rw [note_upd, if_pos rfl]
      funext j
      unfold upd
      split <;> rfl
  · simp only [if_neg h]
    exact ⟨trivial, trivial⟩

theorem ris_w {q R W p B : Nat} {f : StF} {g : VwF} {w : World} (h : RBoth q R W p B f g w) (i : Int) : Calls Try.prog 53 #[.pointer (some ⟨q, 0, none⟩), .int .i64 i] w
    fun e w' => e = .returned (.bool (isI f g i)) ∧ RBoth q R W p B f (findT g i) w' ∧ Kept (RW R W) w w' := by
  by_cases hr : 1 ≤ i ∧ i < 16
  · have HT : Hid (findT g i = vgetT g (10, i)) := by show _ = _; unfold findT; rw [if_pos hr]
    have HI : Hid (isI f g i = ((vgetF f g (10, i)).n0 != 0)) := by
      show _ = _
      unfold isI findV
      rw [if_pos hr]
      by_cases h0 : (vgetF f g (10, i)).n0 = 0
      · rw [if_pos h0, h0]; rfl
      · rw [if_neg h0]; simp [h0]
    obtain ⟨r1, r2⟩ := hr
    go_enter Try.func53, Try.ntmps53
    go_wp2_with fail
    refine (rkey_w i _).mono ?_
    rintro e w1 ⟨rfl, hk1⟩
    go_wp2_with fail
    refine (rg_w (h.still hk1) 10 i).mono ?_
    rintro e w2 ⟨rfl, hv2, hk2⟩
    have HZ : Hid (RBoth q R W p B f (findT g i) w2 ∧ Kept (RW R W) w w2) := ⟨by rw [HT.out]; exact hv2, (hk1.mono (fun _ _ e => e.elim)).trans hk2 (fun _ _ e => e)⟩
    have hf := field_arr (vgetF f g (10, i)) w2
    have hx := index_n0 (vgetF f g (10, i)) w2
    clear hv2 hk2 hk1 h
    generalize vgetF f g (10, i) = x at *
    go_wp2
    go_ret
    exact ⟨by rw [HI.out]; rfl, HZ.out⟩
  · have HT : Hid (findT g i = g ∧ isI f g i = false) := by
      refine ⟨by unfold findT; rw [if_neg hr], ?_⟩
      unfold isI findV
      rw [if_neg hr]; rfl
    have HZ : Hid (RBoth q R W p B f (findT g i) w ∧ Kept (RW R W) w w) := ⟨by rw [HT.out.1]; exact h, Kept.refl _ _⟩
    clear h
    by_cases r1 : 1 ≤ i
    · have r2 : ¬ i < 16 := by omega
      clear hr
      go_enter Try.func53, Try.ntmps53
      go_wp2
      go_ret
      exact ⟨by rw [HT.out.2]; rfl, HZ.out⟩
    · clear hr
      go_enter Try.func53, Try.ntmps53
      go_wp2
      go_ret
      exact ⟨by rw [HT.out.2]; rfl, HZ.out⟩

end Go.Proofs.Ytkpcillgoeidaaa
