
/- A grown tree: the asks are made one behind the other; no conditions. -/
import Derived.Test.YthonlakpgncinaaPaG
import Derived.Test.YthonlakpgncinaaOpenArgs
import Derived.Deep.CutBlock
namespace Go.Proofs.Ythonlakpgncinaa
open Go.RowKit
set_option maxRecDepth 100000
set_option linter.unusedSimpArgs false

theorem letters : ∀ k : Fin 12, Nm.rightF [UInt8.ofNat (97 + k.val)] = true ∧ ([UInt8.ofNat (97 + k.val)] : Bs) ≠ [46] ∧ ([UInt8.ofNat (97 + k.val)] : Bs) ≠ [46, 46] ∧ (UInt8.ofNat (97 + k.val)).toNat = 97 + k.val := by decide +kernel
theorem letter {b : Int} (h1 : 97 ≤ b) (h2 : b ≤ 108) : ∃ c : UInt8, (c.toNat : Int) = b ∧ Nm.rightF [c] = true ∧ ([c] : Bs) ≠ [46] ∧ ([c] : Bs) ≠ [46, 46] := by
  obtain ⟨x1, x2, x3, x4⟩ := letters ⟨(b - 97).toNat, by omega⟩
  refine ⟨_, ?_, x1, x2, x3⟩
  rw [x4]
  show ((97 + (b - 97).toNat : Nat) : Int) = b
  omega

/-! The first tree. -/
theorem t_find (j : Int) : findV f0 t3 j = if j = 3 then numV 2 else if j = 2 then numV 1 else if j = 1 then numV 1 else zeroV := by
  have a1 : allocA f0 g0 = 1 := by decide +kernel
  have a2 : allocA f0 t1 = 2 := by decide +kernel
  have a3 : allocA f0 t2 = 3 := by decide +kernel
  have z : ∀ j, findV f0 g0 j = zeroV := by
    intro j
    have h : vgetF f0 g0 (10, j) = zeroV := by unfold vgetF; split <;> rfl
    unfold findV
    rw [h]
    split
    · split <;> rfl
    · rfl
  rw [show t3 = allocT f0 t2 2 from rfl, alloc_find (by decide) (by omega), a3]
  split
  · rfl
  · rw [show t2 = allocT f0 t1 1 from rfl, alloc_find (by decide) (by omega), a2]
    split
    · rfl
    · rw [show t1 = allocT f0 g0 1 from rfl, alloc_find (by decide) (by omega), a1]
      split
      · rfl
      · exact z j
def oA : Bs → Option Int := upd (upd (upd (fun _ => none) [46] 1) [46, 46] 1) [97] 2
def oB : Bs → Option Int := upd (upd (upd (fun _ => none) [46] 2) [46, 46] 1) [98] 3
theorem t_n0 (j : Int) : (findV f0 t9 j).n0 = if j = 3 then 2 else if j = 2 then 1 else if j = 1 then 1 else 0 := by
  rw [show t9 = addT f0 t8 2 [98] 3 from rfl, add_n0, show t8 = addT f0 t7 2 [46, 46] 1 from rfl, add_n0, show t7 = addT f0 t6 2 [46] 2 from rfl, add_n0, show t6 = addT f0 t5 1 [97] 2 from rfl, add_n0, show t5 = addT f0 t4 1 [46, 46] 1 from rfl, add_n0, show t4 = addT f0 t3 1 [46] 1 from rfl, add_n0, t_find]
  split
  · rfl
  · split
    · rfl
    · split <;> rfl
theorem t_dir (j : Int) : isDirF f0 t9 j = decide (j = 1 ∨ j = 2) := by
  unfold isDirF
  rw [t_n0]
  apply decide_eq_decide.2
  split
  · omega
  · split
    · omega
    · split <;> omega
theorem t_ea : dirE f0 t9 1 = [([46], 1), ([46, 46], 1), ([97], 2)] := by decide +kernel
theorem t_eb : dirE f0 t9 2 = [([46], 2), ([46, 46], 1), ([98], 3)] := by decide +kernel
theorem tab3 {a b c : Bs} {i j k : Int} (h : a ≠ b ∧ a ≠ c ∧ b ≠ c) (hi : hereB i = true) (hj : hereB j = true) (hk : hereB k = true) (ra : Nm.rightF a = true) (rb : Nm.rightF b = true) (rc : Nm.rightF c = true) : TabE [(a, i), (b, j), (c, k)] (upd (upd (upd (fun _ => none) a i) b j) c k) := by
  obtain ⟨h1, h2, h3⟩ := h
  have hn : namesE [(a, i), (b, j), (c, k)] = [a, b, c] := by unfold namesE; simp [hi, hj, hk]
  refine ⟨by simp, by rw [hn]; simp [h1, h2, h3], fun s n => ?_, fun s hs => ?_⟩
  · unfold upd
    simp only [List.mem_cons, Prod.mk.injEq, List.not_mem_nil, or_false]
    constructor
    · intro e
      split at e
      · rename_i e1; obtain rfl := Option.some.inj e; exact ⟨.inr (.inr ⟨e1, rfl⟩), hk⟩
      · split at e
        · rename_i e1; obtain rfl := Option.some.inj e; exact ⟨.inr (.inl ⟨e1, rfl⟩), hj⟩
        · split at e
          · rename_i e1; obtain rfl := Option.some.inj e; exact ⟨.inl ⟨e1, rfl⟩, hi⟩
          · cases e
    · rintro ⟨⟨rfl, rfl⟩ | ⟨rfl, rfl⟩ | ⟨rfl, rfl⟩, -⟩
      · rw [if_neg h2, if_neg h1, if_pos rfl]
      · rw [if_neg h3, if_pos rfl]
      · rw [if_pos rfl]
  · unfold upd at hs
    split at hs
    · rename_i e; rw [e]; exact rc
    · split at hs
      · rename_i e; rw [e]; exact rb
      · split at hs
        · rename_i e; rw [e]; exact ra
        · simp at hs
theorem tree_new : TreeF t9 3 (fun d => if d = 2 then oB else oA) where
  low := by decide
  hi := by decide
  bits := by decide +kernel
  is := fun i => by
    unfold isI
    rw [t_n0]
    apply decide_eq_decide.2
    split
    · omega
    · split
      · omega
      · split <;> omega
  root := by rw [t_dir]; decide
  tab := fun d hd => by
    rw [t_dir] at hd
    rcases of_decide_eq_true hd with rfl | rfl
    · rw [t_ea, if_neg (by decide)]; exact tab3 (by decide) rfl rfl rfl (by decide) (by decide) (by decide)
    · rw [t_eb, if_pos rfl]; exact tab3 (by decide) rfl rfl rfl (by decide) (by decide) (by decide)
  dot := fun d hd => by
    rw [t_dir] at hd
    rcases of_decide_eq_true hd with rfl | rfl <;> decide
  dots := fun d hd => by
    rw [t_dir] at hd
    rcases of_decide_eq_true hd with rfl | rfl
    · exact ⟨1, by decide⟩
    · exact ⟨1, by decide⟩
  kid := fun d s n hd hn => by
    rw [t_dir] at hd
    rcases of_decide_eq_true hd with rfl | rfl
    · rw [if_neg (by decide)] at hn
      unfold oA upd at hn
      by_cases e1 : s = [97]
      · rw [if_pos e1] at hn
        obtain rfl := Option.some.inj hn
        exact ⟨by decide, fun _ _ _ => by decide⟩
      · rw [if_neg e1] at hn
        by_cases e2 : s = [46, 46]
        · rw [if_pos e2] at hn
          obtain rfl := Option.some.inj hn
          exact ⟨by decide, fun _ y => absurd e2 y⟩
        · rw [if_neg e2] at hn
          by_cases e3 : s = [46]
          · rw [if_pos e3] at hn
            obtain rfl := Option.some.inj hn
            exact ⟨by decide, fun y => absurd e3 y⟩
          · rw [if_neg e3] at hn; cases hn
    · rw [if_pos rfl] at hn
      unfold oB upd at hn
      by_cases e1 : s = [98]
      · rw [if_pos e1] at hn
        obtain rfl := Option.some.inj hn
        exact ⟨by decide, fun _ _ y => by rw [t_dir] at y; exact absurd y (by decide)⟩
      · rw [if_neg e1] at hn
        by_cases e2 : s = [46, 46]
        · rw [if_pos e2] at hn
          obtain rfl := Option.some.inj hn
          exact ⟨by decide, fun _ y => absurd e2 y⟩
        · rw [if_neg e2] at hn
          by_cases e3 : s = [46]
          · rw [if_pos e3] at hn
            obtain rfl := Option.some.inj hn
            exact ⟨by decide, fun y => absurd e3 y⟩
          · rw [if_neg e3] at hn; cases hn
end Go.Proofs.Ythonlakpgncinaa
