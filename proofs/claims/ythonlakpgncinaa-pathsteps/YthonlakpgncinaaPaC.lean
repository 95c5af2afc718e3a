
/- Calls on a view that a statement holds; a new tree; the closed sentence; no conditions but lengths. -/
import Derived.Test.YthonlakpgncinaaPaT
import Derived.Test.YthonlakpgncinaaPaB
import Derived.Deep.CutBlock
namespace Go.Proofs.Ythonlakpgncinaa
open Go.RowKit
set_option maxRecDepth 100000
set_option linter.unusedSimpArgs false

theorem small_steps {f : StF} (l : List Bs) {g : VwF} (a : Int) (h : Small f g) : Small f (stepsT f g a l) := by
  induction l generalizing g a with
  | nil => exact h
  | cons s l ih =>
    cases hfo : foundE (dirE f g a) s with
    | none => rw [(steps_no l hfo).2]; exact h.find _
    | some n =>
      cases hj : isI f (findT g a) n with
      | false => rw [(steps_gone l hfo hj).2]; exact (h.find _).find _
      | true => rw [(steps_on l hfo hj).2]; exact ih n ((h.find _).find _)
theorem small_along {f : StF} {g : VwF} (h : Small f g) (a : Int) (l : List Bs) : Small f (alongT f g a l) := by
  unfold alongT
  split
  · exact small_steps l a (h.find _)
  · exact h.find _
theorem small_walk {f : StF} {g : VwF} (h : Small f g) (c : Int) (p : Bs) : Small f (walkT f g c p) := by
  unfold walkT
  split
  · exact small_along h _ _
  · exact h
theorem small_par {f : StF} {g : VwF} (h : Small f g) (c : Int) (p : Bs) : Small f (parT f g c p) := by
  unfold parT
  split
  · split
    · exact small_along h _ _
    · exact (small_along h _ _).find _
  · exact h
theorem few_all {f : StF} {g : VwF} (h : Small f g) (j : Int) : (findV f g j).s.size ≤ 100000 := by have := h.found j; omega

section
variable {w0 : World} {T p B q N : Nat} {g : VwF} {w : World}
theorem side_walk (h : SideIn w0 T p B q N g w) (c : Int) (s : ByteArray) (hs : s.size ≤ 100000) : Calls Try.prog 8 #[.pointer (some ⟨q, 0, none⟩), .int .i64 c, .string s] w
    fun e w' => e = .returned (foundV (walkA f0 g c (bl s))) ∧ SideIn w0 T p B q N (walkT f0 g c (bl s)) w' ∧ Kept (fun n => n = N) w w' := by
  refine (pwalk_w q N p B f0 g c s hs w h.v h.s h.ne (few_all h.sm)).mono ?_
  rintro e w1 ⟨rfl, hv, hk⟩
  exact ⟨rfl, h.put hv (small_walk h.sm c _) hk, hk⟩
theorem side_par (h : SideIn w0 T p B q N g w) (c : Int) (s : ByteArray) (hs : s.size ≤ 100000) : Calls Try.prog 9 #[.pointer (some ⟨q, 0, none⟩), .int .i64 c, .string s] w
    fun e w' => e = .returned (parV (parA f0 g c (bl s))) ∧ SideIn w0 T p B q N (parT f0 g c (bl s)) w' ∧ Kept (fun n => n = N) w w' := by
  refine (ppar_w q N p B f0 g c s hs w h.v h.s h.ne (few_all h.sm)).mono ?_
  rintro e w1 ⟨rfl, hv, hk⟩
  exact ⟨rfl, h.put hv (small_par h.sm c _) hk, hk⟩
theorem side_is (h : SideIn w0 T p B q N g w) (i : Int) : Calls Try.prog 20 #[.pointer (some ⟨q, 0, none⟩), .int .i64 i] w
    fun e w' => e = .returned (.bool (isI f0 g i)) ∧ SideIn w0 T p B q N (findT g i) w' ∧ Kept (fun n => n = N) w w' := by
  refine (is_w q N p B f0 g i w h.v h.s h.ne).mono ?_
  rintro e w1 ⟨rfl, hv, hk⟩
  exact ⟨rfl, h.put hv (h.sm.find i) hk, hk⟩
end

def t1 : VwF := allocT f0 g0 1
def t2 : VwF := allocT f0 t1 1
def t3 : VwF := allocT f0 t2 2
def t4 : VwF := addT f0 t3 1 [46] 1
def t5 : VwF := addT f0 t4 1 [46, 46] 1
def t6 : VwF := addT f0 t5 1 [97] 2
def t7 : VwF := addT f0 t6 2 [46] 2
def t8 : VwF := addT f0 t7 2 [46, 46] 1
def t9 : VwF := addT f0 t8 2 [98] 3
def tA : Nat → VwF
  | 0 => g0
  | 1 => t1
  | 2 => t2
  | _ => t3
def tY : Nat → Int
  | 0 => 1
  | 1 => 1
  | _ => 2
theorem tA_next : ∀ i : Nat, i < 3 → tA (i + 1) = allocT f0 (tA i) (tY i) := by
  intro i hi
  rcases i with _ | _ | _ | i
  · rfl
  · rfl
  · rfl
  · omega
theorem tA_ok : ∀ i : Fin 3, allocA f0 (tA i.val) = (i.val : Int) + 1 := by decide +kernel
theorem ok4 : addOk f0 t3 1 [46] 1 = true := by decide +kernel
theorem ok5 : addOk f0 t4 1 [46, 46] 1 = true := by decide +kernel
theorem ok6 : addOk f0 t5 1 [97] 2 = true := by decide +kernel
theorem ok7 : addOk f0 t6 2 [46] 2 = true := by decide +kernel
theorem ok8 : addOk f0 t7 2 [46, 46] 1 = true := by decide +kernel
theorem ok9 : addOk f0 t8 2 [98] 3 = true := by decide +kernel
end Go.Proofs.Ythonlakpgncinaa
