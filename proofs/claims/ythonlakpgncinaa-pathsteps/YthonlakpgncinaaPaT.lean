
/- A tree of directories: what a way of names comes to in it; paths as bytes; no conditions but lengths. -/
import Derived.Test.YthonlakpgncinaaDiT
import Derived.Test.YthonlakpgncinaaPaA
namespace Go.Proofs.Ythonlakpgncinaa
open Go.RowKit
set_option maxRecDepth 100000

/-! What a path's bytes are cut into. -/
theorem cut_join (a b c : Bs) : Nm.cutF (a ++ 47 :: b) c = Nm.cutF a c ++ Nm.cutF b [] := by
  induction a generalizing c with
  | nil => show Nm.cutF (47 :: b) c = _; rw [Nm.cut_slash, Nm.cut_nil]
  | cons x a ih =>
    show Nm.cutF (x :: (a ++ 47 :: b)) c = _
    by_cases h : x = 47
    · subst h
      rw [Nm.cut_slash, Nm.cut_slash, ih, List.append_assoc]
    · rw [Nm.cut_other h, Nm.cut_other h, ih]
theorem cut_word {s : Bs} (h : (47 : UInt8) ∉ s) (c : Bs) : Nm.cutF s c = Nm.oneF (c ++ s) := by
  induction s generalizing c with
  | nil => rw [Nm.cut_nil, List.append_nil]
  | cons x s ih =>
    have hx : x ≠ 47 := fun e => h (by simp [e])
    rw [Nm.cut_other hx, ih (fun e => h (List.mem_cons_of_mem _ e)), List.append_assoc]
    rfl
theorem cut_name {s : Bs} (h : Nm.rightF s = true) : Nm.cutF s [] = [s] := by
  obtain ⟨h1, -, h2, -⟩ := Nm.right_iff.1 h
  rw [cut_word h2, List.nil_append, Nm.oneF, if_neg (by intro e; rw [e] at h1; simp at h1)]
theorem cut_lead (s : Bs) : Nm.cutF (47 :: s) [] = Nm.cutF s [] := by rw [Nm.cut_slash, Nm.oneF, if_pos rfl]; rfl
theorem cut_trail (s : Bs) : Nm.cutF (s ++ [47]) [] = Nm.cutF s [] := by rw [cut_join, Nm.cut_nil, Nm.oneF, if_pos rfl, List.append_nil]

theorem right_dot : Nm.rightF [46] = true ∧ Nm.rightF [46, 46] = true := by decide
/-- A path that is one: its names, and whether it begins at the root. -/
theorem path_is {p : Bs} (h1 : 1 ≤ p.length) (h2 : p.length ≤ 60) (hr : ∀ x ∈ Nm.cutF p [], Nm.rightF x = true) : Nm.okF p = true ∧ Nm.namesF p = Nm.cutF p [] ∧ Nm.absF p = decide (p[0]? = some 47) := by
  have h := Nm.ok_yes ⟨h1, h2⟩ hr
  exact ⟨h, (Nm.names_yes h).1, (Nm.names_yes h).2⟩
theorem path_not {p x : Bs} (hx : x ∈ Nm.cutF p []) (h : Nm.rightF x = false) : Nm.okF p = false := Nm.ok_bad hx h

/-! Finding nothing but reads. -/
theorem isI_eq {f f' : StF} {g g' : VwF} (h : ∀ j, findV f g j = findV f' g' j) (a : Int) : isI f g a = isI f' g' a := by unfold isI; rw [h]
theorem isD_eq {f f' : StF} {g g' : VwF} (h : ∀ j, findV f g j = findV f' g' j) (a : Int) : isDirF f g a = isDirF f' g' a := by unfold isDirF; rw [h]
theorem steps_eq {f : StF} {l : List Bs} {g g' : VwF} {a : Int} (h : ∀ j, findV f g j = findV f g' j) : stepsA f g a l = stepsA f g' a l := by
  induction l generalizing g g' a with
  | nil => rfl
  | cons s l ih =>
    have hd : dirE f g a = dirE f g' a := dirE_eq (h a)
    have hf : ∀ x y : Int, ∀ j, findV f (findT (findT g x) y) j = findV f (findT (findT g' x) y) j := fun x y j => by rw [find_find, find_find, find_find, find_find, h]
    cases hfo : foundE (dirE f g a) s with
    | none => rw [(steps_no l hfo).1, (steps_no l (by rw [← hd]; exact hfo)).1]
    | some n =>
      have hi : isI f (findT g a) n = isI f (findT g' a) n := isI_eq (fun j => by rw [find_find, find_find, h]) n
      cases hj : isI f (findT g a) n with
      | false => rw [(steps_gone l hfo hj).1, (steps_gone l (by rw [← hd]; exact hfo) (by rw [← hi]; exact hj)).1]
      | true => rw [(steps_on l hfo hj).1, (steps_on l (by rw [← hd]; exact hfo) (by rw [← hi]; exact hj)).1, ih (hf a n)]
theorem steps_find {f : StF} {l : List Bs} {g : VwF} {j a : Int} : stepsA f (findT g j) a l = stepsA f g a l := steps_eq (fun _ => find_find _ _ _ _)
theorem walk_eq {f : StF} {g g' : VwF} (h : ∀ j, findV f g j = findV f g' j) (c : Int) (p : Bs) : walkA f g c p = walkA f g' c p := by
  unfold walkA alongA
  rw [isI_eq h, steps_find, steps_find, steps_eq h]
theorem stepsT_find (f : StF) (l : List Bs) (g : VwF) (a : Int) (j : Int) : findV f (stepsT f g a l) j = findV f g j := by
  induction l generalizing g a with
  | nil => rfl
  | cons s l ih =>
    cases hfo : foundE (dirE f g a) s with
    | none => rw [(steps_no l hfo).2, find_find]
    | some n =>
      cases hj : isI f (findT g a) n with
      | false => rw [(steps_gone l hfo hj).2, find_find, find_find]
      | true => rw [(steps_on l hfo hj).2, ih, find_find, find_find]
theorem alongT_find (f : StF) (l : List Bs) (g : VwF) (a : Int) (j : Int) : findV f (alongT f g a l) j = findV f g j := by
  unfold alongT
  split
  · rw [stepsT_find, find_find]
  · rw [find_find]
theorem walkT_find (f : StF) (g : VwF) (c : Int) (p : Bs) (j : Int) : findV f (walkT f g c p) j = findV f g j := by
  unfold walkT
  split
  · exact alongT_find _ _ _ _ _
  · rfl
theorem parT_find (f : StF) (g : VwF) (c : Int) (p : Bs) (j : Int) : findV f (parT f g c p) j = findV f g j := by
  unfold parT
  split
  · split
    · exact alongT_find _ _ _ _ _
    · rw [find_find]; exact alongT_find _ _ _ _ _
  · rfl
theorem along_eq {f : StF} {g g' : VwF} (h : ∀ j, findV f g j = findV f g' j) (a : Int) (l : List Bs) : alongA f g a l = alongA f g' a l := by
  unfold alongA
  rw [isI_eq h, steps_find, steps_find, steps_eq h]
theorem par_eq {f : StF} {g g' : VwF} (h : ∀ j, findV f g j = findV f g' j) (c : Int) (p : Bs) : parA f g c p = parA f g' c p := by
  unfold parA
  simp only [along_eq h]
  split
  · split
    · rfl
    · rename_i d _
      rw [isD_eq (f' := f) (g' := alongT f g' (headF c (Nm.absF p)) (Nm.namesF p).dropLast) (fun j => by rw [alongT_find, alongT_find, h])]
  · rfl

/-! The tree. -/
structure TreeF (g : VwF) (k : Nat) (O : Int → Bs → Option Int) : Prop where
  low : 3 ≤ k
  hi : k ≤ 12
  bits : (tblF f0 g).n0 = ((2 ^ (k + 1) - 2 : Nat) : Int)
  is : ∀ i, isI f0 g i = decide (1 ≤ i ∧ i ≤ (k : Int))
  root : isDirF f0 g 1 = true
  tab : ∀ d, isDirF f0 g d = true → TabE (dirE f0 g d) (O d)
  dot : ∀ d, isDirF f0 g d = true → O d [46] = some d
  dots : ∀ d, isDirF f0 g d = true → ∃ e, O d [46, 46] = some e
  kid : ∀ d s n, isDirF f0 g d = true → O d s = some n → (1 ≤ n ∧ n ≤ (k : Int)) ∧ (s ≠ [46] → s ≠ [46, 46] → isDirF f0 g n = true → O n [46, 46] = some d)

/-- What is found in a tree. -/
def inF (g : VwF) (d : Int) (s : Bs) : Option Int := foundE (dirE f0 g d) s
theorem inF_dir {g : VwF} {d : Int} {s : Bs} {n : Int} (h : inF g d s = some n) : isDirF f0 g d = true ∧ Nm.rightF s = true := by
  unfold inF at h
  obtain ⟨-, h1, -, h2⟩ := place_yes h
  refine ⟨?_, h2⟩
  cases hd : isDirF f0 g d with
  | true => rfl
  | false => rw [dirE_no hd] at h1; exact absurd h1 (by simp)
section
variable {g : VwF} {k : Nat} {O : Int → Bs → Option Int}
theorem TreeF.inO (h : TreeF g k O) {d : Int} {s : Bs} (hd : isDirF f0 g d = true) (hs : Nm.rightF s = true) : inF g d s = O d s := (h.tab d hd).found hs
theorem TreeF.said (h : TreeF g k O) {d : Int} {s : Bs} {n : Int} (hn : inF g d s = some n) : O d s = some n := by
  obtain ⟨h1, h2⟩ := inF_dir hn
  rw [← h.inO h1 h2]; exact hn
theorem TreeF.isn (h : TreeF g k O) {d : Int} {s : Bs} {n : Int} (hn : inF g d s = some n) : isI f0 g n = true := by
  rw [h.is]
  exact decide_eq_true (h.kid d s n (inF_dir hn).1 (h.said hn)).1
theorem TreeF.here (h : TreeF g k O) {d : Int} (hd : isDirF f0 g d = true) : inF g d [46] = some d := by rw [h.inO hd right_dot.1]; exact h.dot d hd
theorem TreeF.up (h : TreeF g k O) {d n : Int} {s : Bs} (hn : inF g d s = some n) (h1 : s ≠ [46]) (h2 : s ≠ [46, 46]) (hd : isDirF f0 g n = true) : inF g n [46, 46] = some d := by
  rw [h.inO hd right_dot.2]
  exact (h.kid d s n (inF_dir hn).1 (h.said hn)).2 h1 h2 hd
theorem TreeF.step (h : TreeF g k O) (d : Int) (s : Bs) (l : List Bs) : stepsA f0 g d (s :: l) = (inF g d s).bind fun n => stepsA f0 g n l := by
  cases hf : inF g d s with
  | none => exact (steps_no l hf).1
  | some n =>
    have hi : isI f0 (findT g d) n = true := by rw [isI_eq (g' := g) (fun j => find_find _ _ _ _)]; exact h.isn hf
    rw [(steps_on l hf hi).1, steps_find, steps_find]
    rfl
theorem TreeF.steps (h : TreeF g k O) (d : Int) (l m : List Bs) : stepsA f0 g d (l ++ m) = (stepsA f0 g d l).bind fun n => stepsA f0 g n m := by
  induction l generalizing d with
  | nil => rfl
  | cons s l ih =>
    show stepsA f0 g d (s :: (l ++ m)) = _
    rw [h.step, h.step]
    cases inF g d s with
    | none => rfl
    | some n => exact ih n
theorem TreeF.one (h : TreeF g k O) (d : Int) (s : Bs) : stepsA f0 g d [s] = inF g d s := by
  rw [h.step]
  cases inF g d s <;> rfl
theorem TreeF.isR (h : TreeF g k O) : isI f0 g 1 = true := by rw [h.is]; have := h.low; exact decide_eq_true (by omega)
theorem TreeF.dirIs (_h : TreeF g k O) {d : Int} (hd : isDirF f0 g d = true) : isI f0 g d = true := by
  have : (findV f0 g d).n0 = 1 := by simpa [isDirF] using hd
  unfold isI; rw [this]; rfl
theorem TreeF.dirIn (h : TreeF g k O) {d : Int} (hd : isDirF f0 g d = true) : 1 ≤ d ∧ d ≤ (k : Int) := by
  have h1 := h.dirIs hd
  rw [h.is] at h1
  exact of_decide_eq_true h1
/-- A walk from the root, or from an inode, along right names. -/
theorem tree_walk {p : Bs} {l : List Bs} (h1 : 1 ≤ p.length) (h2 : p.length ≤ 60) (hc : Nm.cutF p [] = l) (hr : ∀ x ∈ l, Nm.rightF x = true) (c : Int) {a : Int} (ha : headF c (decide (p[0]? = some 47)) = a) (hi : isI f0 g a = true) : walkA f0 g c p = stepsA f0 g a l := by
  obtain ⟨e1, e2, e3⟩ := path_is h1 h2 (by rw [hc]; exact hr)
  unfold walkA alongA
  rw [if_pos e1, e2, e3, ha, hc, hi, if_pos rfl, steps_find]
theorem walk_not {p : Bs} (hk : Nm.okF p = false) (f : StF) (g : VwF) (c : Int) : walkA f g c p = none := by
  unfold walkA
  rw [hk]; rfl
/-- Two paths of the same names and the same beginning. -/
theorem walk_like {p q : Bs} (h1 : 1 ≤ p.length ∧ p.length ≤ 60) (h2 : 1 ≤ q.length ∧ q.length ≤ 60) (hc : Nm.cutF p [] = Nm.cutF q []) (f : StF) (g : VwF) (c d : Int) (ha : headF c (decide (p[0]? = some 47)) = headF d (decide (q[0]? = some 47))) : walkA f g c p = walkA f g d q := by
  by_cases hr : ∀ x ∈ Nm.cutF p [], Nm.rightF x = true
  · obtain ⟨e1, e2, e3⟩ := path_is h1.1 h1.2 hr
    obtain ⟨d1, d2, d3⟩ := path_is h2.1 h2.2 (by rw [← hc]; exact hr)
    unfold walkA
    rw [if_pos e1, if_pos d1, e2, e3, d2, d3, ha, hc]
  · obtain ⟨x, hx, hb⟩ : ∃ x, x ∈ Nm.cutF p [] ∧ Nm.rightF x = false := by
      refine Classical.byContradiction fun hn => hr fun x hx => ?_
      cases hb : Nm.rightF x with
      | true => rfl
      | false => exact absurd ⟨x, hx, hb⟩ hn
    rw [walk_not (path_not hx hb), walk_not (path_not (by rw [← hc]; exact hx) hb)]
theorem TreeF.eqv {g' : VwF} (h : TreeF g k O) (he : ∀ j, findV f0 g' j = findV f0 g j) (ht : tblF f0 g' = tblF f0 g) : TreeF g' k O where
  low := h.low
  hi := h.hi
  bits := by rw [ht]; exact h.bits
  is := fun i => by rw [isI_eq he]; exact h.is i
  root := by rw [isD_eq he]; exact h.root
  tab := fun d hd => by rw [dirE_eq (he d)]; rw [isD_eq he] at hd; exact h.tab d hd
  dot := fun d hd => by rw [isD_eq he] at hd; exact h.dot d hd
  dots := fun d hd => by rw [isD_eq he] at hd; exact h.dots d hd
  kid := fun d s n hd hn => by
    rw [isD_eq he] at hd
    obtain ⟨a, b⟩ := h.kid d s n hd hn
    exact ⟨a, fun h1 h2 h3 => b h1 h2 (by rw [← isD_eq he]; exact h3)⟩
theorem TreeF.find (h : TreeF g k O) (j : Int) : TreeF (findT g j) k O := h.eqv (fun _ => find_find _ _ _ _) (tbl_find _ _ _)
end
end Go.Proofs.Ythonlakpgncinaa
