
/- Directories as lists of entries: plain functions and what holds of them; no conditions. -/
import Derived.Test.YtkpcillgoeidaaaFindF
import Derived.Test.YtkpcillgoeidaaaNRef
import Derived.Test.YtkpcillgoeidaaaRIno
namespace Go.Proofs.Ytkpcillgoeidaaa
open Go.RowKit
set_option maxRecDepth 100000

abbrev E2 := Bs × Int
def hereB (n : Int) : Bool := decide (1 ≤ n) && decide (n < 16)
theorem here_iff {n : Int} : hereB n = true ↔ 1 ≤ n ∧ n < 16 := by simp [hereB]
def slc (l : Bs) (i : Nat) : Bs := (l.drop (i * 16)).take 16
def ent (l : Bs) (i : Nat) : E2 := (Nm.nameF (slc l i), Nm.ptrF (slc l i))
def nEnt (l : Bs) : Nat := min l.length 128 / 16
def entsF (l : Bs) : List E2 := (List.range (nEnt l)).map (ent l)
def isDirF (f : StF) (g : VwF) (d : Int) : Bool := decide ((findV f g d).n0 = 1)
def dirE (f : StF) (g : VwF) (d : Int) : List E2 := if isDirF f g d = true then entsF (bl (findV f g d).s) else []
def hasP (s : Bs) (e : E2) : Bool := hereB e.2 && decide (e.1 = s)
def gapP (e : E2) : Bool := !hereB e.2
def placeA (es : List E2) (s : Bs) : Int := if Nm.rightF s = true ∧ es.findIdx (hasP s) < es.length then (es.findIdx (hasP s) : Int) else -1
def gapA (es : List E2) : Nat := es.findIdx gapP

theorem find_again (g : VwF) (i : Int) : findT (findT g i) i = findT g i := by
  unfold findT
  split
  · exact (get_twice (f := fun _ => none)).2
  · rfl

theorem ents_len (l : Bs) : (entsF l).length = nEnt l := by simp [entsF]
theorem nEnt_le (l : Bs) : nEnt l ≤ 8 := by unfold nEnt; omega
theorem ents_at {l : Bs} {i : Nat} (h : i < nEnt l) : (entsF l)[i]? = some (ent l i) := by simp [entsF, h]
theorem dirE_le (f : StF) (g : VwF) (d : Int) : (dirE f g d).length ≤ 8 := by
  unfold dirE
  split
  · rw [ents_len]; exact nEnt_le _
  · exact Nat.zero_le _
theorem nEnt_take (l : Bs) : nEnt (l.take 128) = nEnt l := by unfold nEnt; rw [List.length_take]; omega
theorem slc_take {l : Bs} {i : Nat} (h : i < nEnt l) : slc (l.take 128) i = slc l i := by
  unfold slc
  unfold nEnt at h
  rw [List.drop_take, List.take_take, Nat.min_eq_left (by omega)]
theorem slc_len {l : Bs} {i : Nat} (h : i < nEnt l) : (slc l i).length = 16 := by
  unfold slc
  unfold nEnt at h
  simp; omega

/-- How far the first is that p holds of. -/
theorem find_is {α : Type} {p : α → Bool} {l : List α} {i : Nat} {a : α} (ha : l[i]? = some a) (hp : p a = true) (h : i ≤ l.findIdx p) : l.findIdx p = i := by
  obtain ⟨hi, rfl⟩ := List.getElem?_eq_some_iff.1 ha
  refine Nat.le_antisymm ?_ h
  apply Nat.le_of_not_lt
  intro hlt
  have := List.not_of_lt_findIdx hlt
  rw [hp] at this
  exact absurd this (by simp)
theorem find_on {α : Type} {p : α → Bool} {l : List α} {i : Nat} {a : α} (ha : l[i]? = some a) (hp : p a = false) (h : i ≤ l.findIdx p) : i + 1 ≤ l.findIdx p := by
  obtain ⟨hi, rfl⟩ := List.getElem?_eq_some_iff.1 ha
  apply Nat.lt_of_le_of_ne h
  intro e
  have hlt : l.findIdx p < l.length := by omega
  have := List.findIdx_getElem (w := hlt)
  simp only [← e] at this
  rw [hp] at this
  exact absurd this (by simp)
theorem find_end {α : Type} {p : α → Bool} {l : List α} (h : l.length ≤ l.findIdx p) : l.findIdx p = l.length := Nat.le_antisymm List.findIdx_le_length h

/-- The number that the name s has. -/
def foundE (es : List E2) (s : Bs) : Option Int := if Nm.rightF s = true ∧ es.findIdx (hasP s) < es.length then some (es.getD (es.findIdx (hasP s)) ([], 0)).2 else none
def foundV (o : Option Int) : Value := .tuple #[.int .i64 (o.getD 0), .bool o.isSome]
def addOk (f : StF) (g : VwF) (d : Int) (s : Bs) (i : Int) : Bool := isDirF f g d && Nm.rightF s && hereB i && (foundE (dirE f g d) s).isNone && decide (gapA (dirE f g d) < 8)
def addT (f : StF) (g : VwF) (d : Int) (s : Bs) (i : Int) : VwF := if addOk f g d s i = true then writeT f (findT g d) d ((gapA (dirE f g d) * 16 : Nat) : Int) (bs (Nm.packF s i)) else findT g d
def rmT (f : StF) (g : VwF) (d : Int) (s : Bs) : VwF := if (foundE (dirE f g d) s).isSome = true then writeT f (findT g d) d (((dirE f g d).findIdx (hasP s) * 16 : Nat) : Int) (bs (Nm.packF [] 0)) else findT g d
def namesE (es : List E2) : List Bs := (es.filter fun e => hereB e.2).map (·.1)
def bareE (es : List E2) : Bool := (namesE es).all fun s => decide (s = [46]) || decide (s = [46, 46])

theorem place_no {es : List E2} {s : Bs} (h : foundE es s = none) : placeA es s = -1 := by
  unfold foundE at h
  unfold placeA
  split at h
  · exact absurd h (by simp)
  · rename_i hn
    rw [if_neg hn]
theorem place_yes {es : List E2} {s : Bs} {n : Int} (h : foundE es s = some n) : placeA es s = es.findIdx (hasP s) ∧ es.findIdx (hasP s) < es.length ∧ (∃ e, es[es.findIdx (hasP s)]? = some e ∧ e.2 = n ∧ e.1 = s ∧ hereB n = true) ∧ Nm.rightF s = true := by
  unfold foundE at h
  unfold placeA
  split at h
  · rename_i hn
    rw [if_pos hn]
    refine ⟨rfl, hn.2, ⟨_, List.getElem?_eq_getElem hn.2, ?_⟩, hn.1⟩
    have hp := List.findIdx_getElem (w := hn.2)
    have he : es.getD (es.findIdx (hasP s)) ([], 0) = es[es.findIdx (hasP s)]'hn.2 := by simp [List.getD, hn.2]
    rw [he] at h
    simp only [hasP, Bool.and_eq_true, decide_eq_true_eq] at hp
    obtain rfl : _ = n := by simpa using h
    exact ⟨rfl, hp.2, hp.1⟩
  · exact absurd h (by simp)
theorem dirE_no {f : StF} {g : VwF} {d : Int} (h : isDirF f g d = false) : dirE f g d = [] := by unfold dirE; rw [if_neg (by simp [h])]
theorem gap_le {es : List E2} (h : es.length ≤ 8) : gapA es ≤ 8 := Nat.le_trans List.findIdx_le_length h
end Go.Proofs.Ytkpcillgoeidaaa
