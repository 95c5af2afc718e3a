
/- What is found of an inode behind each call: plain facts; no conditions. -/
import Derived.Test.YtkpcillgoeidaaaChange
import Derived.Test.YtkpcillgoeidaaaWrite
namespace Go.Proofs.Ytkpcillgoeidaaa
open Go.RowKit

theorem plc_ik {i : Int} (h : 1 ≤ i) (h' : i < 16) : 0 ≤ plc (10, i) := by
  rcases below16 (by omega : 0 ≤ i) h' with rfl | rfl | rfl | rfl | rfl | rfl | rfl | rfl | rfl | rfl | rfl | rfl | rfl | rfl | rfl | rfl <;> decide
theorem plc_tk : 0 ≤ plc (9, 0) := by decide
theorem ik_ne (i : Int) : ((9, 0) : K2) ≠ (10, i) := by intro e; injection e with e1 _; omega

theorem nt_upd (g : VwF) (k j : K2) (t : Bool × Bool × V) : noteF (upd g k t) j = if j = k then t else noteF g j := by
  unfold noteF upd; split <;> rfl
theorem note_put {g : VwF} {k j : K2} {x : V} (h : 0 ≤ plc k) : noteF (vputT g k x) j = if j = k then ((noteF g k).1, true, x) else noteF g j := by
  unfold vputT; rw [if_pos h, nt_upd]
theorem note_get {g : VwF} {k j : K2} (h : 0 ≤ plc k) : noteF (vgetT g k) j = if j = k then (true, (noteF g k).2) else noteF g j := by
  unfold vgetT; rw [if_pos h, nt_upd]
theorem get_put_other {f : StF} {g : VwF} {k j : K2} {x : V} (hk : 0 ≤ plc k) (hne : j ≠ k) : vgetF f (vputT g k x) j = vgetF f g j := by
  unfold vgetF; rw [note_put hk, if_neg hne]
theorem get_get {f : StF} {g : VwF} {k j : K2} : vgetF f (vgetT g k) j = vgetF f g j := by
  by_cases hk : 0 ≤ plc k
  · unfold vgetF
    rw [note_get hk]
    by_cases e : j = k
    · subst e; rw [if_pos rfl]
    · rw [if_neg e]
  · unfold vgetT; rw [if_neg hk]
theorem get_put {f : StF} {g : VwF} {k : K2} {x : V} (hk : 0 ≤ plc k) : vgetF f (vputT g k x) k = x := by
  unfold vgetF; rw [if_pos hk, note_put hk, if_pos rfl]; rfl

theorem find_eq {f f' : StF} {g g' : VwF} {j : Int} (h : vgetF f' g' (10, j) = vgetF f g (10, j)) : findV f' g' j = findV f g j := by unfold findV; rw [h]
theorem is_eq {f f' : StF} {g g' : VwF} {j : Int} (h : findV f' g' j = findV f g j) : isI f' g' j = isI f g j := by unfold isI; rw [h]
theorem find_find (f : StF) (g : VwF) (i j : Int) : findV f (findT g i) j = findV f g j := by
  refine find_eq ?_
  unfold findT
  split
  · exact get_get
  · rfl
theorem find_getT (f : StF) (g : VwF) (j : Int) : findV f (vgetT g (9, 0)) j = findV f g j := find_eq get_get
theorem find_putT (f : StF) (g : VwF) (y : V) (j : Int) : findV f (vputT g (9, 0) y) j = findV f g j := find_eq (get_put_other plc_tk (fun e => ik_ne j e.symm))
theorem find_putI {f : StF} {g : VwF} {i : Int} (h1 : 1 ≤ i) (h2 : i < 16) (x : V) (j : Int) : findV f (vputT g (10, i) x) j = if j = i then (if x.n0 = 0 then zeroV else x) else findV f g j := by
  by_cases e : j = i
  · subst e
    rw [if_pos rfl]
    unfold findV
    rw [if_pos ⟨h1, h2⟩, get_put (plc_ik h1 h2)]
  · rw [if_neg e]
    exact find_eq (get_put_other (plc_ik h1 h2) (fun q => e (by injection q)))

def tblF (f : StF) (g : VwF) : V := vgetF f g (9, 0)
theorem tbl_find (f : StF) (g : VwF) (i : Int) : tblF f (findT g i) = tblF f g := by
  unfold tblF findT
  split
  · exact get_get
  · rfl
theorem tbl_getT (f : StF) (g : VwF) : tblF f (vgetT g (9, 0)) = tblF f g := get_get
theorem tbl_putT (f : StF) (g : VwF) (y : V) : tblF f (vputT g (9, 0) y) = y := get_put plc_tk
theorem tbl_putI {f : StF} {g : VwF} {i : Int} (h1 : 1 ≤ i) (h2 : i < 16) (x : V) : tblF f (vputT g (10, i) x) = tblF f g := get_put_other (plc_ik h1 h2) (ik_ne i)

theorem is_n0 {f : StF} {g : VwF} {i : Int} (h : isI f g i = true) : (findV f g i).n0 ≠ 0 := by simpa [isI] using h

/-- What Change leaves. -/
theorem change_find {f : StF} {g : VwF} {i : Int} (a b : Int) (h : isI f g i = true) (j : Int) :
    findV f (changeT f g i a b) j = if j = i then (if 0 < (chgV (findV f g i) a b).n1 ∨ 0 < (chgV (findV f g i) a b).n2 then chgV (findV f g i) a b else zeroV) else findV f g j := by
  obtain ⟨h1, h2⟩ := is_range h
  have hn := is_n0 h
  unfold changeT
  rw [if_pos h]
  by_cases hs : 0 < (chgV (findV f g i) a b).n1 ∨ 0 < (chgV (findV f g i) a b).n2
  · rw [if_pos hs, if_pos hs, find_putI h1 h2, find_find, if_neg (show ¬ (chgV (findV f g i) a b).n0 = 0 from hn)]
  · rw [if_neg hs, if_neg hs]
    unfold goneT
    rw [find_putT, find_getT, find_putI h1 h2, find_find]
    rfl
theorem change_no {f : StF} {g : VwF} {i : Int} (a b : Int) (h : isI f g i = false) : changeT f g i a b = findT g i := by
  unfold changeT; rw [if_neg (by simp [h])]
theorem change_other {f : StF} {g : VwF} {i : Int} (a b : Int) {j : Int} (h : j ≠ i) : findV f (changeT f g i a b) j = findV f g j := by
  cases hi : isI f g i with
  | true => rw [change_find a b hi, if_neg h]
  | false => rw [change_no a b hi, find_find]
theorem change_tbl {f : StF} {g : VwF} {i : Int} (a b : Int) (h : isI f g i = true) :
    tblF f (changeT f g i a b) = if 0 < (chgV (findV f g i) a b).n1 ∨ 0 < (chgV (findV f g i) a b).n2 then tblF f g else withN (tblF f g) (clrN (tblF f g).n0 i) := by
  obtain ⟨h1, h2⟩ := is_range h
  unfold changeT
  rw [if_pos h]
  split
  · rw [tbl_putI h1 h2, tbl_find]
  · unfold goneT
    rw [tbl_putT]
    have := tbl_putI (f := f) (g := findT g i) h1 h2 zeroV
    rw [tbl_find] at this
    unfold tblF at this ⊢
    rw [this]
theorem change_size {f : StF} {g : VwF} {n : Nat} (i a b : Int) (h : ∀ j, (findV f g j).s.size ≤ n) (j : Int) : (findV f (changeT f g i a b) j).s.size ≤ n := by
  by_cases e : j = i
  · cases hi : isI f g i with
    | true =>
      rw [change_find a b hi, if_pos e]
      split
      · exact h i
      · exact Nat.zero_le _
    | false => rw [change_no a b hi, find_find]; exact h j
  · rw [change_other a b e]; exact h j

/-- What Write leaves. -/
theorem wr_is {f : StF} {g : VwF} {i off : Int} (h : wrOk f g i off = true) : isI f g i = true ∧ 0 ≤ off ∧ off ≤ 128 ∧ off ≤ (findV f g i).s.size := by
  unfold wrOk at h
  simp only [Bool.and_eq_true, decide_eq_true_eq] at h
  exact ⟨h.1.1.1, h.1.1.2, h.1.2, h.2⟩
theorem write_find {f : StF} {g : VwF} {i off : Int} (d : ByteArray) (h : wrOk f g i off = true) (j : Int) :
    findV f (writeT f g i off d) j = if j = i then withS (findV f g i) (overF (findV f g i).s off.toNat (cutD d off.toNat)) else findV f g j := by
  have hi := (wr_is h).1
  obtain ⟨h1, h2⟩ := is_range hi
  have hn := is_n0 hi
  unfold writeT
  rw [if_pos h, find_putI h1 h2, find_find, if_neg (show ¬ (withS (findV f g i) (overF (findV f g i).s off.toNat (cutD d off.toNat))).n0 = 0 from hn)]
theorem write_no {f : StF} {g : VwF} {i off : Int} (d : ByteArray) (h : wrOk f g i off = false) : writeT f g i off d = findT g i ∧ writeA f g i off d = -1 := by
  unfold writeT writeA; rw [if_neg (by simp [h]), if_neg (by simp [h])]; exact ⟨rfl, rfl⟩
theorem write_other {f : StF} {g : VwF} {i off : Int} (d : ByteArray) {j : Int} (h : j ≠ i) : findV f (writeT f g i off d) j = findV f g j := by
  cases hi : wrOk f g i off with
  | true => rw [write_find d hi, if_neg h]
  | false => rw [(write_no d hi).1, find_find]
theorem over_size (s d : ByteArray) (o : Nat) (ho : o ≤ s.size) : (overF s o d).size = max s.size (o + d.size) := by
  unfold overF
  rw [bs_size]
  simp [bl_len]
  omega
theorem write_size {f : StF} {g : VwF} {n : Nat} (hn : 128 ≤ n) (i off : Int) (d : ByteArray) (h : ∀ j, (findV f g j).s.size ≤ n) (j : Int) : (findV f (writeT f g i off d) j).s.size ≤ n := by
  by_cases e : j = i
  · cases hi : wrOk f g i off with
    | true =>
      obtain ⟨-, h1, h2, h3⟩ := wr_is hi
      rw [write_find d hi, if_pos e]
      show (overF _ _ _).size ≤ n
      rw [over_size _ _ _ (by omega), cutD_size]
      have := h i
      omega
    | false => rw [(write_no d hi).1, find_find]; exact h j
  · rw [write_other d e]; exact h j
theorem write_tbl {f : StF} {g : VwF} (i off : Int) (d : ByteArray) : tblF f (writeT f g i off d) = tblF f g := by
  cases hi : wrOk f g i off with
  | true =>
    obtain ⟨h1, h2⟩ := is_range (wr_is hi).1
    unfold writeT
    rw [if_pos hi, tbl_putI h1 h2, tbl_find]
  | false => rw [(write_no d hi).1, tbl_find]

/-- What Alloc leaves. -/
theorem freeN_pos (n : Int) : 1 ≤ freeN n := by
  unfold freeN
  cases (List.range 15).find? (fun j : Nat => !hasB n ((j : Int) + 1)) with
  | none => show (1 : Int) ≤ 16; omega
  | some j => show (1 : Int) ≤ (j : Int) + 1; omega
theorem alloc_find {f : StF} {g : VwF} {typ : Int} (ht : typ ≠ 0) (h : allocA f g < 16) (j : Int) : findV f (allocT f g typ) j = if j = allocA f g then numV typ else findV f g j := by
  have h1 : 1 ≤ allocA f g := freeN_pos _
  unfold allocT
  rw [if_pos h, find_putI h1 h, find_putT, find_getT, if_neg (show ¬ (numV typ).n0 = 0 from ht)]
theorem alloc_tbl {f : StF} {g : VwF} (typ : Int) (h : allocA f g < 16) : tblF f (allocT f g typ) = withN (tblF f g) (orN (tblF f g).n0 (allocA f g)) := by
  have h1 : 1 ≤ allocA f g := freeN_pos _
  unfold allocT
  rw [if_pos h, tbl_putI h1 h, tbl_putT]
  rfl
theorem alloc_is (f : StF) (g : VwF) : allocA f g = freeN (tblF f g).n0 := rfl
theorem alloc_full {f : StF} {g : VwF} (typ : Int) (h : ¬ allocA f g < 16) : allocT f g typ = vgetT g (9, 0) := by unfold allocT; rw [if_neg h]
end Go.Proofs.Ytkpcillgoeidaaa
