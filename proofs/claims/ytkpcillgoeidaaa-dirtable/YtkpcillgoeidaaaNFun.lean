
/- Texts as lists of bytes: how far a byte is, which names are right, how a path is cut, how entries are packed; no conditions. -/
import Derived.Test.YtkpcillgoeidaaaTxt
import Derived.Lib.Strings
namespace Go.Proofs.Ytkpcillgoeidaaa.Nm
open Go.RowKit
set_option maxRecDepth 100000

/-- How many bytes of l stand ahead of its first b. -/
def ahd (l : Bs) (b : UInt8) : Nat := (l.takeWhile (· != b)).length

theorem ahd_le (l : Bs) (b : UInt8) : ahd l b ≤ l.length := (List.takeWhile_sublist _).length_le
theorem ahd_nil (b : UInt8) : ahd [] b = 0 := rfl
theorem ahd_cons (x : UInt8) (l : Bs) (b : UInt8) : ahd (x :: l) b = if x = b then 0 else ahd l b + 1 := by
  unfold ahd
  by_cases h : x = b <;> simp [h]

theorem ahd_stop {l : Bs} {b : UInt8} {i : Nat} (h : l[i]? = some b) : ahd l b ≤ i := by
  induction l generalizing i with
  | nil => simp at h
  | cons x l ih =>
    rw [ahd_cons]
    split
    · omega
    · cases i with
      | zero => simp at h; contradiction
      | succ i => have := ih (i := i) (by simpa using h); omega

theorem ahd_go {l : Bs} {b c : UInt8} {i : Nat} (h : i ≤ ahd l b) (hc : l[i]? = some c) (hne : c ≠ b) : i + 1 ≤ ahd l b := by
  induction l generalizing i with
  | nil => simp at hc
  | cons x l ih =>
    rw [ahd_cons] at h ⊢
    cases i with
    | zero =>
      simp at hc
      subst hc
      rw [if_neg hne]; omega
    | succ i =>
      split at h
      · omega
      · rename_i hx
        rw [if_neg hx]
        have := ih (i := i) (by omega) (by simpa using hc)
        omega

theorem ahd_full {l : Bs} {b : UInt8} : ahd l b = l.length ↔ b ∉ l := by
  induction l with
  | nil => simp [ahd_nil]
  | cons x l ih =>
    rw [ahd_cons]
    by_cases h : x = b
    · simp [h]
    · rw [if_neg h]
      simp only [List.length_cons, Nat.add_right_cancel_iff, ih, List.mem_cons, not_or]
      exact ⟨fun e => ⟨fun q => h q.symm, e⟩, fun e => e.2⟩

theorem take_ahd (l : Bs) (b : UInt8) : l.take (ahd l b) = l.takeWhile (· != b) := by
  induction l with
  | nil => rfl
  | cons x l ih =>
    rw [ahd_cons]
    by_cases h : x = b
    · simp [h]
    · rw [if_neg h]
      simp [h, ih]

theorem not_mem_take {l : Bs} {b : UInt8} : b ∉ l.take (ahd l b) := by
  induction l with
  | nil => simp
  | cons x l ih =>
    rw [ahd_cons]
    by_cases h : x = b
    · simp [h]
    · rw [if_neg h]
      simp only [List.take_succ_cons, List.mem_cons, not_or]
      exact ⟨fun e => h e.symm, ih⟩

/-- Is l a right name? -/
def rightF (l : Bs) : Bool := decide (1 ≤ l.length) && decide (l.length ≤ 14) && decide (ahd l 47 = l.length) && decide (ahd l 0 = l.length)

theorem right_iff {l : Bs} : rightF l = true ↔ 1 ≤ l.length ∧ l.length ≤ 14 ∧ (47 : UInt8) ∉ l ∧ (0 : UInt8) ∉ l := by
  unfold rightF
  simp only [Bool.and_eq_true, decide_eq_true_eq, ahd_full, and_assoc]

/-- What stands between slashes; s is what was met since the last one. -/
def cutF : Bs → Bs → List Bs
  | [], s => if s = [] then [] else [s]
  | x :: l, s => if x = 47 then (if s = [] then cutF l [] else s :: cutF l []) else cutF l (s ++ [x])

def oneF (s : Bs) : List Bs := if s = [] then [] else [s]

theorem cut_nil (s : Bs) : cutF [] s = oneF s := rfl
theorem cut_slash (l s : Bs) : cutF (47 :: l) s = oneF s ++ cutF l [] := by
  unfold oneF
  rw [cutF, if_pos rfl]
  split <;> simp_all
theorem cut_other {x : UInt8} (h : x ≠ 47) (l s : Bs) : cutF (x :: l) s = cutF l (s ++ [x]) := by
  rw [cutF, if_neg h]

theorem cut_ahead (l s : Bs) : cutF l s = oneF (s ++ l.take (ahd l 47)) ++ cutF (l.drop (ahd l 47 + 1)) [] := by
  induction l generalizing s with
  | nil => simp [cut_nil, ahd_nil]; rfl
  | cons x l ih =>
    rw [ahd_cons]
    by_cases h : x = 47
    · subst h
      rw [cut_slash, if_pos rfl]
      simp
    · rw [cut_other h, if_neg h, ih]
      simp

/-- Does l lead anywhere? -/
def okF (l : Bs) : Bool := decide (1 ≤ l.length) && decide (l.length ≤ 60) && (cutF l []).all rightF
def namesF (l : Bs) : List Bs := if okF l = true then cutF l [] else []
def absF (l : Bs) : Bool := okF l && decide (l[0]? = some 47)

theorem ok_no {l : Bs} (h : ¬ (1 ≤ l.length ∧ l.length ≤ 60)) : okF l = false := by
  unfold okF
  rw [Bool.and_eq_false_iff]; left
  rw [Bool.and_eq_false_iff, decide_eq_false_iff_not, decide_eq_false_iff_not]
  omega
theorem ok_yes {l : Bs} (h : 1 ≤ l.length ∧ l.length ≤ 60) (ha : ∀ x ∈ cutF l [], rightF x = true) : okF l = true := by
  unfold okF
  simp [h.1, h.2]
  exact ha
theorem ok_bad {l x : Bs} (hx : x ∈ cutF l []) (h : rightF x = false) : okF l = false := by
  unfold okF
  rw [Bool.and_eq_false_iff]; right
  rw [List.all_eq_false]
  exact ⟨x, hx, by simp [h]⟩
theorem ok_len {l : Bs} (h : okF l = true) : 1 ≤ l.length ∧ l.length ≤ 60 ∧ ∀ x ∈ cutF l [], rightF x = true := by
  unfold okF at h
  simp only [Bool.and_eq_true, decide_eq_true_eq, List.all_eq_true] at h
  exact ⟨h.1.1, h.1.2, h.2⟩

/-- As many names as bytes at most. -/
theorem cut_len (l s : Bs) : (cutF l s).length ≤ l.length + 1 := by
  induction l generalizing s with
  | nil => rw [cut_nil]; unfold oneF; split <;> simp
  | cons x l ih =>
    by_cases h : x = 47
    · subst h
      rw [cut_slash]
      have := ih []
      have h1 : (oneF s).length ≤ 1 := by unfold oneF; split <;> simp
      simp; omega
    · rw [cut_other h]
      have := ih (s ++ [x])
      simp; omega

/-- A number's lowest two bytes. -/
def loF (n : Int) : UInt8 := UInt8.ofNat (n % 256).toNat
def hiF (n : Int) : UInt8 := UInt8.ofNat (n / 256 % 256).toNat
theorem lo_nat (n : Int) : ((loF n).toNat : Int) = n % 256 := by
  unfold loF
  rw [UInt8.toNat_ofNat']
  omega
theorem hi_nat (n : Int) : ((hiF n).toNat : Int) = n / 256 % 256 := by
  unfold hiF
  rw [UInt8.toNat_ofNat']
  omega

def packF (l : Bs) (n : Int) : Bs := l.take 14 ++ List.replicate (14 - min 14 l.length) 0 ++ [loF n, hiF n]
theorem pack_len (l : Bs) (n : Int) : (packF l n).length = 16 := by
  unfold packF
  simp
  omega

def numF (e : Bs) : Int := (e.getD 14 0).toNat + (e.getD 15 0).toNat * 256
def nameF (e : Bs) : Bs := if e.length = 16 then e.take (ahd (e.take 14) 0) else []
def ptrF (e : Bs) : Int := if e.length = 16 then numF e else 0

theorem byte_lt (x : UInt8) : x.toNat < 256 := x.toNat_lt
theorem num_pack (l : Bs) (n : Int) : numF (packF l n) = n % 65536 := by
  have e14 : (packF l n).getD 14 0 = loF n := by
    unfold packF
    rw [List.getD, List.getElem?_append_right (by simp; omega)]
    have : 14 - (l.take 14 ++ List.replicate (14 - min 14 l.length) (0 : UInt8)).length = 0 := by simp; omega
    rw [this]; rfl
  have e15 : (packF l n).getD 15 0 = hiF n := by
    unfold packF
    rw [List.getD, List.getElem?_append_right (by simp; omega)]
    have : 15 - (l.take 14 ++ List.replicate (14 - min 14 l.length) (0 : UInt8)).length = 1 := by simp; omega
    rw [this]; rfl
  unfold numF
  rw [e14, e15, lo_nat, hi_nat]
  omega

theorem name_pack (l : Bs) (n : Int) : nameF (packF l n) = (l.take 14).takeWhile (· != 0) := by
  unfold nameF
  rw [if_pos (pack_len l n)]
  have h14 : (packF l n).take 14 = l.take 14 ++ List.replicate (14 - min 14 l.length) 0 := by
    unfold packF
    rw [List.take_append_of_le_length (by simp; omega), List.take_of_length_le (by simp; omega)]
  have hle := ahd_le ((packF l n).take 14) 0
  have e : (packF l n).take (ahd ((packF l n).take 14) 0) = ((packF l n).take 14).take (ahd ((packF l n).take 14) 0) := by
    rw [List.take_take, Nat.min_eq_left]
    rw [List.length_take] at hle
    omega
  rw [e, take_ahd, h14]
  generalize l.take 14 = m
  generalize 14 - min 14 l.length = k
  induction m with
  | nil => cases k <;> simp [List.replicate_succ]
  | cons x m ih => by_cases h : x = 0 <;> simp [h, ih]
end Go.Proofs.Ytkpcillgoeidaaa.Nm
