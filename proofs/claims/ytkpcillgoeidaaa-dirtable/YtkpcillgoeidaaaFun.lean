
/- Which objects there are, and in which order: plain functions and what holds of them; no conditions. -/
namespace Go.Proofs.Ytkpcillgoeidaaa

def cnt (k : Int) : Int := if k = 4 ∨ k = 12 then 8 else if k = 6 then 12 else if k = 8 then 4 else if k = 10 then 16 else if k < 1 ∨ 12 < k then 0 else 1

def ahd (k : Int) : Int :=
  if k ≤ 1 then 0 else if k = 2 then 1 else if k = 3 then 2 else if k = 4 then 3 else if k = 5 then 11 else if k = 6 then 12 else if k = 7 then 24
  else if k = 8 then 25 else if k = 9 then 29 else if k = 10 then 30 else if k = 11 then 46 else if k = 12 then 47 else 55

def plc (k : Int × Int) : Int := if k.2 < 0 ∨ cnt k.1 ≤ k.2 then -1 else ahd k.1 + k.2

def keyAt (p : Int) : Int × Int :=
  if p < 0 then (0, 0) else if p < 1 then (1, p) else if p < 2 then (2, p - 1) else if p < 3 then (3, p - 2) else if p < 11 then (4, p - 3) else if p < 12 then (5, p - 11)
  else if p < 24 then (6, p - 12) else if p < 25 then (7, p - 24) else if p < 29 then (8, p - 25) else if p < 30 then (9, p - 29) else if p < 46 then (10, p - 30)
  else if p < 47 then (11, p - 46) else if p < 55 then (12, p - 47) else (0, 0)

def isAt (p : Int) : Bool := decide (0 ≤ p) && decide (p < 55)

theorem kinds12 {k : Int} (h : 1 ≤ k) (h' : k ≤ 12) : k = 1 ∨ k = 2 ∨ k = 3 ∨ k = 4 ∨ k = 5 ∨ k = 6 ∨ k = 7 ∨ k = 8 ∨ k = 9 ∨ k = 10 ∨ k = 11 ∨ k = 12 := by omega

theorem ahd_next {k : Int} (h : 1 ≤ k) (h' : k ≤ 12) : ahd (k + 1) = ahd k + cnt k := by
  rcases kinds12 h h' with rfl | rfl | rfl | rfl | rfl | rfl | rfl | rfl | rfl | rfl | rfl | rfl <;> rfl

theorem cnt_bounds (k : Int) : 0 ≤ cnt k ∧ cnt k ≤ 16 := by unfold cnt; repeat' split <;> omega
theorem ahd_bounds (k : Int) : 0 ≤ ahd k ∧ ahd k ≤ 55 := by
  unfold ahd; repeat' split <;> omega

theorem cnt_pos {k : Int} (h : 0 < cnt k) : 1 ≤ k ∧ k ≤ 12 := by
  unfold cnt at h
  repeat' split at h
  all_goals omega

theorem keyAt_is {k p : Int} (h : 1 ≤ k) (h' : k ≤ 12) (h1 : ahd k ≤ p) (h2 : p - ahd k < cnt k) : keyAt p = (k, p - ahd k) := by
  have hb := ahd_bounds k
  have hb' := ahd_bounds (k + 1)
  have hn := ahd_next h h'
  obtain ⟨a, rfl⟩ : ∃ a : Nat, k = a := ⟨k.toNat, by omega⟩
  obtain ⟨b, rfl⟩ : ∃ b : Nat, p = b := ⟨p.toNat, by omega⟩
  have all : ∀ a : Nat, a < 13 → ∀ b : Nat, b < 55 → (1 ≤ a ∧ ahd a ≤ b ∧ (b : Int) - ahd a < cnt a) → ((keyAt b).1 = (a : Int) ∧ (keyAt b).2 = (b : Int) - ahd a) := by decide +kernel
  have := all a (by omega) b (by omega) ⟨by omega, h1, h2⟩
  exact Prod.ext this.1 this.2

theorem ahd_lt {k p : Int} (h : 1 ≤ k) (h' : k ≤ 12) (h2 : p - ahd k < cnt k) : p < 55 := by
  rcases kinds12 h h' with rfl | rfl | rfl | rfl | rfl | rfl | rfl | rfl | rfl | rfl | rfl | rfl <;> simp [ahd, cnt] at h2 <;> omega

theorem isAt_yes {p : Int} (h : 0 ≤ p) (h' : p < 55) : isAt p = true := by simp [isAt, h, h']
theorem isAt_low {p : Int} (h : p < 0) : isAt p = false := by simp [isAt]; omega
theorem isAt_high {p : Int} (h : 55 ≤ p) : isAt p = false := by simp [isAt]; omega
theorem keyAt_low {p : Int} (h : p < 0) : keyAt p = (0, 0) := by unfold keyAt; rw [if_pos h]
theorem keyAt_high {p : Int} (h : 55 ≤ p) : keyAt p = (0, 0) := by
  unfold keyAt
  repeat rw [if_neg (by omega)]

theorem plc_bounds (k : Int × Int) : -1 ≤ plc k ∧ plc k < 55 := by
  unfold plc
  split
  · omega
  · rename_i h
    have h1 : 0 < cnt k.1 := by omega
    obtain ⟨a, b⟩ := cnt_pos h1
    have := ahd_next a b
    have := ahd_bounds k.1
    have := ahd_bounds (k.1 + 1)
    omega

theorem plc_no {k : Int × Int} (h : k.2 < 0 ∨ cnt k.1 ≤ k.2) : plc k = -1 := by unfold plc; rw [if_pos h]
theorem plc_is {k : Int × Int} (h : 0 ≤ k.2) (h' : k.2 < cnt k.1) : plc k = ahd k.1 + k.2 := by unfold plc; rw [if_neg (by omega)]

theorem keyAt_plc {k : Int × Int} (h : 0 ≤ plc k) : keyAt (plc k) = k := by
  have hn : ¬ (k.2 < 0 ∨ cnt k.1 ≤ k.2) := by intro x; rw [plc_no x] at h; omega
  have h1 : 0 < cnt k.1 := by omega
  obtain ⟨a, b⟩ := cnt_pos h1
  rw [plc_is (by omega) (by omega)]
  rw [keyAt_is a b (by omega) (by omega)]
  simp [Int.add_comm (ahd k.1), Int.add_sub_cancel]

theorem plc_keyAt {p : Int} (h : 0 ≤ p) (h' : p < 55) : plc (keyAt p) = p := by
  obtain ⟨a, rfl⟩ : ∃ a : Nat, p = a := ⟨p.toNat, by omega⟩
  have all : ∀ a : Nat, a < 55 → plc (keyAt a) = a := by decide +kernel
  exact all a (by omega)

theorem keyAt_inj {p q : Int} (h : 0 ≤ p) (h' : p < 55) (g : 0 ≤ q) (g' : q < 55) (e : keyAt p = keyAt q) : p = q := by
  rw [← plc_keyAt h h', e, plc_keyAt g g']

theorem keyAt_rises {p q : Int} (h : 0 ≤ p) (hq : q < 55) (hpq : p < q) : (keyAt p).1 < (keyAt q).1 ∨ ((keyAt p).1 = (keyAt q).1 ∧ (keyAt p).2 < (keyAt q).2) := by
  obtain ⟨a, ha⟩ : ∃ a : Nat, p = a := ⟨p.toNat, by omega⟩
  obtain ⟨b, hb⟩ : ∃ b : Nat, q = b := ⟨q.toNat, by omega⟩
  subst ha hb
  have ha : a < 55 := by omega
  have hb : b < 55 := by omega
  have : ∀ b : Nat, b < 55 → ∀ a : Nat, a < b → ((keyAt a).1 < (keyAt b).1 ∨ ((keyAt a).1 = (keyAt b).1 ∧ (keyAt a).2 < (keyAt b).2)) := by decide +kernel
  exact this b hb a (by omega)

end Go.Proofs.Ytkpcillgoeidaaa
