/- What each call leaves of the statement's own tables; no conditions. -/
import Derived.Test.YtckbimgoepcoaaaStart
namespace Go.Proofs.Ytckbimgoepcoaaa
open Go.RowKit

section
variable {hs : List H} {i : Nat}

theorem rows1 (hi : i < hs.length) (x : Bool) (hn : (hd hs i).nest = 0) : onRow (hs.set i ⟨x, (hd hs i).nest, (hd hs i).mail⟩) = (onRow hs).set i (.bool x) ∧ nestRow (hs.set i ⟨x, (hd hs i).nest, (hd hs i).mail⟩) = nestRow hs ∧ boxRow (hs.set i ⟨x, (hd hs i).nest, (hd hs i).mail⟩) = boxRow hs := by
  refine ⟨?_, nestRow_same _ _ hi _ rfl, boxRow_same _ _ hi _ _⟩
  rw [onRow_set]; simp [H.isOn, hn]

theorem rows2 (hi : i < hs.length) : onRow (hs.set i ⟨(hd hs i).on, (hd hs i).nest + 1, (hd hs i).mail⟩) = (onRow hs).set i (.bool false) ∧ nestRow (hs.set i ⟨(hd hs i).on, (hd hs i).nest + 1, (hd hs i).mail⟩) = (nestRow hs).set i (.int .i64 ((hd hs i).nest + 1 : Nat)) ∧ boxRow (hs.set i ⟨(hd hs i).on, (hd hs i).nest + 1, (hd hs i).mail⟩) = boxRow hs := by
  refine ⟨?_, nestRow_set _ _ _, boxRow_same _ _ hi _ _⟩
  rw [onRow_set]; simp [H.isOn]

theorem rows3a (hi : i < hs.length) (_hn : (hd hs i).nest = 0 + 1) : onRow (hs.set i ⟨(hd hs i).on, 0, (hd hs i).mail⟩) = (onRow hs).set i (.bool (hd hs i).on) ∧ nestRow (hs.set i ⟨(hd hs i).on, 0, (hd hs i).mail⟩) = (nestRow hs).set i (.int .i64 (0 : Nat)) ∧ boxRow (hs.set i ⟨(hd hs i).on, 0, (hd hs i).mail⟩) = boxRow hs := by
  refine ⟨?_, nestRow_set _ _ _, boxRow_same _ _ hi _ _⟩
  rw [onRow_set]; simp [H.isOn]

theorem rows3b (hi : i < hs.length) {n : Nat} (hn : (hd hs i).nest = n + 1) (h0 : n ≠ 0) : onRow (hs.set i ⟨(hd hs i).on, n, (hd hs i).mail⟩) = onRow hs ∧ nestRow (hs.set i ⟨(hd hs i).on, n, (hd hs i).mail⟩) = (nestRow hs).set i (.int .i64 n) ∧ boxRow (hs.set i ⟨(hd hs i).on, n, (hd hs i).mail⟩) = boxRow hs := by
  refine ⟨onRow_same _ _ hi _ ?_, nestRow_set _ _ _, boxRow_same _ _ hi _ _⟩
  simp [H.isOn, hn, h0]

theorem rows4 (hi : i < hs.length) {k : Nat} (hk : k < 8) : onRow (hs.set i ⟨(hd hs i).on, (hd hs i).nest, mset (hd hs i).mail k⟩) = onRow hs ∧ nestRow (hs.set i ⟨(hd hs i).on, (hd hs i).nest, mset (hd hs i).mail k⟩) = nestRow hs ∧ boxRow (hs.set i ⟨(hd hs i).on, (hd hs i).nest, mset (hd hs i).mail k⟩) = (boxRow hs).set (i * 8 + k) (.bool true) :=
  ⟨onRow_same _ _ hi _ rfl, nestRow_same _ _ hi _ rfl, (boxRow_set _ _ _ _ _ hi hk boxL_set).symm⟩

theorem rows5 (hi : i < hs.length) {k : Nat} (hk : k < 8) : onRow (hs.set i ⟨(hd hs i).on, (hd hs i).nest, mclr (hd hs i).mail k⟩) = onRow hs ∧ nestRow (hs.set i ⟨(hd hs i).on, (hd hs i).nest, mclr (hd hs i).mail k⟩) = nestRow hs ∧ boxRow (hs.set i ⟨(hd hs i).on, (hd hs i).nest, mclr (hd hs i).mail k⟩) = (boxRow hs).set (i * 8 + k) (.bool false) :=
  ⟨onRow_same _ _ hi _ rfl, nestRow_same _ _ hi _ rfl, (boxRow_set _ _ _ _ _ hi hk boxL_clr).symm⟩
end

theorem wasRow_set (ws : List Bool) (i : Nat) (v : Bool) : (wasRow ws).set i (.bool v) = wasRow (ws.set i v) := by simp [wasRow, List.map_set]

theorem on_of_nest {h : H} (hn : h.nest = 0) : h.isOn = h.on := by simp [H.isOn, hn]

/-- The least mail, if there is any. -/
theorem mleast_low {c : Nat} (hc : c < 256) (h0 : c ≠ 0) : mleast c < 8 ∧ mhas c (mleast c) = true ∧ ∀ i, i < mleast c → mhas c i = false := by
  obtain ⟨j, hj8, hj, hl⟩ : ∃ j, j < 8 ∧ mhas c j = true ∧ ∀ i, i < j → mhas c i = false := by
    by_cases g0 : mhas c 0 = true
    · exact ⟨0, by omega, g0, fun i hi => by omega⟩
    by_cases g1 : mhas c 1 = true
    · exact ⟨1, by omega, g1, fun i hi => by rcases (show i = 0 by omega) with rfl; simpa using g0⟩
    by_cases g2 : mhas c 2 = true
    · exact ⟨2, by omega, g2, fun i hi => by rcases (show i = 0 ∨ i = 1 by omega) with rfl | rfl <;> simp_all⟩
    by_cases g3 : mhas c 3 = true
    · exact ⟨3, by omega, g3, fun i hi => by rcases (show i = 0 ∨ i = 1 ∨ i = 2 by omega) with rfl | rfl | rfl <;> simp_all⟩
    by_cases g4 : mhas c 4 = true
    · exact ⟨4, by omega, g4, fun i hi => by rcases (show i = 0 ∨ i = 1 ∨ i = 2 ∨ i = 3 by omega) with rfl | rfl | rfl | rfl <;> simp_all⟩
    by_cases g5 : mhas c 5 = true
    · exact ⟨5, by omega, g5, fun i hi => by rcases (show i = 0 ∨ i = 1 ∨ i = 2 ∨ i = 3 ∨ i = 4 by omega) with rfl | rfl | rfl | rfl | rfl <;> simp_all⟩
    by_cases g6 : mhas c 6 = true
    · exact ⟨6, by omega, g6, fun i hi => by rcases (show i = 0 ∨ i = 1 ∨ i = 2 ∨ i = 3 ∨ i = 4 ∨ i = 5 by omega) with rfl | rfl | rfl | rfl | rfl | rfl <;> simp_all⟩
    by_cases g7 : mhas c 7 = true
    · exact ⟨7, by omega, g7, fun i hi => by rcases (show i = 0 ∨ i = 1 ∨ i = 2 ∨ i = 3 ∨ i = 4 ∨ i = 5 ∨ i = 6 by omega) with rfl | rfl | rfl | rfl | rfl | rfl | rfl <;> simp_all⟩
    exfalso
    apply h0
    apply mail_zero hc
    intro i hi
    rcases (show i = 0 ∨ i = 1 ∨ i = 2 ∨ i = 3 ∨ i = 4 ∨ i = 5 ∨ i = 6 ∨ i = 7 by omega) with rfl | rfl | rfl | rfl | rfl | rfl | rfl | rfl <;> simp_all
  rw [mleast_eq hj8 hl hj]
  exact ⟨hj8, hj, hl⟩

/-- Is one of the first j mails there? -/
def anyTo (m j : Nat) : Bool := (List.range j).any (mhas m)

theorem anyTo_zero (m : Nat) : anyTo m 0 = false := rfl
theorem anyTo_succ (m j : Nat) : anyTo m (j + 1) = (anyTo m j || mhas m j) := by simp [anyTo, List.range_succ]
theorem anyTo_all {m : Nat} (hm : m < 256) : anyTo m 8 = (m != 0) := by
  by_cases h0 : m = 0
  · subst h0; rfl
  · obtain ⟨h8, hh, _⟩ := mleast_low hm h0
    have : anyTo m 8 = true := by
      unfold anyTo
      rw [List.any_eq_true]
      exact ⟨mleast m, by simpa using h8, hh⟩
    rw [this]
    simp [h0]

theorem index_box (c y : Nat) (hy : y < 8) (w : World) : (Instr.index 41 (.agg #[.bool (mhas c 0), .bool (mhas c 1), .bool (mhas c 2), .bool (mhas c 3), .bool (mhas c 4), .bool (mhas c 5), .bool (mhas c 6), .bool (mhas c 7)]) (.int .i64 (y : Int))).run Try.prog w = .ok (.bool (mhas c y)) w := by
  rcases (show y = 0 ∨ y = 1 ∨ y = 2 ∨ y = 3 ∨ y = 4 ∨ y = 5 ∨ y = 6 ∨ y = 7 by omega) with rfl | rfl | rfl | rfl | rfl | rfl | rfl | rfl <;> kernel_rfl
end Go.Proofs.Ytckbimgoepcoaaa
