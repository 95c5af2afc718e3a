/- The statement's own tables of harts; no conditions. -/
import Derived.Test.YtckbimgoepcoaaaNew
import Derived.Test.YtckbimgoepcoaaaMailW
namespace Go.Proofs.Ytckbimgoepcoaaa
open Go.RowKit

def onRow (hs : List H) : List Value := hs.map fun h => .bool h.isOn
def nestRow (hs : List H) : List Value := hs.map fun h => .int .i64 h.nest
def boxRow (hs : List H) : List Value := hs.flatMap fun h => boxL h.mail
def wasRow (ws : List Bool) : List Value := ws.map .bool
def wt (ws : List Bool) (a : Nat) : Bool := ws.getD a false

theorem onRow_get {hs : List H} {a : Nat} (ha : a < hs.length) : (onRow hs)[a]? = some (.bool (hd hs a).isOn) := by simp [onRow, hd, ha]
theorem nestRow_get {hs : List H} {a : Nat} (ha : a < hs.length) : (nestRow hs)[a]? = some (.int .i64 (hd hs a).nest) := by simp [nestRow, hd, ha]
theorem wasRow_get {ws : List Bool} {a : Nat} (ha : a < ws.length) : (wasRow ws)[a]? = some (.bool (wt ws a)) := by simp [wasRow, wt, ha]

theorem boxL_length (m : Nat) : (boxL m).length = 8 := by simp [boxL]

theorem boxRow_cons (h : H) (hs : List H) : boxRow (h :: hs) = boxL h.mail ++ boxRow hs := rfl

theorem boxRow_get (hs : List H) (a i : Nat) (ha : a < hs.length) (hi : i < 8) : (boxRow hs)[a * 8 + i]? = some (.bool (mhas (hd hs a).mail i)) := by
  induction hs generalizing a with
  | nil => simp at ha
  | cons h hs ih =>
    rw [boxRow_cons]
    cases a with
    | zero => rw [List.getElem?_append_left (by rw [boxL_length]; omega)]; simpa [hd] using boxL_get (m := h.mail) hi
    | succ a =>
      rw [List.getElem?_append_right (by rw [boxL_length]; omega), boxL_length, show (a + 1) * 8 + i - 8 = a * 8 + i by omega]
      simpa [hd] using ih a (by simpa using ha)

theorem boxL_clr {m k : Nat} : (boxL m).set k (.bool false) = boxL (mclr m k) := by
  apply List.ext_getElem
  · simp [boxL]
  · intro i h1 h2
    simp only [boxL, List.getElem_set, List.getElem_map, List.getElem_range]
    rw [mclr_has (by simpa [boxL] using h2)]
    by_cases e : k = i
    · simp [e]
    · simp [e]

theorem boxRow_set (hs : List H) (a i m' : Nat) (v : Value) (ha : a < hs.length) (hi : i < 8) (hv : (boxL (hd hs a).mail).set i v = boxL m') : (boxRow hs).set (a * 8 + i) v = boxRow (hs.set a ⟨(hd hs a).on, (hd hs a).nest, m'⟩) := by
  induction hs generalizing a with
  | nil => simp at ha
  | cons h hs ih =>
    rw [boxRow_cons]
    cases a with
    | zero =>
      rw [show 0 * 8 + i = i by omega, List.set_append_left _ _ (by rw [boxL_length]; exact hi)]
      simp only [hd, List.getD_cons_zero] at hv ⊢
      rw [hv]; rfl
    | succ a =>
      rw [List.set_append_right _ _ (by rw [boxL_length]; omega), boxL_length, show (a + 1) * 8 + i - 8 = a * 8 + i by omega]
      simp only [hd, List.getD_cons_succ] at hv ⊢
      rw [show (boxRow hs).set (a * 8 + i) v = _ from ih a (by simpa using ha) hv]
      rfl

theorem boxRow_same (hs : List H) (a : Nat) (ha : a < hs.length) (x : Bool) (n : Nat) : boxRow (hs.set a ⟨x, n, (hd hs a).mail⟩) = boxRow hs := by
  induction hs generalizing a with
  | nil => simp at ha
  | cons h hs ih =>
    cases a with
    | zero => simp [boxRow_cons, hd]
    | succ a =>
      have := ih a (by simpa using ha)
      simp only [hd, List.getD_cons_succ, List.set_cons_succ, boxRow_cons] at this ⊢
      rw [this]

theorem onRow_set (hs : List H) (a : Nat) (h : H) : onRow (hs.set a h) = (onRow hs).set a (.bool h.isOn) := by simp [onRow, List.map_set]
theorem nestRow_set (hs : List H) (a : Nat) (h : H) : nestRow (hs.set a h) = (nestRow hs).set a (.int .i64 h.nest) := by simp [nestRow, List.map_set]

theorem set_same {l : List Value} {a : Nat} {v : Value} (h : l[a]? = some v) : l.set a v = l := by
  apply List.ext_getElem?
  intro i
  by_cases e : a = i
  · subst e; rw [h, List.getElem?_set_self]; exact (List.getElem?_eq_some_iff.1 h).1
  · rw [List.getElem?_set_ne e]

theorem onRow_same (hs : List H) (a : Nat) (ha : a < hs.length) (h : H) (e : h.isOn = (hd hs a).isOn) : onRow (hs.set a h) = onRow hs := by
  rw [onRow_set, e]; exact set_same (onRow_get ha)
theorem nestRow_same (hs : List H) (a : Nat) (ha : a < hs.length) (h : H) (e : h.nest = (hd hs a).nest) : nestRow (hs.set a h) = nestRow hs := by
  rw [nestRow_set, e]; exact set_same (nestRow_get ha)

theorem info_int : (Try.prog.info? 3).map (fun i => (i.zero, i.size, i.bytes)) = some (some (.int .i64 0), 1, 8) := by kernel_rfl
theorem info_bool : (Try.prog.info? 4).map (fun i => (i.zero, i.size, i.bytes)) = some (some (.bool false), 1, 1) := by kernel_rfl
theorem info_box8 : (Try.prog.info? 41).map (fun i => (i.zero, i.size, i.bytes)) = some (some (.agg #[.bool false, .bool false, .bool false, .bool false, .bool false, .bool false, .bool false, .bool false]), 8, 8) := by kernel_rfl

/-- New tables. -/
def offs (n : Nat) : Array Value := (wasRow (List.replicate n false)).toArray
def nests (n : Nat) : Array Value := (nestRow (fresh n)).toArray
def boxes (n : Nat) : Array Value := (boxRow (fresh n)).toArray

theorem make_bools (n : Nat) (hn : n ≤ 8) (w : World) : (Instr.makeSlice 35 (.int .i64 (n : Int)) (.int .i64 (n : Int))).run Try.prog w =
    .ok (.slice (some ⟨w.heap.size, 0, none⟩) n n) (w.alloc (.cells (offs n) 4)) := by
  obtain ⟨i0, hi, hz0, hz1, hz2⟩ := info_parts info_bool
  have hr := run_make (P := Try.prog) w 35 4 i0 _ Try.underlying35 hi hz0 .i64 .i64 n n (by omega) (Int.le_refl _) (by rw [hz2]; omega) (by omega)
  simp only [Int.toNat_natCast] at hr
  rw [hr]
  congr 3
  rw [hz1]
  apply Array.toList_inj.1
  rw [show (Value.bool false).cells = #[Value.bool false] from rfl, toList_madeCells_one]
  simp [offs, wasRow]

theorem make_nests (n : Nat) (hn : n ≤ 8) (w : World) : (Instr.makeSlice 36 (.int .i64 (n : Int)) (.int .i64 (n : Int))).run Try.prog w =
    .ok (.slice (some ⟨w.heap.size, 0, none⟩) n n) (w.alloc (.cells (nests n) 3)) := by
  obtain ⟨i0, hi, hz0, hz1, hz2⟩ := info_parts info_int
  have hr := run_make (P := Try.prog) w 36 3 i0 _ Try.underlying36 hi hz0 .i64 .i64 n n (by omega) (Int.le_refl _) (by rw [hz2]; omega) (by omega)
  simp only [Int.toNat_natCast] at hr
  rw [hr]
  congr 3
  rw [hz1]
  apply Array.toList_inj.1
  rw [show (Value.int .i64 0).cells = #[Value.int .i64 0] from rfl, toList_madeCells_one]
  simp [nests, nestRow, fresh, ups]
  symm
  rw [List.eq_replicate_iff]
  simp

theorem made_boxes : ∀ n : Nat, n ≤ 8 → madeCells #[.bool false, .bool false, .bool false, .bool false, .bool false, .bool false, .bool false, .bool false] (n * 8) = boxes n
  | 0, _ => by kernel_rfl
  | 1, _ => by kernel_rfl
  | 2, _ => by kernel_rfl
  | 3, _ => by kernel_rfl
  | 4, _ => by kernel_rfl
  | 5, _ => by kernel_rfl
  | 6, _ => by kernel_rfl
  | 7, _ => by kernel_rfl
  | 8, _ => by kernel_rfl
  | n + 9, h => by omega

theorem make_boxes (n : Nat) (hn : n ≤ 8) (w : World) : (Instr.makeSlice 37 (.int .i64 (n : Int)) (.int .i64 (n : Int))).run Try.prog w =
    .ok (.slice (some ⟨w.heap.size, 0, none⟩) n n) (w.alloc (.cells (boxes n) 41)) := by
  obtain ⟨i0, hi, hz0, hz1, hz2⟩ := info_parts info_box8
  have hr := run_make (P := Try.prog) w 37 41 i0 _ Try.underlying37 hi hz0 .i64 .i64 n n (by omega) (Int.le_refl _) (by rw [hz2]; omega) (by omega)
  simp only [Int.toNat_natCast] at hr
  rw [hr, hz1]
  rw [← made_boxes n hn]
  rfl

end Go.Proofs.Ytckbimgoepcoaaa
