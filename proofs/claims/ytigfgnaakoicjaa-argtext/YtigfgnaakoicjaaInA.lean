
/- Inodes, the code's side; no conditions but lengths. -/
import Derived.Test.YtigfgnaakoicjaaStB
import Derived.Test.YtigfgnaakoicjaaStA
import Derived.IntWalk
import Derived.Lib.Strings
import Derived.Lib.BufferWrite
import Derived.Lib.UnsafeStr
import Derived.Laws.MakeOwn
import Derived.WalkSpells
import Derived.Deep.CutBlock
namespace Go.Proofs.Ytigfgnaakoicjaa
open Go.RowKit
set_option maxRecDepth 100000

def pw (i : Int) : Int := 2 ^ i.toNat
theorem below16 {i : Int} (h : 0 ≤ i) (h' : i < 16) : i = 0 ∨ i = 1 ∨ i = 2 ∨ i = 3 ∨ i = 4 ∨ i = 5 ∨ i = 6 ∨ i = 7 ∨ i = 8 ∨ i = 9 ∨ i = 10 ∨ i = 11 ∨ i = 12 ∨ i = 13 ∨ i = 14 ∨ i = 15 := by omega
theorem pw_wrap {i : Int} (h : 0 ≤ i) (h' : i < 16) : wrap64 (2 ^ i.toNat) = pw i := by
  rcases below16 h h' with rfl | rfl | rfl | rfl | rfl | rfl | rfl | rfl | rfl | rfl | rfl | rfl | rfl | rfl | rfl | rfl <;> kernel_rfl

theorem wide_K : IsWide 44 2 := ⟨⟨_, Try.underlying44, rfl⟩, by kernel_rfl⟩

/-- Is the bit i of n set? -/
def hasB (n i : Int) : Bool := decide ((n / 2 ^ i.toNat) % 2 = 1)
def orN (n i : Int) : Int := bits .or .i64 n (pw i)
def clrN (n i : Int) : Int := bits .andNot .i64 n (pw i)

theorem and_raw (n : Int) (i : Nat) (hi : i < 16) : bits .and .i64 n ((2 ^ i : Nat) : Int) = if ((n % 18446744073709551616).toNat / 2 ^ i) % 2 = 1 then ((2 ^ i : Nat) : Int) else 0 := by
  have h1 : 2 ^ i < 2 ^ 16 := Nat.pow_lt_pow_right (by omega) hi
  have h2 : ((BitVec.ofInt 64 n) &&& (BitVec.ofInt 64 ((2 ^ i : Nat) : Int))).toNat = if ((n % 18446744073709551616).toNat / 2 ^ i) % 2 = 1 then 2 ^ i else 0 := by
    rw [BitVec.ofInt_natCast, BitVec.toNat_and, BitVec.toNat_ofNat, Nat.mod_eq_of_lt (by omega : 2 ^ i < 2 ^ 64), BitVec.toNat_ofInt]
    apply Nat.eq_of_testBit_eq
    intro j
    rw [Nat.testBit_and, Nat.testBit_two_pow]
    by_cases hj : i = j
    · subst hj
      rw [show (n % ((2 ^ 64 : Nat) : Int)) = n % 18446744073709551616 from rfl, Nat.testBit_eq_decide_div_mod_eq]
      by_cases hb : (n % 18446744073709551616).toNat / 2 ^ i % 2 = 1
      · simp [hb]
      · simp [hb]
    · split
      · simp [hj]
      · simp [hj]
  show IntKind.i64.wrap (((BitVec.ofInt 64 n) &&& (BitVec.ofInt 64 ((2 ^ i : Nat) : Int))).toNat : Int) = _
  rw [h2, IntKind.wrap_i64]
  by_cases hb : (n % 18446744073709551616).toNat / 2 ^ i % 2 = 1
  · rw [if_pos hb, if_pos hb]
    clear hb h2
    generalize 2 ^ i = z at *
    omega
  · rw [if_neg hb, if_neg hb]
    rfl

theorem and_b (n i : Int) (h : 0 ≤ i) (h' : i < 16) : bits .and .i64 n (pw i) = if hasB n i = true then pw i else 0 := by
  obtain ⟨k, rfl⟩ : ∃ k : Nat, i = k := ⟨i.toNat, by omega⟩
  have e : pw (k : Int) = ((2 ^ k : Nat) : Int) := by unfold pw; simp
  rw [e, and_raw n k (by omega)]
  unfold hasB
  have : ((n % 18446744073709551616).toNat / 2 ^ k) % 2 = 1 ↔ (n / 2 ^ ((k : Nat) : Int).toNat) % 2 = 1 := by
    simp only [Int.toNat_natCast]
    rcases below16 h h' with q | q | q | q | q | q | q | q | q | q | q | q | q | q | q | q <;> (obtain rfl : k = _ := by exact_mod_cast q) <;> simp only [Nat.reducePow, Int.reducePow] <;> omega
  simp only [this, decide_eq_true_eq]
theorem and_one (m : Int) : bits .and .i64 m 1 = m % 2 := by
  have := and_raw m 0 (by omega)
  simp only [Nat.pow_zero, Nat.div_one, Int.natCast_one] at this
  rw [this]
  split <;> omega
theorem pw_pos {i : Int} (h : 0 ≤ i) (h' : i < 16) : 0 < pw i := by
  rcases below16 h h' with rfl | rfl | rfl | rfl | rfl | rfl | rfl | rfl | rfl | rfl | rfl | rfl | rfl | rfl | rfl | rfl <;> decide
end Go.Proofs.Ytigfgnaakoicjaa

namespace Go.Proofs.Ytigfgnaakoicjaa
open Go.RowKit
set_option maxRecDepth 100000
set_option linter.unusedSimpArgs false

def findV (f : StF) (g : VwF) (i : Int) : V := if 1 ≤ i ∧ i < 16 then (if (vgetF f g (10, i)).n0 = 0 then zeroV else vgetF f g (10, i)) else zeroV
def findT (g : VwF) (i : Int) : VwF := if 1 ≤ i ∧ i < 16 then vgetT g (10, i) else g
def isI (f : StF) (g : VwF) (i : Int) : Bool := decide ((findV f g i).n0 ≠ 0)

theorem results_two {fn : Func} {p q : Tmp} {ty : TypeId} (h : fn.results = #[.cell p ty, .tmp q]) (tmps : Array Value) (w : World) (g : Nat) (t : TypeId) (cs : List Value) (x : Value) (n : Nat) (W : IsWide ty n)
    (hp : tmps.getD p undef = .pointer (some ⟨g, 0, none⟩)) (hq : tmps.getD q undef = x) (hb : w.heap[g]? = some (.cells cs.toArray t (0, 0))) (hn : cs.length = n) :
    (results fn tmps).run Try.prog w = .ok (.tuple #[.agg cs.toArray, x]) w := by
  obtain ⟨d, hu, hd⟩ := W.desc
  have hl := run_loadVar_row (P := Try.prog) w g t ty cs.toArray (0, 0) d hb hu (by cases d <;> first | rfl | cases hd) (by rw [W.size]; simp [hn])
  have hp' : tmps[p]?.getD undef = .pointer (some ⟨g, 0, none⟩) := by simpa using hp
  have hq' : tmps[q]?.getD undef = x := by simpa using hq
  simp [results, h, hp', hq', asAddr, hl]

end Go.Proofs.Ytigfgnaakoicjaa

namespace Go.Proofs.Ytigfgnaakoicjaa
open Go.RowKit
set_option maxRecDepth 100000

abbrev Bs := List UInt8

def bl (s : ByteArray) : Bs := s.data.toList
def bs (l : Bs) : ByteArray := ⟨l.toArray⟩

theorem bl_bs (l : Bs) : bl (bs l) = l := rfl
theorem bs_bl (s : ByteArray) : bs (bl s) = s := Lib.mk_data s
theorem bl_len (s : ByteArray) : (bl s).length = s.size := (Lib.size_eq s).symm
theorem bs_size (l : Bs) : (bs l).size = l.length := by rw [← bl_len, bl_bs]
theorem toList_bl (s : ByteArray) : s.toList = bl s := Lib.toList_data s
theorem extract_bs (s : ByteArray) (a b : Nat) : s.extract a b = bs (((bl s).drop a).take (b - a)) := Lib.extract_eq s a b
theorem bl_extract (s : ByteArray) (a b : Nat) : bl (s.extract a b) = ((bl s).drop a).take (b - a) := by rw [extract_bs, bl_bs]
theorem bs_inj {a b : Bs} (h : bs a = bs b) : a = b := by rw [← bl_bs a, h, bl_bs]
theorem bl_inj {a b : ByteArray} (h : bl a = bl b) : a = b := by rw [← bs_bl a, h, bs_bl]
theorem bl_app (a b : ByteArray) : bl (a ++ b) = bl a ++ bl b := by
  obtain ⟨⟨x⟩⟩ := a
  obtain ⟨⟨y⟩⟩ := b
  rw [ByteArray.mk_append_mk]; rfl
theorem bl_at (s : ByteArray) {i : Nat} (h : i < s.size) : (bl s)[i]? = some s[i] := by
  obtain ⟨⟨l⟩⟩ := s
  have : i < l.length := h
  simp only [bl]
  rw [List.getElem?_eq_getElem this]
  rfl

theorem info_byte : (Try.prog.info? 5).map (fun i => (i.zero, i.size, i.bytes)) = some (some (.int .u8 0), 1, 1) := by kernel_rfl

theorem below_kept {w w' : World} (h : Below w.heap.size w w') : Kept (fun _ => False) w w' := ⟨h.os, h.tape, h.output, h.size, fun k hk _ => h.block k hk⟩

theorem lite_w (s : ByteArray) (hs : s.size ≤ 1000000) (w : World) :
    Calls Try.prog 26 #[.string s] w fun e w' => e = .returned (.string s) ∧ Kept (fun _ => False) w w' := by
  by_cases h0 : s.size = 0
  · have hs : s = ⟨#[]⟩ := by
      apply ByteArray.ext
      exact Array.eq_empty_of_size_eq_zero h0
    subst hs
    go_enter Try.func26, Try.ntmps26
    go_wp2
    go_ret
    exact ⟨rfl, Kept.refl _ _⟩
  · obtain ⟨i0, hi, hz0, hz1, hz2⟩ := info_parts info_byte
    have hinfo : (Try.prog.info? 5).map (·.size) = some 1 := by rw [hi]; simp [hz1]
    have hco : Try.prog.cellsOf 5 = 1 := by kernel_rfl
    obtain ⟨M, hM⟩ : ∃ M, M = madeCells (Value.int .u8 0).cells (((s.size : Nat) : Int).toNat * i0.size) := ⟨_, rfl⟩
    have hMs : M.size = s.size := by rw [hM, size_madeCells, hz1]; simp
    have hmk : ∀ W : World, (Instr.makeSlice 24 (.int .i64 (s.size : Int)) (.int .i64 (s.size : Int))).run Try.prog W = .ok (.slice (some ⟨W.heap.size, 0, none⟩) s.size s.size) (W.alloc (.cells M 5)) := fun W => by
      have h := run_make (P := Try.prog) W 24 5 i0 (.int .u8 0) Try.underlying24 hi hz0 .i64 .i64 (s.size : Int) (s.size : Int) (by omega) (by omega) (by rw [hz2]; omega) (by omega)
      rw [← hM] at h
      simpa using h
    clear hM
    have hcp := Lib.run_copy_row_string (P := Try.prog) (w.alloc (.cells M 5)) 24 9 3 5 w.heap.size 0 s.size s.size s M 5 Try.underlying24 hinfo (heap_alloc_new w _) (Nat.le_refl _) (by omega)
    obtain ⟨Y, hY⟩ : ∃ Y, Y = (M.toList.take 0 ++ Lib.byteCells s.data.toList ++ M.toList.drop (0 + s.size)).toArray := ⟨_, rfl⟩
    rw [← hY] at hcp
    have hYl : Y.toList = Lib.byteCells s.data.toList := by
      rw [hY, List.toList_toArray, List.take_zero, List.nil_append, List.drop_of_length_le (by rw [Array.length_toList]; omega), List.append_nil]
    have hYs : Y.size = s.size := by rw [← Array.length_toList, hYl, Lib.byteCells_length, ← Lib.size_eq]
    have hgY : ((w.alloc (.cells M 5)).setRow w.heap.size Y).heap[w.heap.size]? = some (.cells Y 5 (0, 0)) := setRow_heap _ _ M _ 5 (0, 0) (heap_alloc_new w _)
    have hne : s.data.toList ≠ [] := fun e => h0 (by rw [Lib.size_eq, e]; rfl)
    have hUS := Lib.run_unsafeString_row (P := Try.prog) ((w.alloc (.cells M 5)).setRow w.heap.size Y) 72 3 9 5 Try.underlying72 hco w.heap.size Y.size (by unfold World.shape?; rw [hgY]) s.data.toList hne (by rw [← Lib.size_eq]; omega) (by rw [← Lib.size_eq]; omega)
      (fun j x hx => Lib.cells_of_row hgY Y.size j _ (by rw [List.take_of_length_le (by rw [Array.length_toList]; exact Nat.le_refl _), hYl]; simp [Lib.byteCells, hx]))
    rw [← Lib.size_eq] at hUS
    clear hY
    go_enter Try.func26, Try.ntmps26
    go_wp2
    go_ret
    have hb1 : Below w.heap.size w (w.alloc (.cells M 5)) := (Below.refl _ w).alloc (Nat.le_refl _) _
    have hb2 : Below w.heap.size (w.alloc (.cells M 5)) ((w.alloc (.cells M 5)).setRow w.heap.size Y) := ⟨rfl, rfl, rfl, by simp, fun k hk => setRow_other _ _ _ _ (by omega)⟩
    exact ⟨rfl, below_kept (Lib.below_freeze (hb1.trans hb2) (p := ⟨w.heap.size, 0, none⟩) (Nat.le_refl _) _)⟩

theorem clone_w (s : ByteArray) (hs : s.size ≤ 1000000) (w : World) :
    Calls Try.prog 17 #[.string s] w fun e w' => e = .returned (.string s) ∧ Kept (fun _ => False) w w' := by
  go_enter Try.func17, Try.ntmps17
  go_wp2_with fail
  refine (lite_w s hs w).mono ?_
  rintro e w1 ⟨rfl, hk⟩
  go_wp2
  go_ret
  exact ⟨rfl, hk⟩
end Go.Proofs.Ytigfgnaakoicjaa

namespace Go.Proofs.Ytigfgnaakoicjaa
open Go.RowKit
set_option maxRecDepth 100000
set_option linter.unusedSimpArgs false

/-- Of the bytes s, n at most from off on. -/
def partF (s : ByteArray) (off n : Int) : ByteArray := if 0 ≤ off ∧ 1 ≤ n then bs (((bl s).drop off.toNat).take n.toNat) else ByteArray.empty

theorem part_no {s : ByteArray} {off n : Int} (h : off < 0 ∨ (s.size : Int) ≤ off ∨ n < 1) : partF s off n = ByteArray.empty := by
  unfold partF
  split
  · have : (bl s).drop off.toNat = [] := List.drop_eq_nil_of_le (by rw [bl_len]; omega)
    rw [this]; simp; rfl
  · rfl

theorem part_ext {s : ByteArray} {o m : Nat} {n : Int} (h1 : 1 ≤ n) (h2 : (o : Int) ≤ s.size) (h : (m : Int) = n ∨ (m = s.size - o ∧ (m : Int) ≤ n)) : (s.extract o s.size).extract 0 m = partF s o n := by
  unfold partF
  rw [if_pos ⟨by omega, h1⟩]
  apply bl_inj
  have e : List.take (s.size - o) (List.drop o (bl s)) = List.drop o (bl s) := List.take_of_length_le (by rw [List.length_drop, bl_len]; omega)
  rw [bl_extract, bl_extract, bl_bs, Int.toNat_natCast, List.drop_zero, Nat.sub_zero, e]
  rw [List.take_eq_take_iff, List.length_drop, bl_len]
  omega

end Go.Proofs.Ytigfgnaakoicjaa

namespace Go.Proofs.Ytigfgnaakoicjaa
open Go.RowKit
set_option maxRecDepth 100000
set_option linter.unusedSimpArgs false

def numV (n : Int) : V := ⟨n, 0, 0, 0, 0, 0, 0, 0, 0, 0, 0, 0, 0, 0, 0, 0, ByteArray.empty⟩
/-- The least place whose bit is not set; 16: there is none. -/
def freeN (n : Int) : Int := ((List.range 15).find? (fun j : Nat => !hasB n ((j : Int) + 1))).elim 16 (fun j : Nat => (j : Int) + 1)
def withN (x : V) (n : Int) : V := { x with n0 := n }
def allocA (f : StF) (g : VwF) : Int := freeN (vgetF f g (9, 0)).n0
def allocT (f : StF) (g : VwF) (typ : Int) : VwF := if allocA f g < 16 then vputT (vputT (vgetT g (9, 0)) (9, 0) (withN (vgetF f g (9, 0)) (orN (vgetF f g (9, 0)).n0 (allocA f g)))) (10, allocA f g) (numV typ) else vgetT g (9, 0)
def allocV (i : Int) : Value := .tuple #[.int .i64 (if i < 16 then i else 0), .bool (decide (i < 16))]

theorem freeN_at {n i : Int} (h1 : 1 ≤ i) (h2 : i < 16) (ha : ∀ j, 1 ≤ j → j < i → hasB n j = true) (hi : hasB n i = false) : freeN n = i := by
  unfold freeN
  have : (List.range 15).find? (fun j : Nat => !hasB n ((j : Int) + 1)) = some (i - 1).toNat := by
    rw [List.find?_range_eq_some]
    refine ⟨?_, by simp; omega, fun j hj => ?_⟩
    · rw [show (((i - 1).toNat : Nat) : Int) + 1 = i by omega, hi]; rfl
    · rw [ha _ (by omega) (by omega)]; rfl
  rw [this]
  show (((i - 1).toNat : Nat) : Int) + 1 = i
  omega
theorem freeN_none {n : Int} (ha : ∀ j, 1 ≤ j → j < 16 → hasB n j = true) : freeN n = 16 := by
  unfold freeN
  have : (List.range 15).find? (fun j : Nat => !hasB n ((j : Int) + 1)) = none := by
    rw [List.find?_eq_none]
    intro j hj
    have : j < 15 := by simpa using hj
    rw [ha _ (by omega) (by omega)]; simp
  rw [this]; rfl

end Go.Proofs.Ytigfgnaakoicjaa

namespace Go.Proofs.Ytigfgnaakoicjaa
open Go.RowKit
set_option maxRecDepth 100000
set_option linter.unusedSimpArgs false

def cutD (d : ByteArray) (o : Nat) : ByteArray := bs ((bl d).take (128 - o))
def overF (s : ByteArray) (o : Nat) (d : ByteArray) : ByteArray := bs ((bl s).take o ++ bl d ++ (bl s).drop (o + d.size))
def wrOk (f : StF) (g : VwF) (i off : Int) : Bool := isI f g i && decide (0 ≤ off) && decide (off ≤ 128) && decide (off ≤ (findV f g i).s.size)
def withS (x : V) (s : ByteArray) : V := { x with s := s }
def writeA (f : StF) (g : VwF) (i off : Int) (d : ByteArray) : Int := if wrOk f g i off = true then ((cutD d off.toNat).size : Int) else -1
def writeT (f : StF) (g : VwF) (i off : Int) (d : ByteArray) : VwF := if wrOk f g i off = true then vputT (findT g i) (10, i) (withS (findV f g i) (overF (findV f g i).s off.toNat (cutD d off.toNat))) else findT g i

theorem cutD_size (d : ByteArray) (o : Nat) : (cutD d o).size = min (128 - o) d.size := by unfold cutD; rw [bs_size, List.length_take, bl_len]
theorem cutD_ext {d : ByteArray} {o m : Nat} (h : m = min (128 - o) d.size) : d.extract 0 m = cutD d o := by
  unfold cutD
  rw [extract_bs]
  congr 1
  rw [List.drop_zero, Nat.sub_zero, List.take_eq_take_iff, bl_len]
  omega

/-- 'copy(dst, s)' from a text: as much as there is room for. -/
theorem run_copy_part {P : Program} (w : World) (dT sT ty elem : TypeId) (g o dLen dCap : Nat) (s : ByteArray) (cur : Array Value) (t : TypeId)
    (hu : P.underlying dT = some (.slice elem)) (hs : (P.info? elem).map (·.size) = some 1) (hg : w.heap[g]? = some (.cells cur t (0, 0))) (hfit : o + min s.size dLen ≤ cur.size) :
    (Builtin.copy_ #[dT, sT] ty #[.slice (some ⟨g, o, none⟩) dLen dCap, .string s]).run P w =
      .ok (goInt ((min s.size dLen : Nat) : Int)) (w.setRow g (cur.toList.take o ++ Lib.byteCells (s.data.toList.take (min s.size dLen)) ++ cur.toList.drop (o + min s.size dLen)).toArray) := by
  have hlen : (Lib.byteCells (s.data.toList.take (min s.size dLen))).length = min s.size dLen := by
    rw [Lib.byteCells_length, List.length_take, ← Lib.size_eq]; omega
  have hst := run_storeCells_at P g o t (Lib.byteCells (s.data.toList.take (min s.size dLen))) 0 cur w hg (by rw [hlen]; simpa using hfit) (Lib.byteCells_one _)
  have htk : List.take (min s.size dLen) (List.map (fun b : UInt8 => Value.int IntKind.u8 (b.toNat : Int)) s.data.toList) = Lib.byteCells (s.data.toList.take (min s.size dLen)) := by
    rw [← List.map_take]; rfl
  rw [hlen] at hst
  simp only [Nat.add_zero] at hst
  cases hq : P.info? elem with
  | none => simp [hq] at hs
  | some i =>
    simp [Builtin.copy_, run_underlying hu, Builtin.lenOf, Builtin.firstCells, sizeOf, typeInfo, hq]
    rw [htk, hst]
    simp [Result.andThen]

/-- A row of bytes. -/
def RowB (G : Nat) (l : Bs) (w : World) : Prop := ∃ Y t, w.heap[G]? = some (.cells Y t (0, 0)) ∧ Y.toList = Lib.byteCells l

theorem cells_take (l : Bs) (n : Nat) : (Lib.byteCells l).take n = Lib.byteCells (l.take n) := by unfold Lib.byteCells; rw [List.map_take]
theorem cells_drop (l : Bs) (n : Nat) : (Lib.byteCells l).drop n = Lib.byteCells (l.drop n) := by unfold Lib.byteCells; rw [List.map_drop]

theorem copy_in {w : World} {G : Nat} {l : Bs} (h : RowB G l w) (ty : TypeId) (o n c : Nat) (s : ByteArray) (hn : o + s.size ≤ l.length) (hs : s.size ≤ n) :
    ∃ m wY, (Builtin.copy_ #[24, 9] ty #[.slice (some ⟨G, o, none⟩) n c, .string s]).run Try.prog w = .ok m wY ∧ RowB G (l.take o ++ bl s ++ l.drop (o + s.size)) wY ∧ Kept (fun k => k = G) w wY := by
  obtain ⟨Y, t, hg, hY⟩ := h
  have hinfo : (Try.prog.info? 5).map (·.size) = some 1 := by kernel_rfl
  have hYs : Y.size = l.length := by rw [← Array.length_toList, hY, Lib.byteCells_length]
  have hm : min s.size n = s.size := Nat.min_eq_left hs
  refine ⟨_, _, run_copy_part (P := Try.prog) w 24 9 ty 5 G o n c s Y t Try.underlying24 hinfo hg (by omega), ⟨_, t, setRow_heap _ _ _ _ _ _ hg, ?_⟩, ⟨rfl, rfl, rfl, by simp, fun k hk hx => setRow_other _ _ _ _ hx⟩⟩
  have hall : List.take s.size s.data.toList = bl s := List.take_of_length_le (by rw [← Lib.size_eq]; exact Nat.le_refl _)
  rw [List.toList_toArray, hm, hY, cells_take, cells_drop, hall, ← Lib.byteCells_append, ← Lib.byteCells_append]

theorem row_text {G : Nat} {l : Bs} {w : World} (h : RowB G l w) (c : Nat) : (convert 24 9 (.slice (some ⟨G, 0, none⟩) l.length c)).run Try.prog w = .ok (.string (bs l)) w := by
  obtain ⟨Y, t, hg, hY⟩ := h
  refine run_convert_bytes_back (P := Try.prog) w 24 9 5 ⟨G, 0, none⟩ c l Try.underlying24 Try.underlying5 Try.underlying9 (fun j hj => ?_)
  rw [Addr.add_lit, Nat.zero_add]
  refine cell_at hg ?_
  rw [← Array.getElem?_toList, hY]
  simp [Lib.byteCells, hj]

theorem make_bytes (L : Nat) (hL : L ≤ 1000000) (w : World) : ∃ w', (Instr.makeSlice 24 (.int .i64 (L : Int)) (.int .i64 (L : Int))).run Try.prog w = .ok (.slice (some ⟨w.heap.size, 0, none⟩) L L) w' ∧ RowB w.heap.size (List.replicate L 0) w' ∧ Kept (fun _ => False) w w' := by
  obtain ⟨i0, hi, hz0, hz1, hz2⟩ := info_parts info_byte
  have h := run_make (P := Try.prog) w 24 5 i0 (.int .u8 0) Try.underlying24 hi hz0 .i64 .i64 (L : Int) (L : Int) (by omega) (by omega) (by rw [hz2]; omega) (by omega)
  refine ⟨_, by simpa using h, ⟨_, _, alloc_at _ _, ?_⟩, (Kept.refl _ _).alloc _⟩
  rw [hz1]
  simp [madeCells, Lib.byteCells, Value.cells, Nat.mod_one, Array.toList_range]
  rw [List.eq_replicate_iff]
  simp

theorem over_row {s d : ByteArray} {o L : Nat} (ho : o ≤ s.size) (hL : L = max s.size (o + d.size)) :
    ((List.replicate L (0 : UInt8)).take 0 ++ bl s ++ (List.replicate L 0).drop (0 + s.size)).length = L ∧
    (((List.replicate L (0 : UInt8)).take 0 ++ bl s ++ (List.replicate L 0).drop (0 + s.size)).take o ++ bl d ++ ((List.replicate L 0).take 0 ++ bl s ++ (List.replicate L 0).drop (0 + s.size)).drop (o + d.size)) = bl (overF s o d) ∧ (bl (overF s o d)).length = L := by
  have e1 : (bl s).length = s.size := bl_len s
  have e2 : (bl d).length = d.size := bl_len d
  have hl : ((List.replicate L (0 : UInt8)).take 0 ++ bl s ++ (List.replicate L 0).drop (0 + s.size)).length = L := by simp; omega
  have h2 : ((List.replicate L (0 : UInt8)).take 0 ++ bl s ++ (List.replicate L 0).drop (0 + s.size)).take o = (bl s).take o := by
    simp only [List.take_zero, List.nil_append]
    exact List.take_append_of_le_length (by omega)
  have h3 : ((List.replicate L (0 : UInt8)).take 0 ++ bl s ++ (List.replicate L 0).drop (0 + s.size)).drop (o + d.size) = (bl s).drop (o + d.size) := by
    simp only [List.take_zero, List.nil_append, List.drop_replicate, List.drop_append, e1]
    have : (List.replicate (L - (0 + s.size)) (0 : UInt8)).drop (o + d.size - s.size) = [] := List.drop_eq_nil_of_le (by simp; omega)
    rw [List.drop_replicate] at this
    rw [this, List.append_nil]
  refine ⟨hl, by rw [h2, h3]; rfl, ?_⟩
  unfold overF
  rw [bl_bs]
  simp [e1, e2]
  omega

end Go.Proofs.Ytigfgnaakoicjaa

namespace Go.Proofs.Ytigfgnaakoicjaa
open Go.RowKit
set_option maxRecDepth 100000
set_option linter.unusedSimpArgs false

def chgV (x : V) (a b : Int) : V := { x with n1 := wrap64 (x.n1 + a), n2 := wrap64 (x.n2 + b) }
/-- What is left when inode i goes. -/
def goneT (f : StF) (g : VwF) (i : Int) : VwF := vputT (vgetT (vputT g (10, i) zeroV) (9, 0)) (9, 0) (withN (vgetF f (vputT g (10, i) zeroV) (9, 0)) (clrN (vgetF f (vputT g (10, i) zeroV) (9, 0)).n0 i))
def changeT (f : StF) (g : VwF) (i a b : Int) : VwF :=
  if isI f g i = true then (if 0 < (chgV (findV f g i) a b).n1 ∨ 0 < (chgV (findV f g i) a b).n2 then vputT (findT g i) (10, i) (chgV (findV f g i) a b) else goneT f (findT g i) i) else findT g i

theorem is_range {f : StF} {g : VwF} {i : Int} (h : isI f g i = true) : 1 ≤ i ∧ i < 16 := by
  unfold isI findV at h
  split at h
  · assumption
  · simp [zeroV] at h

end Go.Proofs.Ytigfgnaakoicjaa

namespace Go.Proofs.Ytigfgnaakoicjaa
open Go.RowKit

theorem plc_ik {i : Int} (h : 1 ≤ i) (h' : i < 16) : 0 ≤ plc (10, i) := by
  rcases below16 (by omega : 0 ≤ i) h' with rfl | rfl | rfl | rfl | rfl | rfl | rfl | rfl | rfl | rfl | rfl | rfl | rfl | rfl | rfl | rfl <;> decide
theorem plc_tk : 0 ≤ plc (9, 0) := by decide
theorem ik_ne (i : Int) : ((9, 0) : K2) ≠ (10, i) := by intro e; injection e with e1 _; omega

theorem nt_upd (g : VwF) (k j : K2) (t : Bool × Bool × V) : noteF (upd g k t) j = if j = k then t else noteF g j := by
  unfold noteF upd; split <;> rfl
theorem note_put {g : VwF} {k j : K2} {x : V} (h : 0 ≤ plc k) : noteF (vputT g k x) j = if j = k then ((noteF g k).1, true, x) else noteF g j := by
  unfold vputT; rw [if_pos h, nt_upd]
theorem note_get {g : VwF} {k j : K2} (h : 0 ≤ plc k) : noteF (vgetT g k) j = if j = k then (true, (noteF g k).2) else noteF g j := by
  unfold vgetT; rw [if_pos h, nt_upd]
theorem get_put_other {f : StF} {g : VwF} {k j : K2} {x : V} (hk : 0 ≤ plc k) (hne : j ≠ k) : vgetF f (vputT g k x) j = vgetF f g j := by
  unfold vgetF; rw [note_put hk, if_neg hne]
theorem get_get {f : StF} {g : VwF} {k j : K2} : vgetF f (vgetT g k) j = vgetF f g j := by
  by_cases hk : 0 ≤ plc k
  · unfold vgetF
    rw [note_get hk]
    by_cases e : j = k
    · subst e; rw [if_pos rfl]
    · rw [if_neg e]
  · unfold vgetT; rw [if_neg hk]
theorem get_put {f : StF} {g : VwF} {k : K2} {x : V} (hk : 0 ≤ plc k) : vgetF f (vputT g k x) k = x := by
  unfold vgetF; rw [if_pos hk, note_put hk, if_pos rfl]; rfl

theorem find_eq {f f' : StF} {g g' : VwF} {j : Int} (h : vgetF f' g' (10, j) = vgetF f g (10, j)) : findV f' g' j = findV f g j := by unfold findV; rw [h]
theorem is_eq {f f' : StF} {g g' : VwF} {j : Int} (h : findV f' g' j = findV f g j) : isI f' g' j = isI f g j := by unfold isI; rw [h]
theorem find_find (f : StF) (g : VwF) (i j : Int) : findV f (findT g i) j = findV f g j := by
  refine find_eq ?_
  unfold findT
  split
  · exact get_get
  · rfl
theorem find_getT (f : StF) (g : VwF) (j : Int) : findV f (vgetT g (9, 0)) j = findV f g j := find_eq get_get
theorem find_putT (f : StF) (g : VwF) (y : V) (j : Int) : findV f (vputT g (9, 0) y) j = findV f g j := find_eq (get_put_other plc_tk (fun e => ik_ne j e.symm))
theorem find_putI {f : StF} {g : VwF} {i : Int} (h1 : 1 ≤ i) (h2 : i < 16) (x : V) (j : Int) : findV f (vputT g (10, i) x) j = if j = i then (if x.n0 = 0 then zeroV else x) else findV f g j := by
  by_cases e : j = i
  · subst e
    rw [if_pos rfl]
    unfold findV
    rw [if_pos ⟨h1, h2⟩, get_put (plc_ik h1 h2)]
  · rw [if_neg e]
    exact find_eq (get_put_other (plc_ik h1 h2) (fun q => e (by injection q)))

def tblF (f : StF) (g : VwF) : V := vgetF f g (9, 0)
theorem tbl_find (f : StF) (g : VwF) (i : Int) : tblF f (findT g i) = tblF f g := by
  unfold tblF findT
  split
  · exact get_get
  · rfl
theorem tbl_getT (f : StF) (g : VwF) : tblF f (vgetT g (9, 0)) = tblF f g := get_get
theorem tbl_putT (f : StF) (g : VwF) (y : V) : tblF f (vputT g (9, 0) y) = y := get_put plc_tk
theorem tbl_putI {f : StF} {g : VwF} {i : Int} (h1 : 1 ≤ i) (h2 : i < 16) (x : V) : tblF f (vputT g (10, i) x) = tblF f g := get_put_other (plc_ik h1 h2) (ik_ne i)

theorem is_n0 {f : StF} {g : VwF} {i : Int} (h : isI f g i = true) : (findV f g i).n0 ≠ 0 := by simpa [isI] using h

/-- What Change leaves. -/
theorem change_find {f : StF} {g : VwF} {i : Int} (a b : Int) (h : isI f g i = true) (j : Int) :
    findV f (changeT f g i a b) j = if j = i then (if 0 < (chgV (findV f g i) a b).n1 ∨ 0 < (chgV (findV f g i) a b).n2 then chgV (findV f g i) a b else zeroV) else findV f g j := by
  obtain ⟨h1, h2⟩ := is_range h
  have hn := is_n0 h
  unfold changeT
  rw [if_pos h]
  by_cases hs : 0 < (chgV (findV f g i) a b).n1 ∨ 0 < (chgV (findV f g i) a b).n2
  · rw [if_pos hs, if_pos hs, find_putI h1 h2, find_find, if_neg (show ¬ (chgV (findV f g i) a b).n0 = 0 from hn)]
  · rw [if_neg hs, if_neg hs]
    unfold goneT
    rw [find_putT, find_getT, find_putI h1 h2, find_find]
    rfl
theorem change_no {f : StF} {g : VwF} {i : Int} (a b : Int) (h : isI f g i = false) : changeT f g i a b = findT g i := by
  unfold changeT; rw [if_neg (by simp [h])]
theorem change_other {f : StF} {g : VwF} {i : Int} (a b : Int) {j : Int} (h : j ≠ i) : findV f (changeT f g i a b) j = findV f g j := by
  cases hi : isI f g i with
  | true => rw [change_find a b hi, if_neg h]
  | false => rw [change_no a b hi, find_find]
theorem change_tbl {f : StF} {g : VwF} {i : Int} (a b : Int) (h : isI f g i = true) :
    tblF f (changeT f g i a b) = if 0 < (chgV (findV f g i) a b).n1 ∨ 0 < (chgV (findV f g i) a b).n2 then tblF f g else withN (tblF f g) (clrN (tblF f g).n0 i) := by
  obtain ⟨h1, h2⟩ := is_range h
  unfold changeT
  rw [if_pos h]
  split
  · rw [tbl_putI h1 h2, tbl_find]
  · unfold goneT
    rw [tbl_putT]
    have := tbl_putI (f := f) (g := findT g i) h1 h2 zeroV
    rw [tbl_find] at this
    unfold tblF at this ⊢
    rw [this]
theorem change_size {f : StF} {g : VwF} {n : Nat} (i a b : Int) (h : ∀ j, (findV f g j).s.size ≤ n) (j : Int) : (findV f (changeT f g i a b) j).s.size ≤ n := by
  by_cases e : j = i
  · cases hi : isI f g i with
    | true =>
      rw [change_find a b hi, if_pos e]
      split
      · exact h i
      · exact Nat.zero_le _
    | false => rw [change_no a b hi, find_find]; exact h j
  · rw [change_other a b e]; exact h j

/-- What Write leaves. -/
theorem wr_is {f : StF} {g : VwF} {i off : Int} (h : wrOk f g i off = true) : isI f g i = true ∧ 0 ≤ off ∧ off ≤ 128 ∧ off ≤ (findV f g i).s.size := by
  unfold wrOk at h
  simp only [Bool.and_eq_true, decide_eq_true_eq] at h
  exact ⟨h.1.1.1, h.1.1.2, h.1.2, h.2⟩
theorem write_find {f : StF} {g : VwF} {i off : Int} (d : ByteArray) (h : wrOk f g i off = true) (j : Int) :
    findV f (writeT f g i off d) j = if j = i then withS (findV f g i) (overF (findV f g i).s off.toNat (cutD d off.toNat)) else findV f g j := by
  have hi := (wr_is h).1
  obtain ⟨h1, h2⟩ := is_range hi
  have hn := is_n0 hi
  unfold writeT
  rw [if_pos h, find_putI h1 h2, find_find, if_neg (show ¬ (withS (findV f g i) (overF (findV f g i).s off.toNat (cutD d off.toNat))).n0 = 0 from hn)]
theorem write_no {f : StF} {g : VwF} {i off : Int} (d : ByteArray) (h : wrOk f g i off = false) : writeT f g i off d = findT g i ∧ writeA f g i off d = -1 := by
  unfold writeT writeA; rw [if_neg (by simp [h]), if_neg (by simp [h])]; exact ⟨rfl, rfl⟩
theorem write_other {f : StF} {g : VwF} {i off : Int} (d : ByteArray) {j : Int} (h : j ≠ i) : findV f (writeT f g i off d) j = findV f g j := by
  cases hi : wrOk f g i off with
  | true => rw [write_find d hi, if_neg h]
  | false => rw [(write_no d hi).1, find_find]
theorem over_size (s d : ByteArray) (o : Nat) (ho : o ≤ s.size) : (overF s o d).size = max s.size (o + d.size) := by
  unfold overF
  rw [bs_size]
  simp [bl_len]
  omega
theorem write_size {f : StF} {g : VwF} {n : Nat} (hn : 128 ≤ n) (i off : Int) (d : ByteArray) (h : ∀ j, (findV f g j).s.size ≤ n) (j : Int) : (findV f (writeT f g i off d) j).s.size ≤ n := by
  by_cases e : j = i
  · cases hi : wrOk f g i off with
    | true =>
      obtain ⟨-, h1, h2, h3⟩ := wr_is hi
      rw [write_find d hi, if_pos e]
      show (overF _ _ _).size ≤ n
      rw [over_size _ _ _ (by omega), cutD_size]
      have := h i
      omega
    | false => rw [(write_no d hi).1, find_find]; exact h j
  · rw [write_other d e]; exact h j
theorem write_tbl {f : StF} {g : VwF} (i off : Int) (d : ByteArray) : tblF f (writeT f g i off d) = tblF f g := by
  cases hi : wrOk f g i off with
  | true =>
    obtain ⟨h1, h2⟩ := is_range (wr_is hi).1
    unfold writeT
    rw [if_pos hi, tbl_putI h1 h2, tbl_find]
  | false => rw [(write_no d hi).1, tbl_find]

/-- What Alloc leaves. -/
theorem freeN_pos (n : Int) : 1 ≤ freeN n := by
  unfold freeN
  cases (List.range 15).find? (fun j : Nat => !hasB n ((j : Int) + 1)) with
  | none => show (1 : Int) ≤ 16; omega
  | some j => show (1 : Int) ≤ (j : Int) + 1; omega
theorem alloc_find {f : StF} {g : VwF} {typ : Int} (ht : typ ≠ 0) (h : allocA f g < 16) (j : Int) : findV f (allocT f g typ) j = if j = allocA f g then numV typ else findV f g j := by
  have h1 : 1 ≤ allocA f g := freeN_pos _
  unfold allocT
  rw [if_pos h, find_putI h1 h, find_putT, find_getT, if_neg (show ¬ (numV typ).n0 = 0 from ht)]
theorem alloc_tbl {f : StF} {g : VwF} (typ : Int) (h : allocA f g < 16) : tblF f (allocT f g typ) = withN (tblF f g) (orN (tblF f g).n0 (allocA f g)) := by
  have h1 : 1 ≤ allocA f g := freeN_pos _
  unfold allocT
  rw [if_pos h, tbl_putI h1 h, tbl_putT]
  rfl
theorem alloc_is (f : StF) (g : VwF) : allocA f g = freeN (tblF f g).n0 := rfl
theorem alloc_full {f : StF} {g : VwF} (typ : Int) (h : ¬ allocA f g < 16) : allocT f g typ = vgetT g (9, 0) := by unfold allocT; rw [if_neg h]
end Go.Proofs.Ytigfgnaakoicjaa
