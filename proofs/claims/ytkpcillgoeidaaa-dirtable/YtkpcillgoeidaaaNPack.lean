
/- What Pack does when it is called; no conditions but a length. -/
import Derived.Test.YtkpcillgoeidaaaNWalks
import Derived.Deep.SlicePairs
import Derived.Laws.IdiomStrings
namespace Go.Proofs.Ytkpcillgoeidaaa.Nm
set_option maxRecDepth 100000
open Go.RowKit

/-- 'copy(dst, s)' from a text: as much as there is room for. -/
theorem run_copy_part {P : Program} (w : World) (dT sT ty elem : TypeId) (g o dLen dCap : Nat) (s : ByteArray) (cur : Array Value) (t : TypeId)
    (hu : P.underlying dT = some (.slice elem)) (hs : (P.info? elem).map (·.size) = some 1) (hg : w.heap[g]? = some (.cells cur t (0, 0))) (hfit : o + min s.size dLen ≤ cur.size) :
    (Builtin.copy_ #[dT, sT] ty #[.slice (some ⟨g, o, none⟩) dLen dCap, .string s]).run P w =
      .ok (goInt ((min s.size dLen : Nat) : Int)) (w.setRow g (cur.toList.take o ++ Lib.byteCells (s.data.toList.take (min s.size dLen)) ++ cur.toList.drop (o + min s.size dLen)).toArray) := by
  have hlen : (Lib.byteCells (s.data.toList.take (min s.size dLen))).length = min s.size dLen := by
    rw [Lib.byteCells_length, List.length_take, ← Lib.size_eq]; omega
  have hst := run_storeCells_at P g o t (Lib.byteCells (s.data.toList.take (min s.size dLen))) 0 cur w hg (by rw [hlen]; simpa using hfit) (Lib.byteCells_one _)
  have htk : List.take (min s.size dLen) (List.map (fun b : UInt8 => Value.int IntKind.u8 (b.toNat : Int)) s.data.toList) = Lib.byteCells (s.data.toList.take (min s.size dLen)) := by
    rw [← List.map_take]; rfl
  rw [hlen] at hst
  simp only [Nat.add_zero] at hst
  cases hq : P.info? elem with
  | none => simp [hq] at hs
  | some i =>
    simp [Builtin.copy_, run_underlying hu, Builtin.lenOf, Builtin.firstCells, sizeOf, typeInfo, hq]
    rw [htk, hst]
    simp [Result.andThen]

def zero16 : Array Value := #[.int .u8 0, .int .u8 0, .int .u8 0, .int .u8 0, .int .u8 0, .int .u8 0, .int .u8 0, .int .u8 0, .int .u8 0, .int .u8 0, .int .u8 0, .int .u8 0, .int .u8 0, .int .u8 0, .int .u8 0, .int .u8 0]

theorem zero16_list : zero16.toList = Lib.byteCells (List.replicate 16 0) := rfl

/-- The sixteen bytes when the name is in. -/
def halfF (l : Bs) : Bs := l.take 14 ++ List.replicate (16 - min 14 l.length) 0
theorem half_len (l : Bs) : (halfF l).length = 16 := by unfold halfF; simp; omega
theorem half_pack (l : Bs) (n : Int) : packF l n = (halfF l).take 14 ++ [loF n, hiF n] := by
  unfold packF halfF
  congr 1
  rw [List.take_append, List.take_replicate, List.take_take, Nat.min_self, List.length_take]
  congr 2
  omega

theorem copy_in (w : World) (g : Nat) (t ty : TypeId) (s : ByteArray) (hg : w.heap[g]? = some (.cells zero16 t (0, 0))) :
    ∃ m Y wY, (Builtin.copy_ #[52, 9] ty #[.slice (some ⟨g, 0, none⟩) 14 16, .string s]).run Try.prog w = .ok m wY ∧ wY.heap[g]? = some (.cells Y t (0, 0)) ∧ Y.toList = Lib.byteCells (halfF (bl s)) ∧ Kept (fun k => k = g) w wY := by
  have hinfo : (Try.prog.info? 5).map (·.size) = some 1 := by kernel_rfl
  refine ⟨_, _, _, run_copy_part (P := Try.prog) w 52 9 ty 5 g 0 14 16 s zero16 t Try.underlying52 hinfo hg (by show 0 + min s.size 14 ≤ 16; omega), setRow_heap _ _ _ _ _ _ hg, ?_, ?_⟩
  · rw [List.toList_toArray, List.take_zero, List.nil_append, zero16_list]
    have : List.drop (0 + min s.size 14) (Lib.byteCells (List.replicate 16 0)) = Lib.byteCells (List.replicate (16 - min 14 s.size) 0) := by
      unfold Lib.byteCells
      rw [← List.map_drop, List.drop_replicate]
      congr 2
      omega
    rw [this, ← Lib.byteCells_append]
    unfold halfF
    rw [bl_len]
    congr 2
    show List.take (min s.size 14) (bl s) = _
    rw [List.take_eq_take_iff, bl_len]
    omega
  · exact ⟨rfl, rfl, rfl, by simp, fun k hk hx => setRow_other _ _ _ _ hx⟩

theorem list_at {l : Bs} {Y : Array Value} (h : Y.toList = Lib.byteCells l) {i : Nat} {x : UInt8} (hi : l[i]? = some x) : Y[i]? = some (.int .u8 x.toNat) := by
  rw [← Array.getElem?_toList, h]
  simp [Lib.byteCells, hi]

/-- What the sixteen bytes are as a text when the number is in. -/
theorem pack_out (w : World) (g : Nat) (t : TypeId) (Y : Array Value) (l : Bs) (n a b : Int) (hg : w.heap[g]? = some (.cells Y t (0, 0))) (hY : Y.toList = Lib.byteCells (halfF l)) (ha : a = n % 256) (hb : b = n / 256 % 256) :
    (convert 52 9 (.slice (some ⟨g, 0, none⟩) 16 16)).run Try.prog ((w.setCell ⟨g, 14, none⟩ (.int .u8 a)).setCell ⟨g, 15, none⟩ (.int .u8 b)) = .ok (.string (bs (packF l n))) ((w.setCell ⟨g, 14, none⟩ (.int .u8 a)).setCell ⟨g, 15, none⟩ (.int .u8 b)) := by
  have h := run_convert_bytes_back (P := Try.prog) ((w.setCell ⟨g, 14, none⟩ (.int .u8 a)).setCell ⟨g, 15, none⟩ (.int .u8 b)) 52 9 5 ⟨g, 0, none⟩ 16 (packF l n) Try.underlying52 Try.underlying5 Try.underlying9 ?_
  · rw [pack_len] at h
    exact h
  · intro j hj
    rw [pack_len] at hj
    have h2 := set_at (set_at hg 14 (.int .u8 a)) 15 (.int .u8 b)
    have hx : (packF l n)[j]? = some ((packF l n)[j]'(by rw [pack_len]; exact hj)) := List.getElem?_eq_getElem _
    generalize (packF l n)[j]'(by rw [pack_len]; exact hj) = x at hx ⊢
    rw [Addr.add_lit, Nat.zero_add]
    refine cell_at h2 ?_
    have hYs : Y.size = 16 := by rw [← Array.length_toList, hY, Lib.byteCells_length, half_len]
    rw [half_pack] at hx
    by_cases h15 : j = 15
    · subst h15
      rw [List.getElem?_append_right (by simp [half_len])] at hx
      have : 15 - (List.take 14 (halfF l)).length = 1 := by simp [half_len]
      rw [this] at hx
      simp at hx
      subst hx
      rw [hi_nat, ← hb]
      simp [hYs]
    · by_cases h14 : j = 14
      · subst h14
        rw [List.getElem?_append_right (by simp [half_len])] at hx
        have : 14 - (List.take 14 (halfF l)).length = 0 := by simp [half_len]
        rw [this] at hx
        simp at hx
        subst hx
        rw [lo_nat, ← ha]
        simp [hYs]
      · rw [List.getElem?_append_left (by simp [half_len]; omega)] at hx
        rw [List.getElem?_take, if_pos (by omega)] at hx
        have := list_at hY hx
        rw [Array.getElem?_setIfInBounds_ne (by omega), Array.getElem?_setIfInBounds_ne (by omega)]
        exact this

set_option maxHeartbeats 1000000 in
theorem pack_w (s : ByteArray) (n : Int) (w : World) :
    Calls Try.prog 71 #[.string s, .int .i64 n] w fun e w' => e = .returned (.string (bs (packF (bl s) n))) ∧ Kept (fun _ => False) w w' := by
  obtain ⟨m, Y, wY, hcp, hgY, hY, hk⟩ := copy_in (w.alloc (.cells zero16 125)) w.heap.size 125 3 s (heap_alloc_new w _)
  have hK : Kept (fun _ => False) w wY := ((Kept.refl (fun _ => False) w).alloc _).trans hk (fun k hk e => by subst e; simp at hk)
  unfold zero16 at hcp
  have c14 := cell_at hgY (i := 14) (list_at hY (x := (halfF (bl s))[14]'(by rw [half_len]; decide)) (List.getElem?_eq_getElem _))
  have c15 := cell_at hgY (i := 15) (list_at hY (x := (halfF (bl s))[15]'(by rw [half_len]; decide)) (List.getElem?_eq_getElem _))
  have f14 := free_at hgY 14
  have f15 := free_at hgY 15
  have ho := fun a b ha hb => pack_out wY w.heap.size 125 Y (bl s) n a b hgY hY ha hb
  generalize (halfF (bl s))[14]'(by rw [half_len]; decide) = x14 at c14
  generalize (halfF (bl s))[15]'(by rw [half_len]; decide) = x15 at c15
  clear hgY hY hk
  go_enter Try.func71, Try.ntmps71
  go_wp2
  go_ret
  refine ⟨rfl, Kept.setCell (Kept.setCell hK ?_ _) ?_ _⟩
  · intro h; exact absurd h (Nat.lt_irrefl _)
  · intro h; exact absurd h (Nat.lt_irrefl _)
end Go.Proofs.Ytkpcillgoeidaaa.Nm
