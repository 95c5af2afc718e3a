
/- A process's bytes, as plain functions; Bytes, Text, Put through one view; no conditions but lengths and that an address is a Go int. -/
import Derived.Test.YtigfgnaakoicjaaSdG
import Derived.Lib.Bytealg
namespace Go.Proofs.Ytigfgnaakoicjaa
open Go.RowKit
set_option maxRecDepth 100000
set_option linter.unusedSimpArgs false

/-- Are there n bytes from a on? -/
def arH (m : Nat) (a n : Int) : Bool := decide (0 ≤ a) && (decide (0 ≤ n) && decide (n ≤ m - a))
/-- Where the first nought lies, from a on. -/
def arN (s : ByteArray) (a : Int) : Int := Lib.indexByte ((bl s).drop a.toNat) 0
def arBy (s : ByteArray) (a n : Int) : ByteArray × Bool := if arH s.size a n = true then (s.extract a.toNat (a.toNat + n.toNat), true) else (⟨#[]⟩, false)
def arTx (s : ByteArray) (a most : Int) : ByteArray × Bool := if arH s.size a 1 = true ∧ 0 ≤ arN s a ∧ arN s a ≤ most then (s.extract a.toNat (a.toNat + (arN s a).toNat), true) else (⟨#[]⟩, false)
def arOv (s : ByteArray) (a : Nat) (d : ByteArray) : ByteArray := bs ((bl s).take a ++ bl d ++ (bl s).drop (a + d.size))
def amV (f : StF) (g : VwF) (p : Int) : V := vgetF f g (12, p)
def amT (g : VwF) (p : Int) : VwF := vgetT g (12, p)
def arPT (f : StF) (g : VwF) (p a : Int) (d : ByteArray) : VwF :=
  if arH (amV f g p).s.size a d.size = true then vputT (amT g p) (12, p) (withS (amV f g p) (arOv (amV f g p).s a.toNat d)) else amT g p
def arR (x : ByteArray × Bool) : Value := .tuple #[.string x.1, .bool x.2]

theorem arH_yes {m : Nat} {a n : Int} (h : arH m a n = true) : 0 ≤ a ∧ 0 ≤ n ∧ a + n ≤ m := by
  unfold arH at h
  simp only [Bool.and_eq_true, decide_eq_true_eq] at h
  omega
theorem arH_iff {m : Nat} {a n : Int} : arH m a n = true ↔ 0 ≤ a ∧ 0 ≤ n ∧ a + n ≤ m := by
  refine ⟨arH_yes, fun h => ?_⟩
  unfold arH
  simp only [Bool.and_eq_true, decide_eq_true_eq]
  omega
theorem arOv_size {s d : ByteArray} {a : Nat} (h : a + d.size ≤ s.size) : (arOv s a d).size = s.size := by
  rw [← bl_len]
  unfold arOv
  rw [bl_bs]
  simp [bl_len]
  omega
theorem idx_lt (l : Bs) (c : UInt8) : Lib.indexByte l c < l.length ∨ Lib.indexByte l c = -1 := by
  induction l with
  | nil => exact .inr rfl
  | cons b l ih =>
    unfold Lib.indexByte
    by_cases h : (b == c) = true
    · rw [if_pos h]; left; simp
    · rw [if_neg h]
      by_cases h2 : (Lib.indexByte l c == -1) = true
      · rw [if_pos h2]; exact .inr rfl
      · rw [if_neg h2]
        left
        rcases ih with h3 | h3
        · simp; omega
        · rw [h3] at h2; simp at h2
theorem arN_lt {s : ByteArray} {a : Nat} (ha : a ≤ s.size) : arN s a < s.size - a ∨ arN s a = -1 := by
  have h := idx_lt ((bl s).drop a) 0
  rw [List.length_drop, bl_len] at h
  unfold arN
  rw [Int.toNat_natCast]
  rcases h with h | h
  · left; omega
  · exact .inr h

section
/-- A row of bytes with room behind it. -/
def RowC (G : Nat) (l : Bs) (w : World) : Prop := ∃ Y t lo hi, w.heap[G]? = some (.cells Y t (lo, hi)) ∧ Y.toList.take l.length = Lib.byteCells l ∧ l.length ≤ Y.size ∧ Y.size ≤ lo
theorem stores_fr {P : Program} (g o : Nat) (t : TypeId) (lo hi : Nat) : ∀ (vs : List Value) (i : Nat) (cur : Array Value) (w : World), w.heap[g]? = some (.cells cur t (lo, hi)) → o + i + vs.length ≤ cur.size → cur.size ≤ lo → (∀ v ∈ vs, v.oneCell' = true) →
    (storeCells ⟨g, o, none⟩ vs i).run P w = .ok () (w.setRow g (cur.toList.take (o + i) ++ vs ++ cur.toList.drop (o + i + vs.length)).toArray)
  | [], i, cur, w, hg, _, _, _ => by
    simp only [storeCells, List.append_nil, List.length_nil, Nat.add_zero, List.take_append_drop, Array.toArray_toList]
    rw [setRow_self w g cur t (lo, hi) hg]
    rfl
  | v :: rest, i, cur, w, hg, hl, hlo, h1 => by
    have hi2 : o + i < cur.size := by simp at hl; omega
    have hadd : (⟨g, o, none⟩ : Addr).add i = ⟨g, o + i, none⟩ := by unfold Addr.add; split <;> simp_all
    have hcell : w.cell? ⟨g, o + i, none⟩ = some cur[o + i] := by simp [World.cell?, hg, hi2]
    have hfro : w.frozen? ⟨g, o + i, none⟩ = false := by simp [World.frozen?, hg]; omega
    have hst : (store ((⟨g, o, none⟩ : Addr).add i) v).run P w = .ok () (w.setRow g (cur.setIfInBounds (o + i) v)) := by
      rw [hadd, run_store P w _ v _ (h1 v (by simp)), hcell]
      simp [hfro, setCell_eq_setRow w g (o + i) cur t (lo, hi) v hg]
    have ih := stores_fr (P := P) g o t lo hi rest (i + 1) (cur.setIfInBounds (o + i) v) (w.setRow g (cur.setIfInBounds (o + i) v)) (setRow_heap w g cur _ t _ hg) (by simp at hl ⊢; omega) (by simpa using hlo) (fun x hx => h1 x (by simp [hx]))
    simp only [storeCells, Sem.run_bind, hst, Result.andThen_ok, ih, setRow_setRow]
    congr 3
    have e := list_seg_step cur.toList (o + i) v rest (by simp at hl ⊢; omega)
    simpa [Array.toList_setIfInBounds, Nat.add_assoc] using e
/-- '[]byte(s)'. -/
theorem bytes_of (s : ByteArray) (w : World) : ∃ c w', (convert 9 24 (.string s)).run Try.prog w = .ok (.slice (some ⟨w.heap.size, 0, none⟩) s.size c) w' ∧ RowC w.heap.size (bl s) w' ∧ Kept (fun _ => False) w w' ∧ s.size ≤ c := by
  have hge := grownCap_ge w s.size 0 5
  obtain ⟨c, hc⟩ : ∃ c, grownCap w s.size 0 5 = c := ⟨_, rfl⟩
  have hr := run_bytes_of_string (P := Try.prog) w 9 24 5 s Try.underlying9 Try.underlying24 Try.underlying5
  rw [hc] at hr hge
  have hb := alloc_at' (w := w.drew) (.cells (bytesRow s c) 5 ((bytesRow s c).size, (bytesRow s c).size + 1)) (n := w.heap.size) rfl
  have hsz : s.size ≤ (bytesRow s c).size := by
    unfold bytesRow
    simp
  refine ⟨c, _, hr, ⟨_, _, _, _, hb, ?_, by rw [bl_len]; exact hsz, Nat.le_refl _⟩, ((Kept.refl _ w).drew).alloc _, hge⟩
  unfold bytesRow
  rw [Array.toList_append, bl_len]
  have hz : (s.data.map (fun b => Value.int .u8 b.toNat)).toList.length = s.size := by simp
  rw [← hz, List.take_left]
  simp [Lib.byteCells, bl]
/-- 'copy(b[o:], s)' from a text that has room. -/
theorem copy_fr {w : World} {G : Nat} {l : Bs} (h : RowC G l w) (ty : TypeId) (o n c : Nat) (s : ByteArray) (hn : o + s.size ≤ l.length) (hs : s.size ≤ n) :
    ∃ m wY, (Builtin.copy_ #[24, 9] ty #[.slice (some ⟨G, o, none⟩) n c, .string s]).run Try.prog w = .ok m wY ∧ RowC G (l.take o ++ bl s ++ l.drop (o + s.size)) wY ∧ Kept (fun k => k = G) w wY := by
  obtain ⟨Y, t, lo, hi, hg, hY, hl, hlo⟩ := h
  have hinfo : (Try.prog.info? 5).map (·.size) = some 1 := by kernel_rfl
  have hm : min s.size n = s.size := Nat.min_eq_left hs
  have hlen : (Lib.byteCells (bl s)).length = s.size := by rw [Lib.byteCells_length, bl_len]
  have hst := stores_fr (P := Try.prog) G o t lo hi (Lib.byteCells (bl s)) 0 Y w hg (by rw [hlen]; omega) hlo (Lib.byteCells_one _)
  have htk : List.take s.size (List.map (fun b : UInt8 => Value.int IntKind.u8 (b.toNat : Int)) s.data.toList) = Lib.byteCells (bl s) := by
    rw [← List.map_take]
    have hall : List.take s.size s.data.toList = bl s := List.take_of_length_le (by rw [← Lib.size_eq]; exact Nat.le_refl _)
    rw [hall]; rfl
  rw [hlen] at hst
  simp only [Nat.add_zero] at hst
  have hrun : (Builtin.copy_ #[24, 9] ty #[.slice (some ⟨G, o, none⟩) n c, .string s]).run Try.prog w = .ok (goInt ((min s.size n : Nat) : Int)) (w.setRow G (Y.toList.take o ++ Lib.byteCells (bl s) ++ Y.toList.drop (o + s.size)).toArray) := by
    cases hq : Try.prog.info? 5 with
    | none => simp [hq] at hinfo
    | some i =>
      simp [Builtin.copy_, run_underlying Try.underlying24, Builtin.lenOf, Builtin.firstCells, sizeOf, typeInfo, hq, hm]
      rw [htk, hst]
      simp [Result.andThen]
  have hYl : Y.toList.length = Y.size := Array.length_toList
  have hlen2 : (l.take o ++ bl s ++ l.drop (o + s.size)).length = l.length := by simp [bl_len]; omega
  refine ⟨_, _, hrun, ⟨_, t, lo, hi, setRow_heap _ _ _ _ _ _ hg, ?_, ?_, ?_⟩, ⟨rfl, rfl, rfl, by simp, fun k hk hx => setRow_other _ _ _ _ hx⟩⟩
  · rw [List.toList_toArray, hlen2]
    have e1 : Y.toList.take o = Lib.byteCells (l.take o) := by
      rw [← cells_take, ← hY, List.take_take, Nat.min_eq_left (by omega)]
    have e2 : (Y.toList.drop (o + s.size)).take (l.length - (o + s.size)) = Lib.byteCells (l.drop (o + s.size)) := by
      rw [← cells_drop, ← hY, List.drop_take]
    have h1 : (Lib.byteCells (l.take o)).length = o := by rw [Lib.byteCells_length, List.length_take]; omega
    rw [e1, List.append_assoc, List.take_append, h1, List.take_append, hlen, List.take_of_length_le (by omega), List.take_of_length_le (l := Lib.byteCells (bl s)) (by omega), show l.length - o - s.size = l.length - (o + s.size) from by omega, e2, ← Lib.byteCells_append, ← Lib.byteCells_append, List.append_assoc]
  · rw [hlen2]; simp [hlen]; omega
  · simp [hlen]; omega
theorem rowc_text {G : Nat} {l : Bs} {w : World} (h : RowC G l w) (c : Nat) : (convert 24 9 (.slice (some ⟨G, 0, none⟩) l.length c)).run Try.prog w = .ok (.string (bs l)) w := by
  obtain ⟨Y, t, lo, hi, hg, hY, hl, hlo⟩ := h
  refine run_convert_bytes_back (P := Try.prog) w 24 9 5 ⟨G, 0, none⟩ c l Try.underlying24 Try.underlying5 Try.underlying9 (fun j hj => ?_)
  rw [Addr.add_lit, Nat.zero_add]
  have hj2 : Y[j]? = some (.int .u8 l[j].toNat) := by
    rw [← Array.getElem?_toList]
    have := congrArg (fun z => z[j]?) hY
    rw [List.getElem?_take, if_pos hj] at this
    rw [this]
    simp [Lib.byteCells, hj]
  simp [World.cell?, hg, hj2]
theorem RowC.kept {X : Nat → Prop} {G : Nat} {l : Bs} {w w' : World} (h : RowC G l w) (hk : Kept X w w') (hx : ¬ X G) : RowC G l w' := by
  obtain ⟨Y, t, lo, hi, hg, h2⟩ := h
  exact ⟨Y, t, lo, hi, hk.at hg hx, h2⟩
end

theorem amem_w (i : Int) (w : World) : Calls Try.prog 13 #[.int .i64 i] w fun e w' => e = .returned (.agg #[.int .i64 12, .int .i64 i]) ∧ Kept (fun _ => False) w w' := by
  go_enter Try.func13, Try.ntmps13
  go_wp2
  exact bodyPost_ret (results_cell_row Try.results13 _ _ w.heap.size _ _ _ _ rfl (alloc_at _ _) Try.underlying44 rfl wide_K.size) rfl ⟨rfl, (Kept.refl _ _).alloc _⟩

theorem aholds_w (s : ByteArray) (a n : Int) (hs : s.size ≤ 1000000) (ha : a ≤ 9223372036854775807) (w : World) : Calls Try.prog 14 #[.string s, .int .i64 a, .int .i64 n] w fun e w' => e = .returned (.bool (arH s.size a n)) ∧ w' = w := by
  have HE : Hid (∀ z, z = (decide (0 ≤ a) && (decide (0 ≤ n) && decide (n ≤ (s.size : Int) - a))) → z = arH s.size a n) := fun z h => h
  by_cases b1 : 0 ≤ a
  · by_cases b2 : 0 ≤ n
    · by_cases b3 : n ≤ (s.size : Int) - a
      · go_enter Try.func14, Try.ntmps14
        go_wp2
        go_ret
        exact ⟨by rw [← HE.out true (by simp [b1, b2, b3])]; rfl, rfl⟩
      · go_enter Try.func14, Try.ntmps14
        go_wp2
        go_ret
        exact ⟨by rw [← HE.out false (by simp; omega)]; rfl, rfl⟩
    · go_enter Try.func14, Try.ntmps14
      go_wp2
      go_ret
      exact ⟨by rw [← HE.out false (by simp; omega)]; rfl, rfl⟩
  · go_enter Try.func14, Try.ntmps14
    go_wp2
    go_ret
    exact ⟨by rw [← HE.out false (by simp; omega)]; rfl, rfl⟩

theorem aidx_w (s : ByteArray) (c : Int) (w : World) : Calls Try.prog 16 #[.string s, .int .u8 c] w fun e w' => e = .returned (.int .i64 (Lib.indexByte (bl s) c.toNat.toUInt8)) ∧ w' = w := by
  go_enter Try.func16, Try.ntmps16
  go_wp2_with fail
  refine Calls.mono (R := fun e w' => e = .returned (.int .i64 (Lib.indexByte (bl s) c.toNat.toUInt8)) ∧ w' = w) ?_ ?_
  · go_enter Try.func25, Try.ntmps25
    go_wp2
    rw [run_callFunc_extern Try.func31 (by kernel_rfl) (by kernel_rfl) (by kernel_rfl) (e := Extern.BytealgIndexByte.indexByte) (by kernel_rfl), Lib.run_indexByteString]
    simp only [Result.andThen]
    rw [Oper.upon_value]
    go_wp2
    go_ret
    exact ⟨rfl, rfl⟩
  · rintro e w1 ⟨rfl, rfl⟩
    go_wp2
    go_ret
    exact ⟨rfl, rfl⟩
end Go.Proofs.Ytigfgnaakoicjaa
