
/- Values of objects, notes and writes: their cells, how they are built, taken apart and held against each other; no conditions. -/
import Derived.Test.YtkpcillgoeidaaaMaps
import Derived.Test.YtkpcillgoeidaaaSkips
import Derived.Deep.MidRow
namespace Go.Proofs.Ytkpcillgoeidaaa
open Go.RowKit

/-- A value of an object. -/
structure V where
  n0 : Int
  n1 : Int
  n2 : Int
  n3 : Int
  n4 : Int
  n5 : Int
  n6 : Int
  n7 : Int
  n8 : Int
  n9 : Int
  n10 : Int
  n11 : Int
  n12 : Int
  n13 : Int
  n14 : Int
  n15 : Int
  s : ByteArray

def vc (x : V) : List Value := [.int .i64 x.n0, .int .i64 x.n1, .int .i64 x.n2, .int .i64 x.n3, .int .i64 x.n4, .int .i64 x.n5, .int .i64 x.n6, .int .i64 x.n7, .int .i64 x.n8, .int .i64 x.n9, .int .i64 x.n10, .int .i64 x.n11, .int .i64 x.n12, .int .i64 x.n13, .int .i64 x.n14, .int .i64 x.n15, .string x.s]
def nc (t : Bool × Bool × V) : List Value := .bool t.1 :: .bool t.2.1 :: vc t.2.2
def wc (t : (Int × Int) × V) : List Value := .int .i64 t.1.1 :: .int .i64 t.1.2 :: vc t.2
def vv (x : V) : Value := .agg (vc x).toArray
def ntv (t : Bool × Bool × V) : Value := .agg (nc t).toArray
def wtv (t : (Int × Int) × V) : Value := .agg (wc t).toArray
def zeroV : V := ⟨0, 0, 0, 0, 0, 0, 0, 0, 0, 0, 0, 0, 0, 0, 0, 0, ByteArray.empty⟩
theorem vc_length (x : V) : (vc x).length = 17 := rfl
theorem nc_length (t : Bool × Bool × V) : (nc t).length = 19 := rfl
theorem wc_length (t : (Int × Int) × V) : (wc t).length = 19 := rfl
theorem vc_one (x : V) : ∀ v ∈ vc x, v.oneCell' = true := by intro v hv; simp [vc] at hv; rcases hv with rfl | rfl | rfl | rfl | rfl | rfl | rfl | rfl | rfl | rfl | rfl | rfl | rfl | rfl | rfl | rfl | rfl <;> rfl
theorem nc_one (t : Bool × Bool × V) : ∀ v ∈ nc t, v.oneCell' = true := by
  intro v hv
  rcases List.mem_cons.1 hv with rfl | hv
  · rfl
  rcases List.mem_cons.1 hv with rfl | hv
  · rfl
  · exact vc_one _ v hv
theorem wc_one (t : (Int × Int) × V) : ∀ v ∈ wc t, v.oneCell' = true := by
  intro v hv
  rcases List.mem_cons.1 hv with rfl | hv
  · rfl
  rcases List.mem_cons.1 hv with rfl | hv
  · rfl
  · exact vc_one _ v hv
theorem zero_value (w : World) : (zeroValue 64).run Try.prog w = .ok (vv zeroV) w := by kernel_rfl
theorem zero_note (w : World) : (zeroValue 106).run Try.prog w = .ok (ntv (false, false, zeroV)) w := by kernel_rfl
theorem zero_bool (w : World) : (zeroValue 4).run Try.prog w = .ok (.bool false) w := by kernel_rfl

/-- A type whose values lie in n cells. -/
structure IsWide (ty : TypeId) (n : Nat) : Prop where
  desc : ∃ d, Try.prog.underlying ty = some d ∧ d.isRow = true
  size : (Try.prog.info? ty).map (·.size) = some n

theorem wide_V : IsWide 64 17 := ⟨⟨_, Try.underlying64, rfl⟩, by kernel_rfl⟩
theorem wide_N : IsWide 106 19 := ⟨⟨_, Try.underlying106, rfl⟩, by kernel_rfl⟩
theorem wide_W : IsWide 66 19 := ⟨⟨_, Try.underlying66, rfl⟩, by kernel_rfl⟩
theorem load_wide {ty : TypeId} {n : Nat} (W : IsWide ty n) {w : World} {b o : Nat} {cs : List Value} (hc : w.rangeAt b o cs) (hn : cs.length = n) :
    (Instr.loadAt ty (.pointer (some ⟨b, o, none⟩))).run Try.prog w = .ok (.agg cs.toArray) w := by
  obtain ⟨d, hu, hd⟩ := W.desc
  exact run_loadAt_mid w b o ty cs d hc hu hd (by rw [hn]; exact W.size)

theorem store_wide {ty : TypeId} {n : Nat} (W : IsWide ty n) {w : World} {b : Nat} {old cs : List Value} {t : TypeId} (hb : w.heap[b]? = some (.cells old.toArray t (0, 0))) (ho : old.length = n) (hn : cs.length = n) (h1 : ∀ v ∈ cs, v.oneCell' = true) :
    (Instr.storeAt ty (.pointer (some ⟨b, 0, none⟩)) (.agg cs.toArray)).run Try.prog w = .ok () (w.setRow b cs.toArray) := by
  simp only [Instr.storeAt, Instr.sureAddr, Sem.run_bind, Sem.run_pure, Result.andThen_ok]
  exact run_storeVar_row w b t ty old.toArray cs.toArray hb (by rw [W.size]; simp [hn]) (by simp [ho, hn]) (all_oneCell_toArray h1)

theorem whole_range {w : World} {b : Nat} {cs : List Value} {t : TypeId} (hb : w.heap[b]? = some (.cells cs.toArray t (0, 0))) : w.rangeAt b 0 cs := by
  intro j v hv
  rw [Nat.zero_add]
  exact cell_at hb (by simpa using hv)

theorem part_range {w : World} {b : Nat} {bs cs : List Value} {t : TypeId} (hb : w.heap[b]? = some (.cells (bs ++ cs).toArray t (0, 0))) {o : Nat} (ho : bs.length = o) : w.rangeAt b o cs := by
  subst ho
  intro j v hv
  refine cell_at hb ?_
  simp
  rw [List.getElem?_append_right (by omega)]
  simpa using hv

theorem range_kept {X : Nat → Prop} {w w' : World} {b o : Nat} {cs : List Value} (h : w.rangeAt b o cs) (hk : Kept X w w') (hx : ¬ X b) : w'.rangeAt b o cs :=
  fun j v hv => hk.cell (h j v hv) hx

theorem setRow_at {w : World} {b : Nat} {c : Array Value} {t : TypeId} (hb : w.heap[b]? = some (.cells c t (0, 0))) (c' : Array Value) : (w.setRow b c').heap[b]? = some (.cells c' t (0, 0)) := setRow_heap w b c c' t _ hb

theorem kept_setRow (w : World) (b : Nat) (c : Array Value) : Kept (fun n => n = b) w (w.setRow b c) :=
  ⟨rfl, rfl, rfl, by simp [World.setRow], fun k _ hk => by
    simp only [World.setRow, Array.getElem?_modify]
    rw [if_neg (fun e => hk e.symm)]⟩

theorem setRow_new (w : World) (c c' : Array Value) (t : TypeId) {n : Nat} (hn : w.heap.size = n) : (w.alloc (.cells c t)).setRow n c' = w.alloc (.cells c' t) := by
  subst hn
  simp only [World.setRow, World.alloc]
  congr 1
  apply Array.ext_getElem?
  intro i
  rw [Array.getElem?_modify]
  by_cases h : w.heap.size = i
  · subst h; simp
  · have h' : ¬ i = w.heap.size := fun e => h e.symm
    simp [h, h', Array.getElem?_push]

section
variable {ops : Array Oper} {rest : List Oper} {o : Oper} {a : Act} {w : World} {Q : Exit → Act → World → Prop}

/-- A wide load, at the list of a plain region's operations. -/
theorem list_wload (hg : o.guard = none) {ty : TypeId} {n : Nat} (W : IsWide ty n) (x : Operand) (ho : o.op = .load ty x) (b off : Nat) (hx : a.eval x = .pointer (some ⟨b, off, none⟩)) (cs : List Value) (hc : w.rangeAt b off cs) (hn : cs.length = n)
    (h : wpList Try.prog ops Q rest (a.put o.dst (.agg cs.toArray)) w) : wpList Try.prog ops Q (o :: rest) a w := by
  obtain ⟨d, hu, hd⟩ := W.desc
  exact wpList_load_mid hg ty x ho b off hx cs d hc hu hd (by rw [hn]; exact W.size) h

/-- A wide store into a variable that was just made. -/
theorem list_wnew (hg : o.guard = none) {ty : TypeId} {n : Nat} (W : IsWide ty n) (x y : Operand) (ho : o.op = .store ty x y) (b : Nat) (hx : a.eval x = .pointer (some ⟨b, 0, none⟩)) (cs : List Value) (hy : a.eval y = .agg cs.toArray)
    (old : Array Value) (hold : old.size = n) (hb : w.heap.size = b) (hn : cs.length = n) (h1 : ∀ v ∈ cs, v.oneCell' = true) {t : TypeId}
    (h : wpList Try.prog ops Q rest (a.put o.dst undef) (w.alloc (.cells cs.toArray t))) : wpList Try.prog ops Q (o :: rest) a (w.alloc (.cells old t)) := by
  refine wpList_store_row hg ty x y ho b cs.toArray hx hy t old (alloc_at' _ hb) (by rw [W.size]; simp [hn]) (by simp [hold, hn]) (all_oneCell_toArray h1) ?_
  rw [setRow_new w _ _ t hb]
  exact h

/-- A wide store into a variable. -/
theorem list_wstore (hg : o.guard = none) {ty : TypeId} {n : Nat} (W : IsWide ty n) (x y : Operand) (ho : o.op = .store ty x y) (b : Nat) (hx : a.eval x = .pointer (some ⟨b, 0, none⟩)) (cs : List Value) (hy : a.eval y = .agg cs.toArray)
    {old : Array Value} {t : TypeId} (hold : w.heap[b]? = some (.cells old t (0, 0))) (hs : old.size = n) (hn : cs.length = n) (h1 : ∀ v ∈ cs, v.oneCell' = true)
    (h : wpList Try.prog ops Q rest (a.put o.dst undef) (w.setRow b cs.toArray)) : wpList Try.prog ops Q (o :: rest) a w :=
  wpList_store_row hg ty x y ho b cs.toArray hx hy t old hold (by rw [W.size]; simp [hn]) (by simp [hs, hn]) (all_oneCell_toArray h1) h
end

theorem build_zero (w : World) : (Instr.build 64 #[]).run Try.prog w = .ok (vv zeroV) w := by kernel_rfl
theorem build_note (a b : Bool) (x : V) (w : World) : (Instr.build 106 #[(0, .bool a), (1, .bool b), (2, vv x)]).run Try.prog w = .ok (ntv (a, b, x)) w := by kernel_rfl
theorem build_write (k : Int × Int) (x : V) (w : World) : (Instr.build 66 #[(0, kv k), (1, vv x)]).run Try.prog w = .ok (wtv (k, x)) w := by kernel_rfl
theorem slice_write (t : (Int × Int) × V) (w : World) : (Instr.buildSlice 39 1 #[(0, wtv t)]).run Try.prog w = .ok (.slice (some ⟨w.heap.size, 0, none⟩) 1 1) (w.alloc (.cells (wc t).toArray 66)) := by kernel_rfl
theorem field_read (t : Bool × Bool × V) (w : World) : (Instr.field 106 (ntv t) 0).run Try.prog w = .ok (.bool t.1) w := by kernel_rfl
theorem field_last (t : Bool × Bool × V) (w : World) : (Instr.field 106 (ntv t) 2).run Try.prog w = .ok (vv t.2.2) w := by kernel_rfl

theorem forIn_yields {α : Type} (body : α → Option Bool × Unit → Sem (ForInStep (Option Bool × Unit))) (w : World) : ∀ (l : List α), (∀ i ∈ l, (body i (none, ())).run Try.prog w = .ok (.yield (none, ())) w) →
    (forIn l (none, ()) body).run Try.prog w = .ok (none, ()) w
  | [], _ => by simp
  | x :: r, h => by
    rw [List.forIn_cons, Sem.run_bind, h x (by simp)]
    simp only [Result.andThen_ok]
    exact forIn_yields body w r (fun i hi => h i (by simp [hi]))

theorem equalIn_arr (d : Nat) (cs : Array Value) (h : ∀ i, i < 16 → ∃ n, cs[i]? = some (.int .i64 n)) (w : World) : (Op.equalIn (d + 1 + 1) 62 (.agg cs) (.agg cs)).run Try.prog w = .ok true w := by
  rw [Op.equalIn]
  simp only [Sem.run_bind, Try.runUnderlying62, Result.andThen_ok, Try.sizeOf3]
  simp only [Std.Legacy.Range.forIn_eq_forIn_range', Std.Legacy.Range.size, Nat.sub_zero, Nat.add_sub_cancel, Nat.div_one]
  rw [forIn_yields]
  · simp
  · intro i hi
    have hi' : i < 16 := by simp at hi; omega
    obtain ⟨n, hn⟩ := h i hi'
    simp [part, Sem.run_bind, hn, equalIn_int]

theorem equalIn_str (d : Nat) (s : ByteArray) (w : World) : (Op.equalIn (d + 1) 9 (.string s) (.string s)).run Try.prog w = .ok true w := by
  rw [Op.equalIn]
  simp [Sem.run_bind]
  exact (MapKept.bytes_beq s s).2 rfl

theorem vc_ints (x : V) (i : Nat) (h : i < 16) : ∃ n, (vc x)[i]? = some (.int .i64 n) := by
  rcases i with _ | _ | _ | _ | _ | _ | _ | _ | _ | _ | _ | _ | _ | _ | _ | _ | i <;> first | exact ⟨_, rfl⟩ | omega

theorem vc_arr (x : V) (i : Nat) (hi : i < 16) : ∃ n, ((vc x).toArray.extract 0 16)[i]? = some (.int .i64 n) := by
  obtain ⟨n, hn⟩ := vc_ints x i hi
  refine ⟨n, ?_⟩
  rw [Array.getElem?_extract]
  simp only [List.size_toArray, vc_length]
  rw [if_pos (by omega)]
  simpa using hn

theorem vc_str (x : V) : (vc x).toArray[16]? = some (.string x.s) := by rfl

theorem part_arr (cs : Array Value) (w : World) : (part 62 cs 0).run Try.prog w = .ok (.agg (cs.extract 0 16)) w := by simp [part, Sem.run_bind]
theorem part_str (cs : Array Value) (s : ByteArray) (h : cs[16]? = some (.string s)) (w : World) : (part 9 cs 16).run Try.prog w = .ok (.string s) w := by simp [part, Sem.run_bind, h]

theorem forIn_yieldsA {α : Type} (body : α → Option Bool × Unit → Sem (ForInStep (Option Bool × Unit))) (w : World) (l : Array α) (h : ∀ i ∈ l.toList, (body i (none, ())).run Try.prog w = .ok (.yield (none, ())) w) :
    (forIn l (none, ()) body).run Try.prog w = .ok (none, ()) w := by
  rw [← Array.forIn_toList]
  exact forIn_yields body w l.toList h

theorem equalIn_cells (e : Nat) (cs : Array Value) (s : ByteArray) (w : World) (h1 : (Op.equalIn e 62 (.agg (cs.extract 0 16)) (.agg (cs.extract 0 16))).run Try.prog w = .ok true w)
    (h2 : (Op.equalIn e 9 (.string s) (.string s)).run Try.prog w = .ok true w) (h3 : cs[16]? = some (.string s)) : (Op.equalIn (e + 1) 64 (.agg cs) (.agg cs)).run Try.prog w = .ok true w := by
  have e1 := part_arr cs w
  have e2 := part_str cs s h3 w
  have hp : (program).run Try.prog w = .ok Try.prog w := rfl
  rw [Op.equalIn]
  simp only [Sem.run_bind, Try.runUnderlying64, Result.andThen_ok, hp, Try.stoodInHeld64, Bool.false_eq_true, if_false]
  rw [forIn_yieldsA]
  · rfl
  · intro f hf
    simp only [List.mem_cons, List.not_mem_nil, or_false] at hf
    rcases hf with rfl | rfl
    · rw [if_pos (by decide)]
      simp only [Sem.run_bind, e1, h1, Result.andThen_ok]
      rfl
    · rw [if_pos (by decide)]
      simp only [Sem.run_bind, e2, h2, Result.andThen_ok]
      rfl

theorem equalIn_vv (d : Nat) (x : V) (w : World) : (Op.equalIn (d + 1 + 1 + 1) 64 (vv x) (vv x)).run Try.prog w = .ok true w :=
  equalIn_cells (d + 1 + 1) (vc x).toArray x.s w (equalIn_arr d _ (vc_arr x) w) (equalIn_str (d + 1) x.s w) (vc_str x)

theorem part_val (t : (Int × Int) × V) (w : World) : (part 64 (wc t).toArray 2).run Try.prog w = .ok (vv t.2) w := by kernel_rfl
theorem part_key (t : (Int × Int) × V) (w : World) : (part 61 (wc t).toArray 0).run Try.prog w = .ok (kv t.1) w := by kernel_rfl

theorem equalIn_wtv (d : Nat) (t : (Int × Int) × V) (w : World) : (Op.equalIn (d + 1 + 1 + 1 + 1) 66 (wtv t) (wtv t)).run Try.prog w = .ok true w := by
  have e1 := part_key t w
  have e2 := part_val t w
  have h1 := equalIn_kv (d + 1) t.1 t.1 w
  have h2 := equalIn_vv d t.2 w
  have hp : (program).run Try.prog w = .ok Try.prog w := rfl
  rw [wtv, Op.equalIn]
  simp only [Sem.run_bind, Try.runUnderlying66, Result.andThen_ok, hp, Try.stoodInHeld66, Bool.false_eq_true, if_false]
  rw [forIn_yieldsA]
  · rfl
  · intro f hf
    simp only [List.mem_cons, List.not_mem_nil, or_false] at hf
    rcases hf with rfl | rfl
    · rw [if_pos (by decide)]
      simp only [Sem.run_bind, e1, h1, Result.andThen_ok, beq_self_eq_true]
      rfl
    · rw [if_pos (by decide)]
      simp only [Sem.run_bind, e2, h2, Result.andThen_ok]
      rfl

theorem eq_vv (x : V) (w : World) : (Op.equal 64 (vv x) (vv x)).run Try.prog w = .ok true w := equalIn_vv 9997 x w
theorem eq_wtv (t : (Int × Int) × V) (w : World) : (Op.equal 66 (wtv t) (wtv t)).run Try.prog w = .ok true w := equalIn_wtv 9996 t w
end Go.Proofs.Ytkpcillgoeidaaa
