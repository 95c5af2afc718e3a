/- A memory, and what each access of it does; no conditions. -/
import Derived.Test.YtlfcbijgncpieaaWalks
import Derived.Laws.OwnMore
namespace Go.Proofs.Ytlfcbijgncpieaa
open Go.RowKit

/-- What word a of a row has. -/
def wd (ws : List Int) (a : Nat) : Int := ws.getD a 0

theorem row_at {w : World} {b : Nat} {ws : List Int} (h : w.heap[b]? = some (.cells (ws.map (Value.int .i64)).toArray 3 (0, 0))) {a : Nat} (ha : a < ws.length) : w.cell? ⟨b, a, none⟩ = some (.int .i64 (wd ws a)) :=
  cell_at h (by simp [wd, ha])

theorem row_put {w : World} {b : Nat} {ws : List Int} (h : w.heap[b]? = some (.cells (ws.map (Value.int .i64)).toArray 3 (0, 0))) (a : Nat) (v : Int) :
    (w.setCell ⟨b, a, none⟩ (.int .i64 v)).heap[b]? = some (.cells ((ws.set a v).map (Value.int .i64)).toArray 3 (0, 0)) :=
  (set_at h a _).trans (by simp [List.map_set])

/-- A memory in block p, its words in block b: what they have, how many accesses there were. -/
structure MemIn (p b : Nat) (ws : List Int) (c : Int) (w : World) : Prop where
  mem : w.heap[p]? = some (.cells #[.slice (some ⟨b, 0, none⟩) ws.length ws.length, .int .i64 c] 47 (0, 0))
  row : w.heap[b]? = some (.cells (ws.map (Value.int .i64)).toArray 3 (0, 0))
  ne : p ≠ b

theorem MemIn.kept {p b : Nat} {ws : List Int} {c : Int} {w w' : World} {X : Nat → Prop} (h : MemIn p b ws c w) (hk : Kept X w w') (hp : ¬ X p) (hb : ¬ X b) : MemIn p b ws c w' :=
  ⟨hk.at h.mem hp, hk.at h.row hb, h.ne⟩

theorem MemIn.word {p b : Nat} {ws : List Int} {c : Int} {w : World} (h : MemIn p b ws c w) {a : Nat} (ha : a < ws.length) : w.cell? ⟨b, a, none⟩ = some (.int .i64 (wd ws a)) := row_at h.row ha

theorem MemIn.counted {p b : Nat} {ws : List Int} {c : Int} {w : World} (h : MemIn p b ws c w) (c' : Int) : MemIn p b ws c' (w.setCell ⟨p, 1, none⟩ (.int .i64 c')) :=
  ⟨set_at h.mem 1 _, (set_off _ h.ne.symm).trans h.row, h.ne⟩

theorem MemIn.put {p b : Nat} {ws : List Int} {c : Int} {w : World} (h : MemIn p b ws c w) (a : Nat) (v : Int) : MemIn p b (ws.set a v) c (w.setCell ⟨b, a, none⟩ (.int .i64 v)) := by
  refine ⟨(set_off _ h.ne).trans (by simpa using h.mem), ?_, h.ne⟩
  exact row_put h.row a v

theorem access_ok (p b : Nat) (ws : List Int) (c : Int) (a : Nat) (ha : a < ws.length) (hc : 0 ≤ c ∧ c ≤ 1000000) (w : World) (h : MemIn p b ws c w) :
    Calls Try.prog 26 #[.pointer (some ⟨p, 0, none⟩), .int .i64 a] w fun e w' => e = .returned (.pointer (some ⟨b, a, none⟩)) ∧ w' = w.setCell ⟨p, 1, none⟩ (.int .i64 (c + 1)) := by
  have c0 := cell_at h.mem (i := 0) rfl
  have c1 := cell_at h.mem (i := 1) rfl
  have f1 := free_at h.mem 1
  have ha' : (a : Int) < (ws.length : Int) := by omega
  have hd : decide ((0 : Int) ≤ (a : Int)) = true := by simp
  go_enter Try.func26, Try.ntmps26
  go_wp2_with fail
  refine (must_ok _ _ w).mono ?_
  rintro e w1 ⟨rfl, rfl⟩
  go_wp2
  go_ret
  exact ⟨rfl, rfl⟩

theorem access_no (p b : Nat) (ws : List Int) (c : Int) (a : Int) (ha : a < 0 ∨ (ws.length : Int) ≤ a) (w : World) (h : MemIn p b ws c w) :
    Calls Try.prog 26 #[.pointer (some ⟨p, 0, none⟩), .int .i64 a] w fun e w' => (Out.halts 2 a).ends e ∧ w' = w := by
  have c0 := cell_at h.mem (i := 0) rfl
  by_cases h0 : a < 0
  · have hd : decide ((0 : Int) ≤ a) = false := by simp; omega
    go_enter Try.func26, Try.ntmps26
    go_wp2_with fail
    refine (must_not _ _ w).mono ?_
    rintro e w1 ⟨he, rfl⟩
    rcases ends_cases he with ⟨h, rfl⟩ | ⟨hst, v, older, hv, rfl, hold⟩
    · cases h
    · exact ⟨rfl, ends_stop hv hold, rfl⟩
  · have hd : decide ((0 : Int) ≤ a) = true := by simp; omega
    have h1 : (ws.length : Int) ≤ a := by omega
    have hd1 : decide (a < (ws.length : Int)) = false := by simp; omega
    go_enter Try.func26, Try.ntmps26
    go_wp2_with fail
    refine (must_not _ _ w).mono ?_
    rintro e w1 ⟨he, rfl⟩
    rcases ends_cases he with ⟨h, rfl⟩ | ⟨hst, v, older, hv, rfl, hold⟩
    · cases h
    · exact ⟨rfl, ends_stop hv hold, rfl⟩

theorem kept_counted {X : Nat → Prop} {w w' : World} {p : Nat} (h : Kept X w w') (hp : X p) (v : Value) (i : Nat) : Kept X w (w'.setCell ⟨p, i, none⟩ v) := Kept.setCell h (fun _ => hp) v

/-- Load of a word that there is. -/
theorem load_ok (p b : Nat) (ws : List Int) (c : Int) (a : Nat) (ha : a < ws.length) (hc : 0 ≤ c ∧ c ≤ 1000000) (w : World) (h : MemIn p b ws c w) :
    Calls Try.prog 18 #[.pointer (some ⟨p, 0, none⟩), .int .i64 a] w fun e w' => e = .returned (.int .i64 (wd ws a)) ∧ MemIn p b ws (c + 1) w' ∧ Kept (fun k => k = p) w w' := by
  have h1 := h.counted (c + 1)
  have cw := h1.word ha
  have HK : Hid (Kept (fun k => k = p) w (w.setCell ⟨p, 1, none⟩ (.int .i64 (c + 1)))) := kept_counted (X := fun k => k = p) (Kept.refl _ _) rfl _ _
  have A := access_ok p b ws c a ha hc w h
  go_enter Try.func18, Try.ntmps18
  go_wp2_with fail
  refine A.mono ?_
  rintro e w1 ⟨rfl, rfl⟩
  clear A
  go_wp2
  go_ret
  exact ⟨rfl, h1, HK.out⟩

/-- Add to a word that there is. -/
theorem add_ok (p b : Nat) (ws : List Int) (c : Int) (a : Nat) (v : Int) (ha : a < ws.length) (hc : 0 ≤ c ∧ c ≤ 1000000) (w : World) (h : MemIn p b ws c w) :
    Calls Try.prog 20 #[.pointer (some ⟨p, 0, none⟩), .int .i64 a, .int .i64 v] w fun e w' => e = .returned (.int .i64 (wd ws a)) ∧ MemIn p b (ws.set a (wrap64 (wd ws a + v))) (c + 1) w' ∧ Kept (fun k => k = p ∨ k = b) w w' := by
  have h1 := h.counted (c + 1)
  have cw := h1.word ha
  have fw := free_at h1.row a
  have HK : Hid (Kept (fun k => k = p ∨ k = b) w (w.setCell ⟨p, 1, none⟩ (.int .i64 (c + 1)))) := kept_counted (Kept.refl _ _) (.inl rfl) _ _
  have A := access_ok p b ws c a ha hc w h
  go_enter Try.func20, Try.ntmps20
  go_wp2_with fail
  refine A.mono ?_
  rintro e w1 ⟨rfl, rfl⟩
  clear A
  go_wp2
  go_ret
  exact ⟨rfl, h1.put a _, kept_counted HK.out (.inr rfl) _ _⟩

theorem load_no (p b : Nat) (ws : List Int) (c : Int) (a : Int) (ha : a < 0 ∨ (ws.length : Int) ≤ a) (w : World) (h : MemIn p b ws c w) :
    Calls Try.prog 18 #[.pointer (some ⟨p, 0, none⟩), .int .i64 a] w fun e w' => (Out.halts 2 a).ends e ∧ w' = w := by
  have A := access_no p b ws c a ha w h
  go_enter Try.func18, Try.ntmps18
  go_wp2_with fail
  refine A.mono ?_
  rintro e w1 ⟨he, rfl⟩
  rcases ends_cases he with ⟨h, rfl⟩ | ⟨hst, v, older, hv, rfl, hold⟩
  · cases h
  · exact ⟨rfl, ends_stop hv hold, rfl⟩

theorem add_no (p b : Nat) (ws : List Int) (c : Int) (a v : Int) (ha : a < 0 ∨ (ws.length : Int) ≤ a) (w : World) (h : MemIn p b ws c w) :
    Calls Try.prog 20 #[.pointer (some ⟨p, 0, none⟩), .int .i64 a, .int .i64 v] w fun e w' => (Out.halts 2 a).ends e ∧ w' = w := by
  have A := access_no p b ws c a ha w h
  go_enter Try.func20, Try.ntmps20
  go_wp2_with fail
  refine A.mono ?_
  rintro e w1 ⟨he, rfl⟩
  rcases ends_cases he with ⟨h, rfl⟩ | ⟨hst, v, older, hv, rfl, hold⟩
  · cases h
  · exact ⟨rfl, ends_stop hv hold, rfl⟩

theorem count_w (p b : Nat) (ws : List Int) (c : Int) (w : World) (h : MemIn p b ws c w) :
    Calls Try.prog 14 #[.pointer (some ⟨p, 0, none⟩)] w fun e w' => e = .returned (.int .i64 c) ∧ w' = w := by
  have c1 := cell_at h.mem (i := 1) rfl
  go_enter Try.func14, Try.ntmps14
  go_wp2
  go_ret
  exact ⟨rfl, rfl⟩

theorem info_int : (Try.prog.info? 3).map (fun i => (i.zero, i.size, i.bytes)) = some (some (.int .i64 0), 1, 8) := by kernel_rfl

/-- A row of n noughts is made. -/
theorem make_ints (n : Nat) (hn : n ≤ 4096) (w : World) : (Instr.makeSlice 33 (.int .i64 (n : Int)) (.int .i64 (n : Int))).run Try.prog w =
    .ok (.slice (some ⟨w.heap.size, 0, none⟩) n n) (w.alloc (.cells ((List.replicate n (0 : Int)).map (Value.int .i64)).toArray 3)) := by
  obtain ⟨i0, hi, hz0, hz1, hz2⟩ := info_parts info_int
  have hr := run_make (P := Try.prog) w 33 3 i0 _ Try.underlying33 hi hz0 .i64 .i64 n n (by omega) (Int.le_refl _) (by rw [hz2]; omega) (by omega)
  simp only [Int.toNat_natCast] at hr
  rw [hr]
  congr 3
  rw [hz1]
  apply Array.toList_inj.1
  rw [show (Value.int IntKind.i64 0).cells = #[Value.int IntKind.i64 0] from rfl, toList_madeCells_one]
  simp

theorem new_ok (n : Nat) (hn : n ≤ 4096) (w : World) :
    Calls Try.prog 8 #[.int .i64 n] w fun e w' => e = .returned (.pointer (some ⟨w.heap.size + 1, 0, none⟩)) ∧ MemIn (w.heap.size + 1) w.heap.size (List.replicate n 0) 0 w' ∧ Kept (fun _ => False) w w' ∧ w'.heap.size = w.heap.size + 2 := by
  have hm := make_ints n hn
  have hd : decide ((0 : Int) ≤ (n : Int)) = true := by simp
  have hd1 : ((n : Int) ≤ 4096) := by omega
  go_enter Try.func8, Try.ntmps8
  go_wp2_with fail
  refine (must_ok _ _ w).mono ?_
  rintro e w1 ⟨rfl, rfl⟩
  go_wp2
  go_ret
  refine ⟨rfl, ⟨?_, ?_, by omega⟩, ((Kept.refl _ _).alloc _).alloc _, by simp⟩
  · simpa using alloc_at1 w1 _ _
  · simpa using alloc_off (alloc_at w1 _)

end Go.Proofs.Ytlfcbijgncpieaa
