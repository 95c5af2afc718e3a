/- Two views beside their stores, as a statement holds them: each call's end, and that no object has many bytes; no conditions but lengths. -/
import Derived.Test.YtghgnapogomnlaaKeep3
import Derived.Test.YtghgnapogomnlaaRRw
namespace Go.Proofs.Ytghgnapogomnlaa
open Go.RowKit
set_option maxRecDepth 100000

/-- No object that the store or the view has has many bytes. -/
structure Small (f : StF) (g : VwF) : Prop where
  s : ∀ k, (lookF f k).s.size ≤ 200
  v : ∀ k, (noteF g k).2.2.s.size ≤ 200

theorem zero_small : zeroV.s.size ≤ 200 := by decide
section
variable {f : StF} {g : VwF}
theorem Small.val (h : Small f g) (k : K2) : (vgetF f g k).s.size ≤ 200 := by
  unfold vgetF
  split
  · split
    · exact h.v k
    · exact h.s k
  · exact zero_small
theorem Small.found (h : Small f g) (i : Int) : (findV f g i).s.size ≤ 200 := by
  unfold findV
  split
  · split
    · exact zero_small
    · exact h.val _
  · exact zero_small
theorem Small.get (h : Small f g) (k : K2) : Small f (vgetT g k) := by
  refine ⟨h.s, fun j => ?_⟩
  by_cases hk : 0 ≤ plc k
  · rw [note_get hk]
    split
    · exact h.v k
    · exact h.v j
  · unfold vgetT; rw [if_neg hk]; exact h.v j
theorem Small.put (h : Small f g) (k : K2) {x : V} (hx : x.s.size ≤ 200) : Small f (vputT g k x) := by
  refine ⟨h.s, fun j => ?_⟩
  by_cases hk : 0 ≤ plc k
  · rw [note_put hk]
    split
    · exact hx
    · exact h.v j
  · unfold vputT; rw [if_neg hk]; exact h.v j
theorem Small.find (h : Small f g) (i : Int) : Small f (findT g i) := by unfold findT; split; exact h.get _; exact h
theorem Small.alloc (h : Small f g) (typ : Int) : Small f (allocT f g typ) := by
  unfold allocT
  split
  · exact ((h.get _).put (9, 0) (x := withN (vgetF f g (9, 0)) (orN (vgetF f g (9, 0)).n0 (allocA f g))) (h.val (9, 0))).put (10, allocA f g) (x := numV typ) (by show ByteArray.empty.size ≤ 200; decide)
  · exact h.get _
theorem Small.change (h : Small f g) (i a b : Int) : Small f (changeT f g i a b) := by
  unfold changeT
  split
  · split
    · exact (h.find i).put _ (h.found i)
    · have h1 : Small f (vputT (findT g i) (10, i) zeroV) := (h.find i).put _ zero_small
      exact (h1.get _).put _ (h1.val (9, 0))
  · exact h.find i
theorem Small.write (h : Small f g) (i off : Int) (d : ByteArray) : Small f (writeT f g i off d) := by
  unfold writeT
  split
  · rename_i hok
    obtain ⟨-, h1, h2, h3⟩ := wr_is hok
    have hs : (overF (findV f g i).s off.toNat (cutD d off.toNat)).size ≤ 200 := by
      rw [over_size _ _ _ (by omega), cutD_size]
      have := h.found i
      omega
    exact (h.find i).put (10, i) (x := withS (findV f g i) (overF (findV f g i).s off.toNat (cutD d off.toNat))) hs
  · exact h.find i
theorem small_put {f : StF} {l : Ws} (hf : ∀ k, (lookF f k).s.size ≤ 200) (hl : ∀ t ∈ l, t.2.s.size ≤ 200) (k : K2) : (lookF (putAll f l) k).s.size ≤ 200 := by
  induction l generalizing f with
  | nil => exact hf k
  | cons t l ih =>
    show (lookF (putAll (putF f t.1 t.2) l) k).s.size ≤ 200
    refine ih (fun j => ?_) (fun u hu => hl u (List.mem_cons_of_mem _ hu))
    rw [look_put]
    split
    · exact hl t List.mem_cons_self
    · exact hf j
theorem Small.redo (h : Small f g) : Small (putAll f (redoF g)) (fun _ => none) := by
  refine ⟨fun k => small_put h.s (fun t ht => ?_) k, fun k => zero_small⟩
  unfold redoF at ht
  obtain ⟨j, -, rfl⟩ := List.mem_map.1 ht
  exact h.v j
theorem small_init (Q : Nat → K2 × V) (n : Nat) : Small (initF Q n) (fun _ => none) := ⟨initF_small Q n, fun _ => zero_small⟩
end
theorem find_again (g : VwF) (i : Int) : findT (findT g i) i = findT g i := by
  unfold findT
  split
  · exact get_twice (f := fun _ => none).2
  · rfl

section
variable {w0 : World} {T p B q N rp rB rq R W : Nat} {f f2 : StF} {g g2 : VwF} {w : World}

theorem kv_alloc (h : KeepIn w0 T p B q N rp rB rq R W f f2 g g2 w) (typ : Int) : Calls Try.prog 10 #[.pointer (some ⟨q, 0, none⟩), .int .i64 typ] w
    fun e w' => e = .returned (allocV (allocA f g)) ∧ KeepIn w0 T p B q N rp rB rq R W f f2 (allocT f g typ) g2 w' ∧ Kept (fun n => n = N) w w' := by
  refine (alloc_w q N p B f g typ w h.game.v h.game.s h.nB).mono ?_
  rintro e w1 ⟨rfl, hv, hk⟩
  exact ⟨rfl, h.putV hv hk, hk⟩

theorem kv_change (h : KeepIn w0 T p B q N rp rB rq R W f f2 g g2 w) (i a b : Int) : Calls Try.prog 13 #[.pointer (some ⟨q, 0, none⟩), .int .i64 i, .int .i64 a, .int .i64 b] w
    fun e w' => e = .returned (.bool (isI f g i)) ∧ KeepIn w0 T p B q N rp rB rq R W f f2 (changeT f g i a b) g2 w' ∧ Kept (fun n => n = N) w w' := by
  refine (change_w q N p B f g i a b w h.game.v h.game.s h.nB).mono ?_
  rintro e w1 ⟨rfl, hv, hk⟩
  exact ⟨rfl, h.putV hv hk, hk⟩

theorem kv_is (h : KeepIn w0 T p B q N rp rB rq R W f f2 g g2 w) (i : Int) : Calls Try.prog 14 #[.pointer (some ⟨q, 0, none⟩), .int .i64 i] w
    fun e w' => e = .returned (.bool (isI f g i)) ∧ KeepIn w0 T p B q N rp rB rq R W f f2 (findT g i) g2 w' ∧ Kept (fun n => n = N) w w' := by
  refine (is_w q N p B f g i w h.game.v h.game.s h.nB).mono ?_
  rintro e w1 ⟨rfl, hv, hk⟩
  exact ⟨rfl, h.putV hv hk, hk⟩

theorem kv_type (h : KeepIn w0 T p B q N rp rB rq R W f f2 g g2 w) (i : Int) : Calls Try.prog 25 #[.pointer (some ⟨q, 0, none⟩), .int .i64 i] w
    fun e w' => e = .returned (.int .i64 (findV f g i).n0) ∧ KeepIn w0 T p B q N rp rB rq R W f f2 (findT g i) g2 w' ∧ Kept (fun n => n = N) w w' := by
  refine (type_w q N p B f g i w h.game.v h.game.s h.nB).mono ?_
  rintro e w1 ⟨rfl, hv, hk⟩
  exact ⟨rfl, h.putV hv hk, hk⟩

theorem kv_links (h : KeepIn w0 T p B q N rp rB rq R W f f2 g g2 w) (i : Int) : Calls Try.prog 26 #[.pointer (some ⟨q, 0, none⟩), .int .i64 i] w
    fun e w' => e = .returned (.int .i64 (findV f g i).n1) ∧ KeepIn w0 T p B q N rp rB rq R W f f2 (findT g i) g2 w' ∧ Kept (fun n => n = N) w w' := by
  refine (links_w q N p B f g i w h.game.v h.game.s h.nB).mono ?_
  rintro e w1 ⟨rfl, hv, hk⟩
  exact ⟨rfl, h.putV hv hk, hk⟩

theorem kv_size (h : KeepIn w0 T p B q N rp rB rq R W f f2 g g2 w) (i : Int) : Calls Try.prog 27 #[.pointer (some ⟨q, 0, none⟩), .int .i64 i] w
    fun e w' => e = .returned (.int .i64 (findV f g i).s.size) ∧ KeepIn w0 T p B q N rp rB rq R W f f2 (findT g i) g2 w' ∧ Kept (fun n => n = N) w w' := by
  refine (size_w q N p B f g i w h.game.v h.game.s h.nB).mono ?_
  rintro e w1 ⟨rfl, hv, hk⟩
  exact ⟨rfl, h.putV hv hk, hk⟩

theorem kv_read (h : KeepIn w0 T p B q N rp rB rq R W f f2 g g2 w) (i off n : Int) (hz : (findV f g i).s.size ≤ 200) : Calls Try.prog 12 #[.pointer (some ⟨q, 0, none⟩), .int .i64 i, .int .i64 off, .int .i64 n] w
    fun e w' => e = .returned (.string (partF (findV f g i).s off n)) ∧ KeepIn w0 T p B q N rp rB rq R W f f2 (findT g i) g2 w' ∧ Kept (fun n => n = N) w w' := by
  refine (read_w q N p B f g i off n w h.game.v h.game.s h.nB (by omega)).mono ?_
  rintro e w1 ⟨rfl, hv, hk⟩
  exact ⟨rfl, h.putV hv hk, hk⟩

theorem kv_write (h : KeepIn w0 T p B q N rp rB rq R W f f2 g g2 w) (i off : Int) (d : ByteArray) (hz : (findV f g i).s.size ≤ 200) : Calls Try.prog 11 #[.pointer (some ⟨q, 0, none⟩), .int .i64 i, .int .i64 off, .string d] w
    fun e w' => e = .returned (.int .i64 (writeA f g i off d)) ∧ KeepIn w0 T p B q N rp rB rq R W f f2 (writeT f g i off d) g2 w' ∧ Kept (fun n => n = N) w w' := by
  refine (write_w q N p B f g i off d w h.game.v h.game.s h.nB (by omega)).mono ?_
  rintro e w1 ⟨rfl, hv, hk⟩
  exact ⟨rfl, h.putV hv hk, hk⟩

theorem kr_alloc (h : KeepIn w0 T p B q N rp rB rq R W f f2 g g2 w) (typ : Int) : Calls Try.prog 16 #[.pointer (some ⟨rq, 0, none⟩), .int .i64 typ] w
    fun e w' => e = .returned (allocV (allocA f2 g2)) ∧ KeepIn w0 T p B q N rp rB rq R W f f2 g (allocT f2 g2 typ) w' ∧ Kept (RW R W) w w' := by
  refine (ralloc_w h.both typ).mono ?_
  rintro e w1 ⟨rfl, hb, hk⟩
  exact ⟨rfl, h.putX hb hk, hk⟩

theorem kr_change (h : KeepIn w0 T p B q N rp rB rq R W f f2 g g2 w) (i a b : Int) : Calls Try.prog 17 #[.pointer (some ⟨rq, 0, none⟩), .int .i64 i, .int .i64 a, .int .i64 b] w
    fun e w' => e = .returned (.bool (isI f2 g2 i)) ∧ KeepIn w0 T p B q N rp rB rq R W f f2 g (changeT f2 g2 i a b) w' ∧ Kept (RW R W) w w' := by
  refine (rchange_w h.both i a b).mono ?_
  rintro e w1 ⟨rfl, hb, hk⟩
  exact ⟨rfl, h.putX hb hk, hk⟩

theorem kr_is (h : KeepIn w0 T p B q N rp rB rq R W f f2 g g2 w) (i : Int) : Calls Try.prog 23 #[.pointer (some ⟨rq, 0, none⟩), .int .i64 i] w
    fun e w' => e = .returned (.bool (isI f2 g2 i)) ∧ KeepIn w0 T p B q N rp rB rq R W f f2 g (findT g2 i) w' ∧ Kept (RW R W) w w' := by
  refine (ris_w h.both i).mono ?_
  rintro e w1 ⟨rfl, hb, hk⟩
  exact ⟨rfl, h.putX hb hk, hk⟩

theorem kr_get (h : KeepIn w0 T p B q N rp rB rq R W f f2 g g2 w) (x y : Int) : Calls Try.prog 24 #[.pointer (some ⟨rq, 0, none⟩), .agg #[.int .i64 x, .int .i64 y]] w
    fun e w' => e = .returned (vv (vgetF f2 g2 (x, y))) ∧ KeepIn w0 T p B q N rp rB rq R W f f2 g (vgetT g2 (x, y)) w' ∧ Kept (RW R W) w w' := by
  refine (rg_w h.both x y).mono ?_
  rintro e w1 ⟨rfl, hb, hk⟩
  exact ⟨rfl, h.putX hb hk, hk⟩

theorem kr_read (h : KeepIn w0 T p B q N rp rB rq R W f f2 g g2 w) (i off n : Int) (hz : (findV f2 g2 i).s.size ≤ 200) : Calls Try.prog 18 #[.pointer (some ⟨rq, 0, none⟩), .int .i64 i, .int .i64 off, .int .i64 n] w
    fun e w' => e = .returned (.string (partF (findV f2 g2 i).s off n)) ∧ KeepIn w0 T p B q N rp rB rq R W f f2 g (findT g2 i) w' ∧ Kept (RW R W) w w' := by
  refine (rread_w h.both i off n (by omega)).mono ?_
  rintro e w1 ⟨rfl, hb, hk⟩
  exact ⟨rfl, h.putX hb hk, hk⟩

theorem kr_write (h : KeepIn w0 T p B q N rp rB rq R W f f2 g g2 w) (i off : Int) (d : ByteArray) (hz : (findV f2 g2 i).s.size ≤ 200) : Calls Try.prog 21 #[.pointer (some ⟨rq, 0, none⟩), .int .i64 i, .int .i64 off, .string d] w
    fun e w' => e = .returned (.int .i64 (writeA f2 g2 i off d)) ∧ KeepIn w0 T p B q N rp rB rq R W f f2 g (writeT f2 g2 i off d) w' ∧ Kept (RW R W) w w' := by
  refine (rwrite_w h.both i off d (by omega)).mono ?_
  rintro e w1 ⟨rfl, hb, hk⟩
  exact ⟨rfl, h.putX hb hk, hk⟩

/-- Another block is written. -/
theorem KeepIn.otherX {X : Nat} {c : Array Value} {t : TypeId} {w' : World} (h : KeepIn w0 T p B q N rp rB rq R W f f2 g g2 w) (hX : w.heap[X]? = some (.cells c t (0, 0))) (hk : Kept (fun n => n = X) w w') (e1 : X ≠ T) (e2 : X ≠ p) (e3 : X ≠ q) (e4 : X ≠ rp) (e5 : X ≠ rq) (e6 : w0.heap.size ≤ X) : KeepIn w0 T p B q N rp rB rq R W f f2 g g2 w' :=
  ⟨hk.at h.cell (fun e => e1 e.symm), { h.game with
    s := h.game.s.kept hk (fun e => e2 e.symm) (fun e => h.game.s.map.off hX e.symm)
    v := h.game.v.kept hk (fun e => e3 e.symm) (fun e => h.game.v.map.off hX e.symm)
    rs := h.game.rs.kept hk (fun e => e4 e.symm) (fun e => h.game.rs.map.off hX e.symm)
    rv := h.game.rv.kept hk (fun e => e5 e.symm) (fun e => h.game.rv.r.off hX e.symm) (fun e => h.game.rv.w.off hX e.symm)
    kept := h.game.kept.trans hk (fun k h1 h2 => by omega) }⟩

/-- A block of cells is none of the views' maps. -/
theorem KeepIn.off {X : Nat} {c : Array Value} {t : TypeId} (h : KeepIn w0 T p B q N rp rB rq R W f f2 g g2 w) (hX : w.heap[X]? = some (.cells c t (0, 0))) : X ≠ N ∧ ¬ RW R W X ∧ X ≠ B ∧ X ≠ rB :=
  ⟨h.game.v.map.off hX, fun e => by rcases e with e | e; exact h.game.rv.r.off hX e; exact h.game.rv.w.off hX e, h.game.s.map.off hX, h.game.rs.map.off hX⟩
end
end Go.Proofs.Ytghgnapogomnlaa
