
/- Space's calls on views; objects' texts below a bound; two views; no conditions but lengths. -/
import Derived.Test.YtbhpkjedkccdpaaDoorSgM
import Derived.Test.YtbhpkjedkccdpaaDoorSrB
import Derived.Test.YtbhpkjedkccdpaaDoorSrC
import Derived.Test.YtbhpkjedkccdpaaDoorSrD
namespace Go.Proofs.YtbhpkjedkccdpaaDoor
open Go.RowKit
set_option maxRecDepth 100000
set_option linter.unusedSimpArgs false

/-- Space's calls, as the code does them. -/
structure SpaceV : Prop where
  grow : ∀ (q N p B : Nat) (f : StF) (g : VwF) (i n : Int) (w : World), ViewIn q N p g w → StoreIn p B f w → N ≠ B → TabIn w → (prV f g i).s.size ≤ 1000000 → (meV f g i).s.size ≤ 1000000 →
    Calls Tryd.prog 9 #[.pointer (some ⟨q, 0, none⟩), .int .i64 i, .int .i64 n] w fun e w' => e = .returned (.bool (grOk f g i n)) ∧ ViewIn q N p (grT f g i n) w' ∧ Kept (fun n => n = N) w w'
  shrink : ∀ (q N p B : Nat) (f : StF) (g : VwF) (i n : Int) (w : World), ViewIn q N p g w → StoreIn p B f w → N ≠ B → n ≤ 9223372036854775807 → (prV f g i).s.size ≤ 1000000 → (meV f g i).s.size ≤ 1000000 →
    Calls Tryd.prog 11 #[.pointer (some ⟨q, 0, none⟩), .int .i64 i, .int .i64 n] w fun e w' => ∃ v, e = .returned (.tuple #[v, .bool (shOk f g i n)]) ∧ SrcI v (shL f g i n) w' ∧ (∀ b, v.ownBlock = some b → w.heap.size ≤ b) ∧ ViewIn q N p (shT f g i n) w' ∧ Kept (fun n => n = N) w w'
  back : ∀ (q N p B : Nat) (f : StF) (g : VwF) (w : World), ViewIn q N p g w → StoreIn p B f w → N ≠ B → ∀ (v : Value) (l : List Int), l.length ≤ 1000000 → SrcI v l w → (∀ b, v.ownBlock = some b → b < w.heap.size ∧ b ≠ N) →
    Calls Tryd.prog 13 #[.pointer (some ⟨q, 0, none⟩), v] w fun e w' => e = .returned (.tuple #[]) ∧ ViewIn q N p (baT f g l) w' ∧ Kept (fun n => n = N) w w'
  pages : ∀ (q N p B : Nat) (f : StF) (g : VwF) (i : Int) (w : World), ViewIn q N p g w → StoreIn p B f w → N ≠ B → (prV f g i).s.size ≤ 1000000 →
    Calls Tryd.prog 10 #[.pointer (some ⟨q, 0, none⟩), .int .i64 i] w fun e w' => ∃ v, e = .returned v ∧ CapI v ∧ SrcI v (pgL f g i) w' ∧ (∀ b, v.ownBlock = some b → w.heap.size ≤ b) ∧ ViewIn q N p (pgT f g i) w' ∧ Kept (fun n => n = N) w w'
  free : ∀ (q N p B : Nat) (f : StF) (g : VwF) (w : World), ViewIn q N p g w → StoreIn p B f w → N ≠ B →
    Calls Tryd.prog 12 #[.pointer (some ⟨q, 0, none⟩)] w fun e w' => e = .returned (.int .i64 (cntB (poV f g).n0 : Nat)) ∧ ViewIn q N p (vgetT g (2, 0)) w' ∧ Kept (fun n => n = N) w w'

/-- No object that the store or the view has has more than b bytes. -/
structure SmallB (b : Nat) (f : StF) (g : VwF) : Prop where
  s : ∀ k, (lookF f k).s.size ≤ b
  v : ∀ k, (noteF g k).2.2.s.size ≤ b
section
variable {b : Nat} {f : StF} {g : VwF}
theorem SmallB.val (h : SmallB b f g) (k : K2) : (vgetF f g k).s.size ≤ b := by
  unfold vgetF
  split
  · split
    · exact h.v k
    · exact h.s k
  · exact Nat.zero_le _
theorem SmallB.mono {c : Nat} (h : SmallB b f g) (hb : b ≤ c) : SmallB c f g := ⟨fun k => Nat.le_trans (h.s k) hb, fun k => Nat.le_trans (h.v k) hb⟩
theorem SmallB.get (h : SmallB b f g) (k : K2) : SmallB b f (vgetT g k) := by
  refine ⟨h.s, fun j => ?_⟩
  by_cases hk : 0 ≤ plc k
  · rw [note_get hk]
    split
    · exact h.v k
    · exact h.v j
  · unfold vgetT; rw [if_neg hk]; exact h.v j
theorem SmallB.put (h : SmallB b f g) (k : K2) {x : V} (hx : x.s.size ≤ b) : SmallB b f (vputT g k x) := by
  refine ⟨h.s, fun j => ?_⟩
  by_cases hk : 0 ≤ plc k
  · rw [note_put hk]
    split
    · exact hx
    · exact h.v j
  · unfold vputT; rw [if_neg hk]; exact h.v j
theorem smallB_put {l : Ws} (hf : ∀ k, (lookF f k).s.size ≤ b) (hl : ∀ t ∈ l, t.2.s.size ≤ b) (k : K2) : (lookF (putAll f l) k).s.size ≤ b := by
  induction l generalizing f with
  | nil => exact hf k
  | cons t l ih =>
    show (lookF (putAll (putF f t.1 t.2) l) k).s.size ≤ b
    refine ih (fun j => ?_) (fun u hu => hl u (List.mem_cons_of_mem _ hu))
    rw [look_put]
    split
    · exact hl t List.mem_cons_self
    · exact hf j
theorem SmallB.redo (h : SmallB b f g) : SmallB b (putAll f (redoF g)) (fun _ => none) := by
  refine ⟨fun k => smallB_put h.s (fun t ht => ?_) k, fun k => Nat.zero_le _⟩
  unfold redoF at ht
  obtain ⟨j, -, rfl⟩ := List.mem_map.1 ht
  exact h.v j
theorem Small.toB (h : Small f g) : SmallB 200 f g := ⟨h.s, h.v⟩
theorem SmallB.small (h : SmallB 200 f g) : Small f g := ⟨h.s, h.v⟩
theorem SmallB.stT (h : SmallB b f g) (i : Int) : SmallB b f (stT f g i) := by
  unfold Go.Proofs.YtbhpkjedkccdpaaDoor.stT usT
  split
  · split
    · exact (h.get _).get _
    · exact h.get _
  · split
    · exact h.get _
    · exact h
theorem SmallB.two (h : SmallB b f g) (i : Int) : SmallB b f (twoT f g i) := ((h.stT i).get _).get _
theorem SmallB.three (h : SmallB b f g) (i : Int) : SmallB b f (threeT f g i) := (h.two i).get _
theorem SmallB.pgT (h : SmallB b f g) (i : Int) : SmallB b f (pgT f g i) := by
  unfold Go.Proofs.YtbhpkjedkccdpaaDoor.pgT
  split
  · exact (h.stT i).get _
  · exact h.stT i
theorem SmallB.put3 (h : SmallB b f g) (i : Int) {y x m : V} (h1 : y.s.size ≤ b) (h2 : x.s.size ≤ b) (h3 : m.s.size ≤ b) : SmallB b f (put3 g i y x m) := ((h.put _ h1).put _ h2).put _ h3
/-- Grow's texts, whatever bound the old ones keep. -/
theorem SmallB.grow {c : Nat} (h : SmallB b f g) (i n : Int) (hb : b ≤ c) (hx : (prV f g i).s.size ≤ 6 → (prV f g i).s.size + 6 ≤ c) (hm : grOk f g i n = true → (meV f g i).s.size + 96 ≤ c) : SmallB c f (grT f g i n) := by
  unfold grT
  split
  · rename_i hk
    have hr := (grMay_in (grOk_may hk).1).2
    have h0 := (spIn_r (grMay_in (grOk_may hk).1).1).2
    have hp : (picks (poV f g).n0 64 n.toNat).length ≤ 6 := by rw [picks_len]; omega
    have h6 : (prV f g i).s.size ≤ 6 := by omega
    refine ((h.three i).mono hb).put3 i (Nat.le_trans (h.val (2, 0)) hb) ?_ ?_
    · show (bs (bl (prV f g i).s ++ bytesN _)).size ≤ c
      rw [bs_size, List.length_append, bl_len]
      unfold bytesN
      rw [List.length_map]
      have := hx h6
      omega
    · show (bs (bl (meV f g i).s ++ List.replicate _ _)).size ≤ c
      rw [bs_size, List.length_append, bl_len, List.length_replicate]
      have := hm hk
      omega
  · split
    · exact (h.three i).mono hb
    · split
      · exact (h.two i).mono hb
      · exact (h.stT i).mono hb
theorem SmallB.shrink (h : SmallB b f g) (i n : Int) : SmallB b f (shT f g i n) := by
  unfold shT
  split
  · refine (h.three i).put3 i (h.val (2, 0)) ?_ ?_
    · show (bs _).size ≤ b
      rw [bs_size, List.length_take, bl_len]
      have := h.val (4, i)
      show min _ (vgetF f g (4, i)).s.size ≤ b
      omega
    · show (bs _).size ≤ b
      rw [bs_size, List.length_take, bl_len]
      have := h.val (12, i)
      show min _ (vgetF f g (12, i)).s.size ≤ b
      omega
  · split
    · exact h.two i
    · exact h.stT i
theorem SmallB.back (h : SmallB b f g) (l : List Int) : SmallB b f (baT f g l) := (h.get _).put _ (h.val (2, 0))
end

/-- What the statements of one view want follows. -/
theorem SpaceV.does (S : SpaceV) : SpaceDoes where
  grow := fun {f w0 T p B q N g w} h i n hm hx => by
    refine (S.grow q N p B f g i n w h.v h.s h.ne h.tab (by omega) (by omega)).mono ?_
    rintro e w1 ⟨rfl, hv, hk⟩
    exact ⟨rfl, h.put hv (h.sm.toB.grow i n (Nat.le_refl _) (fun _ => by omega) (fun _ => by omega)).small hk, hk⟩
  shrink := fun {f w0 T p B q N g w} h i n hn => by
    have h1 := h.sm.val (4, i)
    have h2 := h.sm.val (12, i)
    refine (S.shrink q N p B f g i n w h.v h.s h.ne hn (Nat.le_trans h1 (by omega)) (Nat.le_trans h2 (by omega))).mono ?_
    rintro e w1 ⟨v, rfl, hs, hy, hv, hk⟩
    exact ⟨v, rfl, hs, hy, h.put hv (h.sm.toB.shrink i n).small hk, hk⟩
  back := fun {f w0 T p B q N g w} h v l hl hs hb => by
    refine (S.back q N p B f g w h.v h.s h.ne v l hl hs hb).mono ?_
    rintro e w1 ⟨rfl, hv, hk⟩
    exact ⟨rfl, h.put hv (h.sm.toB.back l).small hk, hk⟩
  pagesC := fun {f w0 T p B q N g w} h i => by
    have h1 := h.sm.val (4, i)
    refine (S.pages q N p B f g i w h.v h.s h.ne (Nat.le_trans h1 (by omega))).mono ?_
    rintro e w1 ⟨v, rfl, hc, hs, hy, hv, hk⟩
    exact ⟨v, rfl, hc, hs, hy, h.put hv (h.sm.toB.pgT i).small hk, hk⟩
  free := fun {f w0 T p B q N g w} h => by
    refine (S.free q N p B f g w h.v h.s h.ne).mono ?_
    rintro e w1 ⟨rfl, hv, hk⟩
    exact ⟨rfl, h.put hv (h.sm.get _) hk, hk⟩

section
variable {w0 : World} {T p B q N rp rB rq R W : Nat} {f f2 : StF} {g g2 : VwF} {w : World}
theorem kv_grow (S : SpaceV) (h : KeepIn w0 T p B q N rp rB rq R W f f2 g g2 w) (ht : TabIn w0) (i n : Int) (hx : (prV f g i).s.size ≤ 1000000) (hm : (meV f g i).s.size ≤ 1000000) : Calls Tryd.prog 9 #[.pointer (some ⟨q, 0, none⟩), .int .i64 i, .int .i64 n] w
    fun e w' => e = .returned (.bool (grOk f g i n)) ∧ KeepIn w0 T p B q N rp rB rq R W f f2 (grT f g i n) g2 w' ∧ Kept (fun n => n = N) w w' := by
  refine (S.grow q N p B f g i n w h.game.v h.game.s h.nB (ht.still h.game.kept) hx hm).mono ?_
  rintro e w1 ⟨rfl, hv, hk⟩
  exact ⟨rfl, h.putV hv hk, hk⟩
theorem kv_shrink (S : SpaceV) (h : KeepIn w0 T p B q N rp rB rq R W f f2 g g2 w) (i n : Int) (hn : n ≤ 9223372036854775807) (hx : (prV f g i).s.size ≤ 1000000) (hm : (meV f g i).s.size ≤ 1000000) : Calls Tryd.prog 11 #[.pointer (some ⟨q, 0, none⟩), .int .i64 i, .int .i64 n] w
    fun e w' => ∃ v, e = .returned (.tuple #[v, .bool (shOk f g i n)]) ∧ SrcI v (shL f g i n) w' ∧ (∀ b, v.ownBlock = some b → w.heap.size ≤ b) ∧ KeepIn w0 T p B q N rp rB rq R W f f2 (shT f g i n) g2 w' ∧ Kept (fun n => n = N) w w' := by
  refine (S.shrink q N p B f g i n w h.game.v h.game.s h.nB hn hx hm).mono ?_
  rintro e w1 ⟨v, rfl, hs, hy, hv, hk⟩
  exact ⟨v, rfl, hs, hy, h.putV hv hk, hk⟩
theorem kv_back (S : SpaceV) (h : KeepIn w0 T p B q N rp rB rq R W f f2 g g2 w) (v : Value) (l : List Int) (hl : l.length ≤ 1000000) (hs : SrcI v l w) (hb : ∀ b, v.ownBlock = some b → b < w.heap.size ∧ b ≠ N) : Calls Tryd.prog 13 #[.pointer (some ⟨q, 0, none⟩), v] w
    fun e w' => e = .returned (.tuple #[]) ∧ KeepIn w0 T p B q N rp rB rq R W f f2 (baT f g l) g2 w' ∧ Kept (fun n => n = N) w w' := by
  refine (S.back q N p B f g w h.game.v h.game.s h.nB v l hl hs hb).mono ?_
  rintro e w1 ⟨rfl, hv, hk⟩
  exact ⟨rfl, h.putV hv hk, hk⟩
theorem kr_grow (h : KeepIn w0 T p B q N rp rB rq R W f f2 g g2 w) (i n : Int) (hx : (prV f2 g2 i).s.size ≤ 1000000) (hm : (meV f2 g2 i).s.size ≤ 1000000) : Calls Tryd.prog 16 #[.pointer (some ⟨rq, 0, none⟩), .int .i64 i, .int .i64 n] w
    fun e w' => e = .returned (.bool (grOk f2 g2 i n)) ∧ KeepIn w0 T p B q N rp rB rq R W f f2 g (grT f2 g2 i n) w' ∧ Kept (RW R W) w w' := by
  refine (rgrow_w h.both i n hx hm).mono ?_
  rintro e w1 ⟨rfl, hb, hk⟩
  exact ⟨rfl, h.putX hb hk, hk⟩
theorem kr_shrink (h : KeepIn w0 T p B q N rp rB rq R W f f2 g g2 w) (i n : Int) (hx : (prV f2 g2 i).s.size ≤ 1000000) : Calls Tryd.prog 17 #[.pointer (some ⟨rq, 0, none⟩), .int .i64 i, .int .i64 n] w
    fun e w' => ∃ v, e = .returned (.tuple #[v, .bool (shOk f2 g2 i n)]) ∧ SrcI v (shL f2 g2 i n) w' ∧ (∀ b, v.ownBlock = some b → w.heap.size ≤ b) ∧ KeepIn w0 T p B q N rp rB rq R W f f2 g (shT f2 g2 i n) w' ∧ Kept (RW R W) w w' := by
  refine (rshrink_w h.both i n hx).mono ?_
  rintro e w1 ⟨v, rfl, hs, hy, hb, hk⟩
  exact ⟨v, rfl, hs, hy, h.putX hb hk, hk⟩
theorem kr_back (h : KeepIn w0 T p B q N rp rB rq R W f f2 g g2 w) (v : Value) (l : List Int) (hl : l.length ≤ 1000000) (hs : SrcI v l w) (hb : ∀ b, v.ownBlock = some b → b < w.heap.size ∧ ¬ RW R W b) : Calls Tryd.prog 18 #[.pointer (some ⟨rq, 0, none⟩), v] w
    fun e w' => e = .returned (.tuple #[]) ∧ KeepIn w0 T p B q N rp rB rq R W f f2 g (baT f2 g2 l) w' ∧ Kept (RW R W) w w' := by
  refine (rback_w h.both v l hl hs hb).mono ?_
  rintro e w1 ⟨rfl, hr, hk⟩
  exact ⟨rfl, h.putX hr hk, hk⟩
end
end Go.Proofs.YtbhpkjedkccdpaaDoor
