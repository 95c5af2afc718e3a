
/- No object has many bytes, and none comes to have them; no conditions. -/
import Derived.Test.YtkpcillgoeidaaaDirF
import Derived.Test.YtkpcillgoeidaaaKeep3
namespace Go.Proofs.Ytkpcillgoeidaaa
open Go.RowKit
set_option maxRecDepth 100000

/-- No object that the store or the view has has many bytes. -/
structure Small (f : StF) (g : VwF) : Prop where
  s : ∀ k, (lookF f k).s.size ≤ 200
  v : ∀ k, (noteF g k).2.2.s.size ≤ 200

theorem zero_small : zeroV.s.size ≤ 200 := by decide
section
variable {f : StF} {g : VwF}
theorem Small.val (h : Small f g) (k : K2) : (vgetF f g k).s.size ≤ 200 := by
  unfold vgetF
  split
  · split
    · exact h.v k
    · exact h.s k
  · exact zero_small
theorem Small.found (h : Small f g) (i : Int) : (findV f g i).s.size ≤ 200 := by
  unfold findV
  split
  · split
    · exact zero_small
    · exact h.val _
  · exact zero_small
theorem Small.get (h : Small f g) (k : K2) : Small f (vgetT g k) := by
  refine ⟨h.s, fun j => ?_⟩
  by_cases hk : 0 ≤ plc k
  · rw [note_get hk]
    split
    · exact h.v k
    · exact h.v j
  · unfold vgetT; rw [if_neg hk]; exact h.v j
theorem Small.put (h : Small f g) (k : K2) {x : V} (hx : x.s.size ≤ 200) : Small f (vputT g k x) := by
  refine ⟨h.s, fun j => ?_⟩
  by_cases hk : 0 ≤ plc k
  · rw [note_put hk]
    split
    · exact hx
    · exact h.v j
  · unfold vputT; rw [if_neg hk]; exact h.v j
theorem Small.find (h : Small f g) (i : Int) : Small f (findT g i) := by unfold findT; split; exact h.get _; exact h
theorem Small.alloc (h : Small f g) (typ : Int) : Small f (allocT f g typ) := by
  unfold allocT
  split
  · exact ((h.get _).put (9, 0) (x := withN (vgetF f g (9, 0)) (orN (vgetF f g (9, 0)).n0 (allocA f g))) (h.val (9, 0))).put (10, allocA f g) (x := numV typ) (by show ByteArray.empty.size ≤ 200; decide)
  · exact h.get _
theorem Small.change (h : Small f g) (i a b : Int) : Small f (changeT f g i a b) := by
  unfold changeT
  split
  · split
    · exact (h.find i).put _ (h.found i)
    · have h1 : Small f (vputT (findT g i) (10, i) zeroV) := (h.find i).put _ zero_small
      exact (h1.get _).put _ (h1.val (9, 0))
  · exact h.find i
theorem Small.write (h : Small f g) (i off : Int) (d : ByteArray) : Small f (writeT f g i off d) := by
  unfold writeT
  split
  · rename_i hok
    obtain ⟨-, h1, h2, h3⟩ := wr_is hok
    have hs : (overF (findV f g i).s off.toNat (cutD d off.toNat)).size ≤ 200 := by
      rw [over_size _ _ _ (by omega), cutD_size]
      have := h.found i
      omega
    exact (h.find i).put (10, i) (x := withS (findV f g i) (overF (findV f g i).s off.toNat (cutD d off.toNat))) hs
  · exact h.find i
theorem small_put {f : StF} {l : Ws} (hf : ∀ k, (lookF f k).s.size ≤ 200) (hl : ∀ t ∈ l, t.2.s.size ≤ 200) (k : K2) : (lookF (putAll f l) k).s.size ≤ 200 := by
  induction l generalizing f with
  | nil => exact hf k
  | cons t l ih =>
    show (lookF (putAll (putF f t.1 t.2) l) k).s.size ≤ 200
    refine ih (fun j => ?_) (fun u hu => hl u (List.mem_cons_of_mem _ hu))
    rw [look_put]
    split
    · exact hl t List.mem_cons_self
    · exact hf j
theorem Small.redo (h : Small f g) : Small (putAll f (redoF g)) (fun _ => none) := by
  refine ⟨fun k => small_put h.s (fun t ht => ?_) k, fun k => zero_small⟩
  unfold redoF at ht
  obtain ⟨j, -, rfl⟩ := List.mem_map.1 ht
  exact h.v j
theorem small_init (Q : Nat → K2 × V) (n : Nat) : Small (initF Q n) (fun _ => none) := ⟨initF_small Q n, fun _ => zero_small⟩
end
theorem Small.add {f : StF} {g : VwF} (h : Small f g) (d : Int) (s : Bs) (i : Int) : Small f (addT f g d s i) := by
  unfold addT
  split
  · exact (h.find d).write _ _ _
  · exact h.find d
theorem Small.rm {f : StF} {g : VwF} (h : Small f g) (d : Int) (s : Bs) : Small f (rmT f g d s) := by
  unfold rmT
  split
  · exact (h.find d).write _ _ _
  · exact h.find d
end Go.Proofs.Ytkpcillgoeidaaa
