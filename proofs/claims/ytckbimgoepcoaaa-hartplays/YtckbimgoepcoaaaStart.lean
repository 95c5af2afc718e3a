/- The statement's own tables, as they are made; no conditions. -/
import Derived.Test.YtckbimgoepcoaaaTurn
namespace Go.Proofs.Ytckbimgoepcoaaa
open Go.RowKit

theorem new4 (w2 : World) (E : Nat) (h : w2.heap.size = E) (o1 o2 o3 o4 : Obj) :
    ((((w2.alloc o1).alloc o2).alloc o3).alloc o4).drew.heap[E]? = some o1 ∧ ((((w2.alloc o1).alloc o2).alloc o3).alloc o4).drew.heap[E + 1]? = some o2 ∧
    ((((w2.alloc o1).alloc o2).alloc o3).alloc o4).drew.heap[E + 1 + 1]? = some o3 ∧ ((((w2.alloc o1).alloc o2).alloc o3).alloc o4).drew.heap[E + 1 + 1 + 1]? = some o4 ∧
    Kept (fun _ => False) w2 ((((w2.alloc o1).alloc o2).alloc o3).alloc o4).drew := by
  refine ⟨?_, ?_, ?_, ?_, ((((Kept.refl _ _).alloc _).alloc _).alloc _).alloc _ |>.drew⟩
  · show ((((w2.alloc o1).alloc o2).alloc o3).alloc o4).heap[E]? = _
    exact alloc_off (alloc_off (alloc_off (alloc_at' _ h)))
  · show ((((w2.alloc o1).alloc o2).alloc o3).alloc o4).heap[E + 1]? = _
    exact alloc_off (alloc_off (alloc_at' _ (by simp [h])))
  · show ((((w2.alloc o1).alloc o2).alloc o3).alloc o4).heap[E + 1 + 1]? = _
    exact alloc_off (alloc_at' _ (by simp [h]))
  · show ((((w2.alloc o1).alloc o2).alloc o3).alloc o4).heap[E + 1 + 1 + 1]? = _
    exact alloc_at' _ (by simp [h])

/-- Four new tables. -/
structure New4 (O W N M m : Nat) (w2 w : World) : Prop where
  on : w.heap[O]? = some (.cells (offs m) 4 (0, 0))
  was : w.heap[W]? = some (.cells (offs m) 4 (0, 0))
  nest : w.heap[N]? = some (.cells (nests m) 3 (0, 0))
  mail : w.heap[M]? = some (.cells (boxes m) 41 (0, 0))
  kept : Kept (fun _ => False) w2 w

def trues (m j : Nat) : List Value := (List.range m).map fun i => .bool (decide (i < j))

theorem trues_zero (m : Nat) : (trues m 0).toArray = offs m := by
  unfold offs
  congr 1
  apply List.ext_getElem
  · simp [trues, wasRow]
  · intro i h1 h2
    simp [trues, wasRow]

theorem trues_get {m j i : Nat} (hi : i < m) : (trues m j)[i]? = some (.bool (decide (i < j))) := by simp [trues, hi]

theorem trues_succ (m j : Nat) : (trues m j).set j (.bool true) = trues m (j + 1) := by
  apply List.ext_getElem
  · simp [trues]
  · intro i h1 h2
    simp only [trues, List.getElem_set, List.getElem_map, List.getElem_range]
    by_cases h : j = i
    · subst h; simp
    · by_cases h3 : i < j
      · simp [h, h3, show i < j + 1 by omega]
      · simp [h, h3, show ¬ i < j + 1 by omega]

theorem trues_all (m : Nat) : trues m m = onRow (fresh m) := by
  simp [trues, onRow, fresh, ups, H.isOn]

/-- While the flags are laid. -/
structure Start (B p b O W N M m j : Nat) (w0 w : World) : Prop where
  nbox : w.heap[B]? = some (.cells #[.int .i64 m] 3 (0, 0))
  xbox : w.heap[B + 1]? = some (.cells #[.pointer (some ⟨p, 0, none⟩)] 22 (0, 0))
  harts : HartsIn p b (fresh m) w
  on : w.heap[O]? = some (.cells (trues m j).toArray 4 (0, 0))
  was : w.heap[W]? = some (.cells (offs m) 4 (0, 0))
  nest : w.heap[N]? = some (.cells (nests m) 3 (0, 0))
  mail : w.heap[M]? = some (.cells (boxes m) 41 (0, 0))
  kept : Kept (fun _ => False) w0 w
  base : w0.heap.size = B

theorem Start.put {B p b O W N M m j : Nat} {w0 w : World} (h : Start B p b O W N M m j w0 w) (g : Geo B p b O W N M) : Start B p b O W N M m (j + 1) w0 (w.setCell ⟨O, j, none⟩ (.bool true)) := by
  have kk : Kept (fun k => k = O) w (w.setCell ⟨O, j, none⟩ (.bool true)) := kept_set (X := fun k => k = O) (Kept.refl _ _) rfl _ _
  obtain ⟨g1, g2, g3, g4, g5, g6, g7, g8, g9, g10, g11, g12, g13, g14, g15, g16⟩ := g
  have lB := h.base
  exact ⟨kk.at h.nbox (by omega), kk.at h.xbox (by omega), h.harts.kept kk (by omega) (by omega), (set_at h.on j _).trans (by rw [← trues_succ]; simp), kk.at h.was (by omega), kk.at h.nest (by omega), kk.at h.mail (by omega), h.kept.trans kk (fun k hk e => by omega), lB⟩

theorem Start.plays {B p b O W N M m : Nat} {w0 w : World} (h : Start B p b O W N M m m w0 w) : PlaysIn B p b O W N M m (fresh m) (List.replicate m false) w0 w :=
  ⟨h.nbox, h.xbox, h.harts, by rw [← trues_all]; exact h.on, h.was, h.nest, h.mail, fresh_length m, ⟨by simp [fresh_length], fun i hi hn => by rw [hd_fresh m i (by simpa [fresh_length] using hi)] at hn; exact absurd rfl hn⟩, h.kept, h.base⟩

theorem fresh_sane (m : Nat) : Sane 0 (fresh m) := fun i hi => by rw [hd_fresh m i (by simpa [fresh_length] using hi)]; exact ⟨Nat.le_refl _, by decide⟩
end Go.Proofs.Ytckbimgoepcoaaa
