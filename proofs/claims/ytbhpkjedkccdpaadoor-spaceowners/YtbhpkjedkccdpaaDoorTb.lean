
/- The library's table of least bits, as it lies; no conditions. -/
import Derived.Test.YtbhpkjedkccdpaaDoorSpK
namespace Go.Proofs.YtbhpkjedkccdpaaDoor
open Go.RowKit

/-- The table lies in its variable. -/
def TabIn (w : World) : Prop := ∀ j, j < 64 → w.cell? ⟨0, j, none⟩ = some (.int .u8 (Lib.deBruijn64tab.getD j 0))
theorem TabIn.kept {X : Nat → Prop} {w w' : World} (h : TabIn w) (hk : Kept X w w') (hX : ¬ X 0) : TabIn w' := fun j hj => hk.cell (h j hj) hX
theorem TabIn.still {w w' : World} (h : TabIn w) (hk : Kept (fun _ => False) w w') : TabIn w' := h.kept hk (fun e => e)
theorem TabIn.lt {w : World} (h : TabIn w) : 0 < w.heap.size := cell_lt (h 0 (by omega))
/-- Old memory, the table with it, is as it was. -/
theorem TabIn.old {X : Nat → Prop} {w w' : World} (h : TabIn w) (hk : Kept X w w') (hX : ∀ k, X k → w.heap.size ≤ k) : TabIn w' := h.kept hk (fun e => by have := hX _ e; have := h.lt; omega)
end Go.Proofs.YtbhpkjedkccdpaaDoor
