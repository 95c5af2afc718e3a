
/- Processes as a statement holds them, through one view; no conditions. -/
import Derived.Test.YtbhpkjedkccdpaaDoorPrA
namespace Go.Proofs.YtbhpkjedkccdpaaDoor
open Go.RowKit
set_option maxRecDepth 100000
set_option linter.unusedSimpArgs false

section
variable {w0 : World} {T p B q N : Nat} {g : VwF} {w : World}
theorem side_state (h : SideIn w0 T p B q N g w) (i : Int) : Calls Tryd.prog 27 #[.pointer (some ⟨q, 0, none⟩), .int .i64 i] w
    fun e w' => e = .returned (.int .i64 (stA f0 g i)) ∧ SideIn w0 T p B q N (stT f0 g i) w' ∧ Kept (fun n => n = N) w w' := by
  refine (state_w q N p B f0 g i w h.v h.s h.ne).mono ?_
  rintro e w1 ⟨rfl, hv, hk⟩
  exact ⟨rfl, h.put hv (h.sm.stT i) hk, hk⟩
theorem side_nw (h : SideIn w0 T p B q N g w) (par : Int) : Calls Tryd.prog 26 #[.pointer (some ⟨q, 0, none⟩), .int .i64 par] w
    fun e w' => e = .returned (nwR (nwA f0 g)) ∧ SideIn w0 T p B q N (nwT f0 g par) w' ∧ Kept (fun n => n = N) w w' := by
  refine (nw_w q N p B f0 g par w h.v h.s h.ne).mono ?_
  rintro e w1 ⟨rfl, hv, hk⟩
  exact ⟨rfl, h.put hv (h.sm.nwT par) hk, hk⟩
end

end Go.Proofs.YtbhpkjedkccdpaaDoor
