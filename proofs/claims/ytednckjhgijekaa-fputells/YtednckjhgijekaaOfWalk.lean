/- What fpu.Of does when it is called: the nearest float of every whole number. -/
import Derived.Test.YtednckjhgijekaaWalks
namespace Go.Proofs.Ytednckjhgijekaa
open Go.RowKit
open Fp

theorem of_eq (n : Int) : floatOfInt .f64 n = ofF n := nearest_eq _ _ _

set_option maxHeartbeats 400000 in
theorem of_any (n : Int) (w : World) : Calls Try.prog 21 #[.int .i64 n] w fun e w' => e = .returned (.int .u64 (ofF n)) ∧ w' = w := by
  have h2 := bits_run
  have h3 := of_eq n
  go_enter Try.func21, Try.ntmps21
  go_wp2
  go_ret
  exact ⟨rfl, rfl⟩
end Go.Proofs.Ytednckjhgijekaa
