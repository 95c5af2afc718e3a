/- The least bit of a byte, as Go's library tells it; no conditions. -/
import Derived.Test.YtckbimgoepcoaaaMail
import Derived.Lib.BitFns
namespace Go.Proofs.Ytckbimgoepcoaaa
open Go.RowKit

theorem tz_facts : ∀ m : Fin 256, Lib.ntz8 (m.val : Int) = (mleast m.val : Int) ∧ mleast m.val ≤ 8 := by decide +kernel

theorem tz_num (m : Nat) (hm : m < 256) : wrap64 (Lib.ntz8 (m : Int)) = (mleast m : Int) := by
  obtain ⟨e, l⟩ := tz_facts ⟨m, hm⟩
  simp only at e l
  rw [e]
  unfold wrap64
  omega

theorem tz_w (m : Nat) (hm : m < 256) (w : World) : Calls Try.prog 29 #[.int .u8 m] w fun e w' => e = .returned (.int .i64 (mleast m)) ∧ w' = w := by
  rw [← tz_num m hm]
  have h0 : (0 : Int) ≤ (m : Int) := by omega
  have h1 : (m : Int) ≤ 255 := by omega
  go_enter Try.func29, Try.ntmps29
  go_wp2
  go_ret
  exact ⟨rfl, rfl⟩
end Go.Proofs.Ytckbimgoepcoaaa
