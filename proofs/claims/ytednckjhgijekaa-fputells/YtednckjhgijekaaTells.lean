/- What FpuTells does when it is called: it returns true on all operations, words and numbers. -/
import Derived.Test.YtednckjhgijekaaRefInt
namespace Go.Proofs.Ytednckjhgijekaa
open Go.RowKit
open Fp

theorem refOp_w {w0 : World} (k : Int) (a b : Nat) (ha : Wd a) (hb : Wd b) (w : World) (hg : Grown w0 w) :
    Calls Try.prog 18 #[.int .i64 k, .int .u64 a, .int .u64 b] w fun e w' => e = .returned (.int .u64 (opF k a b)) ∧ Grown w0 w' :=
  (refOp_any k a b ha hb w).mono fun _ _ h => ⟨h.1, grown_trans hg h.2⟩

set_option maxRecDepth 100000 in
set_option maxHeartbeats 1000000 in
theorem tells_any (k : Int) (a b : Nat) (n : Int) (ha : Wd a) (hb : Wd b) (w : World) :
    Calls Try.prog 4 #[.int .i64 k, .int .u64 a, .int .u64 b, .int .i64 n] w fun e w' => e = .returned (.bool true) ∧ Grown w w' := by
  have hg := Grown.refl w
  go_enter Try.func4, Try.ntmps4
  go_wp2_with (first | (go_at_call 9; refine (int_any _ _).mono ?_; rintro e w' ⟨rfl, rfl⟩) | (go_at_call 13; refine (refInt_any _ ?_ _).mono ?_; assumption; rintro e w' ⟨rfl, rfl⟩) | (go_at_call 14; refine (kind_w _ ?_ _).mono ?_; assumption; rintro e w' ⟨rfl, rfl⟩) | (go_at_call 15; refine (refKind_any _ ?_ _).mono ?_; assumption; rintro e w' ⟨rfl, rfl⟩) | (go_at_call 16; refine (clean_any _ _).mono ?_; rintro e w' ⟨rfl, rfl⟩) | (go_at_call 17; refine (refClean_any _ ?_ _).mono ?_; assumption; rintro e w' ⟨rfl, rfl⟩) | (go_at_call 10; refine (op_w _ _ _ ?_ ?_ _ hg).mono ?_; assumption; assumption; clear hg; rintro e w' ⟨rfl, hg⟩) | (go_at_call 18; refine (refOp_w _ _ _ ?_ ?_ _ hg).mono ?_; assumption; assumption; clear hg; rintro e w' ⟨rfl, hg⟩) | (go_at_call 11; refine (cmp_any _ _ _).mono ?_; rintro e w' ⟨rfl, rfl⟩) | (go_at_call 19; refine (refCmp_any _ _ ?_ ?_ _).mono ?_; assumption; assumption; rintro e w' ⟨rfl, rfl⟩) | (go_at_call 12; refine (order_w _ _ ?_ ?_ _).mono ?_; assumption; assumption; rintro e w' ⟨rfl, rfl⟩) | (go_at_call 20; refine (refOrder_any _ _ ?_ ?_ _).mono ?_; assumption; assumption; rintro e w' ⟨rfl, rfl⟩) | (go_at_call 21; refine (of_any _ _).mono ?_; rintro e w' ⟨rfl, rfl⟩) | (go_at_call 22; refine (refOf_any _ _).mono ?_; rintro e w' ⟨rfl, rfl⟩) | (go_at_call 3; refine (runs_at _ hg).mono ?_; clear hg; rintro e w' ⟨rfl, hg⟩))
  go_ret
  exact ⟨rfl, hg⟩
end Go.Proofs.Ytednckjhgijekaa
