
/- What Within of the given book does when it is called: a number brought into a range. -/
import Derived.Test.YtkpcillgoeidaaaWalks
namespace Go.Proofs.Ytkpcillgoeidaaa
open Go.RowKit

theorem tmod_facts (n m : Int) (h : 0 < m) : -m < n.tmod m ∧ n.tmod m < m ∧ (n.tmod m < 0 → n % m = n.tmod m + m) ∧ (0 ≤ n.tmod m → n % m = n.tmod m) := by
  have a := Int.lt_tmod_of_pos n h
  have b := Int.tmod_lt_of_pos n h
  have e : n % m = (n.tmod m) % m := by
    rw [Int.tmod_def, Int.sub_mul_emod_self_left]
  refine ⟨a, b, ?_, ?_⟩
  · intro c
    rw [e, ← Int.add_emod_right]
    exact Int.emod_eq_of_lt (by omega) (by omega)
  · intro c
    rw [e]
    exact Int.emod_eq_of_lt c b



set_option maxHeartbeats 400000 in
theorem within_any (n lo hi : Int) (h1 : -1152921504606846976 ≤ lo) (h2 : lo ≤ hi) (h3 : hi ≤ 1152921504606846976) (w : World) :
    Calls Try.prog 25 #[.int .i64 n, .int .i64 lo, .int .i64 hi] w fun e w' => e = .returned (.int .i64 (lo + n % (hi - lo + 1))) ∧ w' = w := by
  obtain ⟨t1, t2, t3, t4⟩ := tmod_facts n (hi - lo + 1) (by omega)
  have T3 : Hid _ := t3
  have T4 : Hid _ := t4
  clear t3 t4
  go_enter Try.func25, Try.ntmps25
  go_wp2
  · go_ret
    refine ⟨ret_int ?_, rfl⟩
    rw [T3.out (by assumption)]
    omega
  · go_ret
    refine ⟨ret_int ?_, rfl⟩
    rw [T4.out (by assumption)]
end Go.Proofs.Ytkpcillgoeidaaa
