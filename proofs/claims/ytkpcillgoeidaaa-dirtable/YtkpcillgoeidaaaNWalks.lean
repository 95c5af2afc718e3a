
/- What ahead, Right and Clone do when they are called; no conditions but lengths. -/
import Derived.Test.YtkpcillgoeidaaaNFun
import Derived.BigQuiet
import Derived.Deep.QuietTactic
import Derived.Deep.RegionHeld3
import Derived.Lib.BufferWrite
import Derived.Lib.UnsafeStr
import Derived.Laws.MakeOwn
import Derived.WalkSpells
namespace Go.Proofs.Ytkpcillgoeidaaa.Nm
set_option maxRecDepth 100000
open Go.RowKit

theorem ret_int {k : IntKind} {a b : Int} (h : a = b) : Ending.returned (.int k a) = .returned (.int k b) := by rw [h]
theorem ret_bool {a b : Bool} (h : a = b) : Ending.returned (.bool a) = .returned (.bool b) := by rw [h]

theorem ahead_w (s : ByteArray) (b : UInt8) (c : Int) (hc : (b.toNat : Int) = c) (hs : s.size ≤ 1000000) (w : World) :
    Calls Try.prog 60 #[.string s, .int .u8 c] w fun e w' => e = .returned (.int .i64 (ahd (bl s) b)) ∧ w' = w := by
  have hle := ahd_le (bl s) b
  rw [bl_len] at hle
  have HC : Hid ((b.toNat : Int) = c) := hc
  clear hc
  go_enter Try.func60, Try.ntmps60
  go_wp2
  go_loop [8] (fun x => ∃ i : Nat, x = .int .i64 i ∧ i ≤ ahd (bl s) b) (fun x => s.size - (intOf x).toNat)
  case atStart => exact ⟨0, rfl, Nat.zero_le _⟩
  case round =>
    obtain ⟨i, rfl, hi⟩ := hrel
    by_cases hlt : i < s.size
    · have hat := bl_at s hlt
      have t1 : (i : Int) < s.size := by omega
      obtain ⟨x, hx⟩ : ∃ x : UInt8, s[i] = x := ⟨_, rfl⟩
      rw [hx] at hat
      by_cases he : x = b
      · subst he
        have hq : ((x.toNat : Int) == c) = true := by rw [HC.out]; simp
        have hst := ahd_stop hat
        go_wp2
        go_ret
        exact ⟨ret_int (by omega), rfl⟩
      · have hq : ((x.toNat : Int) == c) = false := by
          rw [← HC.out, beq_eq_false_iff_ne]
          intro e
          exact he (UInt8.toNat_inj.1 (by omega))
        have hgo := ahd_go hi hat he
        go_wp2
        go_round
        case rel => exact ⟨i + 1, by simp, hgo⟩
        case measure => simp [intOf]; omega
    · have t1 : ¬ (i : Int) < s.size := by omega
      go_wp2
      go_ret
      exact ⟨ret_int (by omega), rfl⟩

theorem nat_eq {a b : Nat} (h : a = b) : (((a : Int)) == (b : Int)) = true := by simp [h]
theorem nat_ne {a b : Nat} (h : ¬ a = b) : (((a : Int)) == (b : Int)) = false := by
  rw [beq_eq_false_iff_ne]; omega

theorem right_w (s : ByteArray) (hs : s.size ≤ 1000000) (w : World) :
    Calls Try.prog 27 #[.string s] w fun e w' => e = .returned (.bool (rightF (bl s))) ∧ w' = w := by
  have A := ahead_w s 47 47 rfl hs
  have B := ahead_w s 0 0 rfl hs
  unfold rightF
  rw [bl_len]
  generalize ahd (bl s) 47 = a at *
  generalize ahd (bl s) 0 = b at *
  by_cases h1 : 1 ≤ s.size
  · have t1 : (1 : Int) ≤ s.size := by omega
    have d1 : decide (1 ≤ s.size) = true := by simpa using h1
    rw [d1]
    by_cases h2 : s.size ≤ 14
    · have t2 : (s.size : Int) ≤ 14 := by omega
      have d2 : decide (s.size ≤ 14) = true := by simpa using h2
      rw [d2]
      by_cases h3 : a = s.size
      · have d3 : decide (a = s.size) = true := by simpa using h3
        have q3 := nat_eq h3
        rw [d3]
        clear h3 d3
        go_enter Try.func27, Try.ntmps27
        go_wp2_with fail
        refine (A _).mono ?_
        rintro e w1 ⟨rfl, rfl⟩
        go_wp2_with fail
        refine (B _).mono ?_
        rintro e w2 ⟨rfl, rfl⟩
        go_wp2
        go_ret
        refine ⟨ret_bool ?_, rfl⟩
        rw [Bool.eq_iff_iff]
        simp
        omega
      · have d3 : decide (a = s.size) = false := by simpa using h3
        have q3 := nat_ne h3
        rw [d3]
        clear h3 d3
        go_enter Try.func27, Try.ntmps27
        go_wp2_with fail
        refine (A _).mono ?_
        rintro e w1 ⟨rfl, rfl⟩
        go_wp2
        go_ret
        exact ⟨rfl, rfl⟩
    · have t2 : ¬ (s.size : Int) ≤ 14 := by omega
      have d2 : decide (s.size ≤ 14) = false := by simpa using h2
      rw [d2]
      go_enter Try.func27, Try.ntmps27
      go_wp2
      go_ret
      exact ⟨rfl, rfl⟩
  · have t1 : ¬ (1 : Int) ≤ s.size := by omega
    have d1 : decide (1 ≤ s.size) = false := by simpa using h1
    rw [d1]
    go_enter Try.func27, Try.ntmps27
    go_wp2
    go_ret
    exact ⟨rfl, rfl⟩

end Go.Proofs.Ytkpcillgoeidaaa.Nm
