
/- What count, ahead, All, Place and At do when they are called; no conditions. -/
import Derived.Test.YtkpcillgoeidaaaBase
import Derived.Test.YtkpcillgoeidaaaFun
import Derived.BigQuiet
import Derived.Deep.QuietTactic
import Derived.Deep.RegionHeld3
namespace Go.Proofs.Ytkpcillgoeidaaa
open Go.RowKit

theorem ret_int {k : IntKind} {a b : Int} (h : a = b) : Ending.returned (.int k a) = .returned (.int k b) := by rw [h]

def kv (k : Int × Int) : Value := .agg #[.int .i64 k.1, .int .i64 k.2]

theorem count_w (k : Int) (w : World) : Calls Try.prog 85 #[.int .i64 k] w fun e w' => e = .returned (.int .i64 (cnt k)) ∧ w' = w := by
  by_cases h4 : k = 4
  · subst h4; go_enter Try.func85, Try.ntmps85; go_wp2; go_ret; exact ⟨rfl, rfl⟩
  by_cases h12 : k = 12
  · subst h12; go_enter Try.func85, Try.ntmps85; go_wp2; go_ret; exact ⟨rfl, rfl⟩
  by_cases h6 : k = 6
  · subst h6; go_enter Try.func85, Try.ntmps85; go_wp2; go_ret; exact ⟨rfl, rfl⟩
  by_cases h8 : k = 8
  · subst h8; go_enter Try.func85, Try.ntmps85; go_wp2; go_ret; exact ⟨rfl, rfl⟩
  by_cases h10 : k = 10
  · subst h10; go_enter Try.func85, Try.ntmps85; go_wp2; go_ret; exact ⟨rfl, rfl⟩
  have e : Hid (cnt k = if k < 1 ∨ 12 < k then 0 else 1) := by
    show cnt k = _
    unfold cnt; rw [if_neg (by omega), if_neg h6, if_neg h8, if_neg h10]
  by_cases h1 : k < 1
  · go_enter Try.func85, Try.ntmps85; go_wp2; go_ret; exact ⟨ret_int (by rw [e.out, if_pos (.inl h1)]), rfl⟩
  by_cases h13 : 12 < k
  · go_enter Try.func85, Try.ntmps85; go_wp2; go_ret; exact ⟨ret_int (by rw [e.out, if_pos (.inr h13)]), rfl⟩
  · go_enter Try.func85, Try.ntmps85; go_wp2; go_ret; exact ⟨ret_int (by rw [e.out, if_neg (by omega)]), rfl⟩

theorem ahead_w (k : Int) (h1 : 1 ≤ k) (h2 : k ≤ 13) (w : World) : Calls Try.prog 86 #[.int .i64 k] w fun e w' => e = .returned (.int .i64 (ahd k)) ∧ w' = w := by
  go_enter Try.func86, Try.ntmps86
  go_wp2
  go_loop [3, 4] (fun n l => ∃ j : Int, l = .int .i64 j ∧ n = .int .i64 (ahd j) ∧ 1 ≤ j ∧ j ≤ k) (fun _ l => (13 - intOf l).toNat)
  case atStart => exact ⟨1, rfl, rfl, by omega, by omega⟩
  case round =>
    obtain ⟨j, rfl, rfl, hj1, hjk⟩ := hrel
    by_cases hlt : j < k
    · have hb := ahd_bounds j
      have hc := cnt_bounds j
      have HN : Hid (ahd (j + 1) = ahd j + cnt j) := ahd_next hj1 (by omega)
      go_wp2_with fail
      refine (count_w j _).mono ?_
      rintro e w1 ⟨rfl, rfl⟩
      generalize cnt j = c at *
      generalize ahd j = a at *
      go_wp2
      go_round
      case rel => exact ⟨j + 1, rfl, by rw [HN.out], by omega, by omega⟩
      case measure => simp [intOf]; omega
    · obtain rfl : j = k := by omega
      go_wp2
      go_ret
      exact ⟨rfl, rfl⟩

theorem all_w (w : World) : Calls Try.prog 81 #[] w fun e w' => e = .returned (.int .i64 55) ∧ w' = w := by
  go_enter Try.func81, Try.ntmps81
  go_wp2_with fail
  refine (ahead_w 13 (by decide) (by decide) _).mono ?_
  rintro e w1 ⟨rfl, rfl⟩
  rw [show ahd 13 = 55 from rfl]
  go_wp2
  go_ret
  exact ⟨rfl, rfl⟩

theorem kept_drewN (w : World) (m : Nat) : Kept (fun _ => False) w (w.drewN m) := ⟨rfl, rfl, rfl, Nat.le_refl _, fun _ _ _ => rfl⟩

theorem place_w (k : Int × Int) (w : World) : Calls Try.prog 78 #[kv k] w fun e w' => e = .returned (.int .i64 (plc k)) ∧ Kept (fun _ => False) w w' := by
  obtain ⟨a, n⟩ := k
  unfold kv
  by_cases h0 : n < 0
  · have hp : Hid (plc (a, n) = -1) := plc_no (.inl h0)
    have hd : decide (n < 0) = true := by simp [h0]
    go_enter Try.func78, Try.ntmps78
    go_wp2_with fail
    go_quiet ((go_at_call 85; exact Calls.quiet_of_same (count_w _ _)))
    go_wp2
    go_ret
    exact ⟨ret_int (by rw [hp.out]), ((Kept.refl _ w).alloc _).trans (kept_drewN _ _) (fun _ _ e => e)⟩
  · by_cases h1 : cnt a ≤ n
    · have hp : Hid (plc (a, n) = -1) := plc_no (.inr h1)
      have hd : decide (n < 0) = false := by simp; omega
      have hd1 : decide (cnt a ≤ n) = true := by simpa using h1
      go_enter Try.func78, Try.ntmps78
      go_wp2_with fail
      go_quiet ((go_at_call 85; exact Calls.quiet_of_same (count_w _ _)))
      go_wp2
      go_ret
      exact ⟨ret_int (by rw [hp.out]), ((Kept.refl _ w).alloc _).trans (kept_drewN _ _) (fun _ _ e => e)⟩
    · have hp : Hid (plc (a, n) = ahd a + n) := plc_is (by show 0 ≤ n; omega) (by show n < cnt a; omega)
      obtain ⟨ha1, ha2⟩ := cnt_pos (k := a) (by omega)
      have ha3 : a ≤ 13 := by omega
      have hb := ahd_bounds a
      have hc := cnt_bounds a
      have hd : decide (n < 0) = false := by simp; omega
      have hd1 : decide (cnt a ≤ n) = false := by simpa using h1
      go_enter Try.func78, Try.ntmps78
      go_wp2_with fail
      go_quiet ((go_at_call 85; exact Calls.quiet_of_same (count_w _ _)))
      have HA : Hid _ := ((Kept.refl (fun _ => False) w).alloc (.cells #[.int .i64 a, .int .i64 n] 61)).trans (kept_drewN _ nq) (fun _ _ e => e)
      have hA : ((w.alloc (.cells #[.int .i64 a, .int .i64 n] 61)).drewN nq).heap[w.heap.size]? = some (.cells #[.int .i64 a, .int .i64 n] 61 (0, 0)) := alloc_at w _
      generalize (w.alloc (.cells #[.int .i64 a, .int .i64 n] 61)).drewN nq = wd at *
      have c0 := cell_at hA (i := 0) rfl
      have c1 := cell_at hA (i := 1) rfl
      clear hA
      go_wp2_with fail
      go_quiet ((go_at_call 86; exact Calls.quiet_of_same (ahead_w _ ha1 ha3 _)))
      go_wp2
      go_ret
      exact ⟨ret_int (by rw [hp.out]), HA.out.trans (kept_drewN _ _) (fun _ _ e => e)⟩

theorem keyat_w (p : Int) (hp : p ≤ 9223372036854775807) (w : World) : Calls Try.prog 82 #[.int .i64 p] w fun e w' => e = .returned (.tuple #[kv (keyAt p), .bool (isAt p)]) ∧ Kept (fun _ => False) w w' := by
  obtain ⟨B, hB⟩ : ∃ B : Nat, w.heap.size = B := ⟨_, rfl⟩
  by_cases h0 : p < 0
  · rw [keyAt_low h0, isAt_low h0]
    unfold kv
    go_enter Try.func82, Try.ntmps82
    go_wp2
    exact bodyPost_ret (v := .tuple #[.agg #[.int .i64 0, .int .i64 0], .bool false]) (by simp [results, Try.results82, go_sem, hB]) rfl ⟨rfl, (Kept.refl _ w).alloc _⟩
  · go_enter Try.func82, Try.ntmps82
    go_wp2
    go_loop [0, 4] (fun x l => ∃ j : Int, l = .int .i64 j ∧ x = .int .i64 (p - ahd j) ∧ 1 ≤ j ∧ j ≤ 13 ∧ ahd j ≤ p) (fun _ l => (13 - intOf l).toNat)
    case atStart => exact ⟨1, rfl, by rw [show ahd 1 = 0 from rfl, Int.sub_zero], by omega, by omega, by rw [show ahd 1 = 0 from rfl]; omega⟩
    case round =>
      obtain ⟨j, rfl, rfl, hj1, hj2, hle⟩ := hrel
      by_cases hlt : j ≤ 12
      · have hb := ahd_bounds j
        have hc := cnt_bounds j
        by_cases hin : p - ahd j < cnt j
        · have HK : Hid (keyAt p = (j, p - ahd j)) := keyAt_is hj1 hlt hle hin
          have HI : Hid (isAt p = true) := isAt_yes (by omega) (ahd_lt hj1 hlt hin)
          go_wp2_with fail
          refine (count_w j _).mono ?_
          rintro e w1 ⟨rfl, rfl⟩
          go_wp2
          refine bodyPost_ret (v := .tuple #[.agg #[.int .i64 j, .int .i64 (p - ahd j)], .bool true]) (by simp [results, Try.results82, go_sem, hB]) rfl ⟨?_, ?_⟩
          · rw [HK.out, HI.out]; rfl
          · exact (Kept.refl _ w).alloc _
        · have HN : Hid (ahd (j + 1) = ahd j + cnt j) := ahd_next hj1 hlt
          go_wp2_with fail
          refine (count_w j _).mono ?_
          rintro e w1 ⟨rfl, rfl⟩
          generalize cnt j = c at *
          generalize ahd j = a at *
          go_wp2
          go_round
          case rel => exact ⟨j + 1, rfl, by rw [HN.out]; congr 1; omega, by omega, by omega, by rw [HN.out]; omega⟩
          case measure => simp [intOf]; omega
      · obtain rfl : j = 13 := by omega
        have hh : 55 ≤ p := by rw [show ahd 13 = 55 from rfl] at hle; exact hle
        have HK : Hid (keyAt p = (0, 0)) := keyAt_high hh
        have HI : Hid (isAt p = false) := isAt_high hh
        go_wp2
        refine bodyPost_ret (v := .tuple #[.agg #[.int .i64 0, .int .i64 0], .bool false]) (by simp [results, Try.results82, go_sem, hB]) rfl ⟨?_, ?_⟩
        · rw [HK.out, HI.out]; rfl
        · exact (Kept.refl _ w).alloc _

end Go.Proofs.Ytkpcillgoeidaaa
