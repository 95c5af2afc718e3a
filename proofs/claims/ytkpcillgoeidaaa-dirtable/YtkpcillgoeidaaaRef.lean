
/- What the reference's All, Place and At do when they are called; no conditions but that a place is a number of 64 bits. -/
import Derived.Test.YtkpcillgoeidaaaMarks
import Derived.Deep.CutBlock
namespace Go.Proofs.Ytkpcillgoeidaaa
open Go.RowKit
set_option maxRecDepth 100000

def szs : Array Value := #[.int .i64 1, .int .i64 1, .int .i64 1, .int .i64 8, .int .i64 1, .int .i64 12, .int .i64 1, .int .i64 4, .int .i64 1, .int .i64 16, .int .i64 1, .int .i64 8]

theorem szs_get {i : Nat} (h : i < 12) : szs[i]? = some (.int .i64 (cnt ((i : Int) + 1))) := by
  have : ∀ i : Nat, i < 12 → szs[i]? = some (.int .i64 (cnt ((i : Int) + 1))) := by
    intro i h
    rcases i with _ | _ | _ | _ | _ | _ | _ | _ | _ | _ | _ | _ | i <;> first | rfl | omega
  exact this i h

theorem sizes_w (w : World) : Calls Try.prog 79 #[] w fun e w' => e = .returned (.slice (some ⟨w.heap.size, 0, none⟩) 12 12) ∧ w' = w.alloc (.cells szs 3) := by
  go_enter Try.func79, Try.ntmps79
  go_wp2
  go_ret
  exact ⟨rfl, rfl⟩

theorem refall_w (w : World) : Calls Try.prog 83 #[] w fun e w' => e = .returned (.int .i64 55) ∧ Kept (fun _ => False) w w' := by
  obtain ⟨B, hB⟩ : ∃ B : Nat, w.heap.size = B := ⟨_, rfl⟩
  have Z := sizes_w w
  rw [hB] at Z
  go_enter Try.func83, Try.ntmps83
  go_wp2_with fail
  refine Z.mono ?_
  rintro e w1 ⟨rfl, hw⟩
  clear Z
  have HB : Hid (w1.heap[B]? = some (.cells szs 3 (0, 0))) := by subst hw; exact alloc_at' _ hB
  have HK : Hid (Kept (fun _ => False) w w1) := by subst hw; exact (Kept.refl _ _).alloc _
  clear hw
  go_wp2
  go_loop [1, 6] (fun n s => ∃ i : Nat, s = .int .i64 i ∧ i ≤ 12 ∧ n = .int .i64 (ahd ((i : Int) + 1))) (fun _ s => 12 - (intOf s).toNat)
  case atStart => exact ⟨0, rfl, Nat.zero_le _, rfl⟩
  case round =>
    obtain ⟨i, rfl, hi, rfl⟩ := hrel
    by_cases hlt : i < 12
    · have t1 : (i : Int) < 12 := by omega
      have c0 := cell_at HB.out (szs_get hlt)
      have hc := cnt_bounds ((i : Int) + 1)
      have hb := ahd_bounds ((i : Int) + 1)
      have HN : Hid _ := ahd_next (k := (i : Int) + 1) (by omega) (by omega)
      generalize cnt ((i : Int) + 1) = c at *
      generalize ahd ((i : Int) + 1) = a at *
      clear HB
      go_wp2
      go_round
      case rel => exact ⟨i + 1, by go_num, by omega, by rw [← HN.out]; rfl⟩
      case measure => simp [intOf]; omega
    · obtain rfl : i = 12 := by omega
      clear HB
      go_wp2
      go_ret
      exact ⟨rfl, HK.out⟩

set_option maxHeartbeats 800000 in
theorem refplace_w (x y : Int) (w : World) : Calls Try.prog 62 #[.agg #[.int .i64 x, .int .i64 y]] w fun e w' => e = .returned (.int .i64 (plc (x, y))) ∧ Kept (fun _ => False) w w' := by
  obtain ⟨B, hB⟩ : ∃ B : Nat, w.heap.size = B := ⟨_, rfl⟩
  have Z := sizes_w (w.alloc (.cells #[.int .i64 x, .int .i64 y] 61))
  rw [show (w.alloc (.cells #[.int .i64 x, .int .i64 y] 61)).heap.size = B + 1 by simp [hB]] at Z
  go_enter Try.func62, Try.ntmps62
  go_wp2_with fail
  refine Z.mono ?_
  rintro e w1 ⟨rfl, hw⟩
  clear Z
  have HB : Hid (w1.heap[B + 1]? = some (.cells szs 3 (0, 0))) := by subst hw; exact alloc_at' _ (by simp [hB])
  have hX : w1.heap[B]? = some (.cells #[.int .i64 x, .int .i64 y] 61 (0, 0)) := by subst hw; exact alloc_off (alloc_at' _ hB)
  have HK : Hid (Kept (fun _ => False) w w1) := by subst hw; exact ((Kept.refl _ _).alloc _).alloc _
  have x0 := cell_at hX (i := 0) rfl
  have x1 := cell_at hX (i := 1) rfl
  clear hw hX
  go_wp2
  go_loop [3, 8] (fun n s => ∃ i : Nat, s = .int .i64 i ∧ i ≤ 12 ∧ n = .int .i64 (ahd ((i : Int) + 1)) ∧ Hid (∀ j : Nat, j < i → ¬ x = (j : Int) + 1)) (fun _ s => 12 - (intOf s).toNat)
  case atStart => exact ⟨0, rfl, Nat.zero_le _, rfl, fun j hj => by omega⟩
  case round =>
    obtain ⟨i, rfl, hi, rfl, HJ⟩ := hrel
    by_cases hlt : i < 12
    · have t1 : (i : Int) < 12 := by omega
      have c0 := cell_at HB.out (szs_get hlt)
      have hc := cnt_bounds ((i : Int) + 1)
      have hb := ahd_bounds ((i : Int) + 1)
      have HN : Hid _ := ahd_next (k := (i : Int) + 1) (by omega) (by omega)
      by_cases hx : x = (i : Int) + 1
      · by_cases hy : 0 ≤ y ∧ y < cnt ((i : Int) + 1)
        · have HP : Hid (plc ((i : Int) + 1, y) = ahd ((i : Int) + 1) + y) := plc_is hy.1 hy.2
          obtain ⟨y0, y1⟩ := hy
          generalize cnt ((i : Int) + 1) = c at *
          generalize ahd ((i : Int) + 1) = a at *
          clear HB HJ HN
          go_wp2
          go_ret
          exact ⟨ret_int (by rw [HP.out]), HK.out⟩
        · have HP : Hid (plc ((i : Int) + 1, y) = -1) := plc_no (by show y < 0 ∨ cnt ((i : Int) + 1) ≤ y; omega)
          by_cases y0 : y < 0
          · clear HB HJ HN hy
            go_wp2
            go_ret
            exact ⟨ret_int (by rw [HP.out]), HK.out⟩
          · have y1 : cnt ((i : Int) + 1) ≤ y := by omega
            generalize cnt ((i : Int) + 1) = c at *
            clear HB HJ HN hy
            go_wp2
            go_ret
            exact ⟨ret_int (by rw [HP.out]), HK.out⟩
      · generalize cnt ((i : Int) + 1) = c at *
        generalize ahd ((i : Int) + 1) = a at *
        have hd : (x == (i : Int) + 1) = false := by simpa using hx
        have HX : Hid _ := hx
        clear HB hx
        go_wp2
        go_round
        case rel =>
          refine ⟨i + 1, by go_num, by omega, by rw [← HN.out]; rfl, fun j hj => ?_⟩
          rcases Nat.lt_or_ge j i with h | h
          · exact HJ.out j h
          · obtain rfl : j = i := by omega
            exact HX.out
        case measure => simp [intOf]; omega
    · obtain rfl : i = 12 := by omega
      have HP : Hid (plc (x, y) = -1) := by
        refine plc_no (Classical.byContradiction fun hn => ?_)
        have h1 : 0 < cnt x := by simp only at hn; omega
        obtain ⟨a, b⟩ := cnt_pos h1
        exact HJ.out (x.toNat - 1) (by omega) (by omega)
      clear HB HJ
      go_wp2
      go_ret
      exact ⟨ret_int (by rw [HP.out]), HK.out⟩

set_option maxHeartbeats 800000 in
theorem refat_w (p : Int) (w : World) : Calls Try.prog 84 #[.int .i64 p] w fun e w' => e = .returned (.tuple #[.agg #[.int .i64 (keyAt p).1, .int .i64 (keyAt p).2], .bool (isAt p)]) ∧ Kept (fun _ => False) w w' := by
  obtain ⟨B, hB⟩ : ∃ B : Nat, w.heap.size = B := ⟨_, rfl⟩
  have Z := sizes_w (w.alloc (.cells #[.int .i64 0, .int .i64 0] 61))
  rw [show (w.alloc (.cells #[.int .i64 0, .int .i64 0] 61)).heap.size = B + 1 by simp [hB]] at Z
  go_enter Try.func84, Try.ntmps84
  go_wp2_with fail
  refine Z.mono ?_
  rintro e w1 ⟨rfl, hw⟩
  clear Z
  have HB : Hid (w1.heap[B + 1]? = some (.cells szs 3 (0, 0))) := by subst hw; exact alloc_at' _ (by simp [hB])
  have hX : w1.heap[B]? = some (.cells #[.int .i64 0, .int .i64 0] 61 (0, 0)) := by subst hw; exact alloc_off (alloc_at' _ hB)
  have HK : Hid (Kept (fun _ => False) w w1) := by subst hw; exact ((Kept.refl _ _).alloc _).alloc _
  have x0 := cell_at hX (i := 0) rfl
  have x1 := cell_at hX (i := 1) rfl
  have f0 := free_at hX 0
  have f1 := free_at hX 1
  have HX : Hid _ := hX
  clear hw hX
  go_wp2
  go_loop [4, 9] (fun n s => ∃ i : Nat, s = .int .i64 i ∧ i ≤ 12 ∧ n = .int .i64 (ahd ((i : Int) + 1)) ∧ (0 ≤ p → ahd ((i : Int) + 1) ≤ p)) (fun _ s => 12 - (intOf s).toNat)
  case atStart => exact ⟨0, rfl, Nat.zero_le _, rfl, fun h => h⟩
  case round =>
    obtain ⟨i, rfl, hi, rfl, hge⟩ := hrel
    by_cases hlt : i < 12
    · have t1 : (i : Int) < 12 := by omega
      have c0 := cell_at HB.out (szs_get hlt)
      have hc := cnt_bounds ((i : Int) + 1)
      have hb := ahd_bounds ((i : Int) + 1)
      have HN : Hid _ := ahd_next (k := (i : Int) + 1) (by omega) (by omega)
      by_cases hin : ahd ((i : Int) + 1) ≤ p ∧ p < ahd ((i : Int) + 1) + cnt ((i : Int) + 1)
      · have HP : Hid (keyAt p = ((i : Int) + 1, p - ahd ((i : Int) + 1))) := keyAt_is (by omega) (by omega) hin.1 (by omega)
        have HI : Hid (isAt p = true) := isAt_yes (by omega) (ahd_lt (k := (i : Int) + 1) (by omega) (by omega) (by omega))
        obtain ⟨h1, h2⟩ := hin
        clear hge
        generalize cnt ((i : Int) + 1) = c at *
        generalize ahd ((i : Int) + 1) = a at *
        clear HB HN
        go_wp2
        have h' := set_at (set_at HX.out 0 (.int .i64 ((i : Int) + 1))) 1 (.int .i64 (p - a))
        have z0 := cell_at h' (i := 0) rfl
        have z1 := cell_at h' (i := 1) rfl
        refine bodyPost_ret (v := .tuple #[.agg #[.int .i64 ((i : Int) + 1), .int .i64 (p - a)], .bool true]) (by simp [results, Try.results84, go_sem, z0, z1]) rfl ⟨?_, ?_⟩
        · rw [HP.out, HI.out]
        · exact Kept.setCell (Kept.setCell HK.out (fun h => by simp only at h; omega) _) (fun h => by simp only at h; omega) _
      · have HG : Hid (0 ≤ p → ahd ((i : Int) + 1) + cnt ((i : Int) + 1) ≤ p) := fun h => by have := hge h; omega
        clear hge
        generalize cnt ((i : Int) + 1) = c at *
        generalize ahd ((i : Int) + 1) = a at *
        by_cases h1 : a ≤ p
        · have h2 : a + c ≤ p := by omega
          clear HB hin
          go_wp2
          go_round
          case rel => exact ⟨i + 1, by go_num, by omega, by rw [← HN.out]; rfl, fun h => by have := HG.out h; rw [← HN.out] at this; exact this⟩
          case measure => simp [intOf]; omega
        · have hd : decide (a ≤ p) = false := by simpa using h1
          clear HB hin
          go_wp2
          go_round
          case rel => exact ⟨i + 1, by go_num, by omega, by rw [← HN.out]; rfl, fun h => by have := HG.out h; rw [← HN.out] at this; exact this⟩
          case measure => simp [intOf]; omega
    · obtain rfl : i = 12 := by omega
      have HP : Hid (keyAt p = (0, 0) ∧ isAt p = false) := by
        show keyAt p = (0, 0) ∧ isAt p = false
        by_cases h0 : p < 0
        · exact ⟨keyAt_low h0, isAt_low h0⟩
        · have h55 : 55 ≤ p := hge (by omega)
          exact ⟨keyAt_high h55, isAt_high h55⟩
      clear HB hge
      go_wp2
      have h' := set_at (set_at HX.out 0 (.int .i64 0)) 1 (.int .i64 0)
      have z0 := cell_at h' (i := 0) rfl
      have z1 := cell_at h' (i := 1) rfl
      refine bodyPost_ret (v := .tuple #[.agg #[.int .i64 0, .int .i64 0], .bool false]) (by simp [results, Try.results84, go_sem, z0, z1]) rfl ⟨?_, ?_⟩
      · rw [HP.out.1, HP.out.2]
      · exact Kept.setCell (Kept.setCell HK.out (fun h => by simp only at h; omega) _) (fun h => by simp only at h; omega) _
end Go.Proofs.Ytkpcillgoeidaaa
