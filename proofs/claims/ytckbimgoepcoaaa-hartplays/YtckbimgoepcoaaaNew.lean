/- Harts are made; no conditions. -/
import Derived.Test.YtckbimgoepcoaaaCalls
namespace Go.Proofs.Ytckbimgoepcoaaa
open Go.RowKit

/-- While they are made: interrupts reach the first j of n. -/
def ups (n j : Nat) : List H := (List.range n).map fun i => ⟨decide (i < j), 0, 0⟩

theorem ups_length (n j : Nat) : (ups n j).length = n := by simp [ups]

theorem hd_ups (n j i : Nat) (hi : i < n) : hd (ups n j) i = ⟨decide (i < j), 0, 0⟩ := by simp [hd, ups, hi, List.getD]

theorem ups_succ (n j : Nat) (hj : j < n) : (ups n j).set j ⟨true, (hd (ups n j) j).nest, (hd (ups n j) j).mail⟩ = ups n (j + 1) := by
  rw [hd_ups n j j hj]
  apply List.ext_getElem
  · simp [ups]
  · intro i h1 h2
    simp only [ups, List.getElem_set, List.getElem_map, List.getElem_range]
    by_cases h : j = i
    · subst h; simp
    · by_cases h3 : i < j
      · simp [h, h3, show i < j + 1 by omega]
      · simp [h, h3, show ¬ i < j + 1 by omega]

/-- New harts. -/
def fresh (n : Nat) : List H := ups n n
theorem fresh_length (n : Nat) : (fresh n).length = n := ups_length n n
theorem hd_fresh (n i : Nat) (hi : i < n) : hd (fresh n) i = ⟨true, 0, 0⟩ := by rw [fresh, hd_ups n n i hi]; simp [hi]

theorem info_hart : (Try.prog.info? 53).map (fun i => (i.zero, i.size, i.bytes)) = some (some (.agg #[.bool false, .int .i64 0, .int .u8 0]), 3, 24) := by kernel_rfl

theorem made_harts : ∀ n : Nat, n ≤ 8 → madeCells #[.bool false, .int .i64 0, .int .u8 0] (n * 3) = (rowOf (ups n 0)).toArray
  | 0, _ => by kernel_rfl
  | 1, _ => by kernel_rfl
  | 2, _ => by kernel_rfl
  | 3, _ => by kernel_rfl
  | 4, _ => by kernel_rfl
  | 5, _ => by kernel_rfl
  | 6, _ => by kernel_rfl
  | 7, _ => by kernel_rfl
  | 8, _ => by kernel_rfl
  | n + 9, h => by omega

theorem make_harts (n : Nat) (hn : n ≤ 8) (w : World) : (Instr.makeSlice 49 (.int .i64 (n : Int)) (.int .i64 (n : Int))).run Try.prog w =
    .ok (.slice (some ⟨w.heap.size, 0, none⟩) n n) (w.alloc (.cells (rowOf (ups n 0)).toArray 53)) := by
  obtain ⟨i0, hi, hz0, hz1, hz2⟩ := info_parts info_hart
  have hr := run_make (P := Try.prog) w 49 53 i0 _ Try.underlying49 hi hz0 .i64 .i64 n n (by omega) (Int.le_refl _) (by rw [hz2]; omega) (by omega)
  simp only [Int.toNat_natCast] at hr
  rw [hr, hz1]
  rw [← made_harts n hn]
  rfl

theorem new_ok (n : Nat) (h1 : 1 ≤ n) (hn : n ≤ 8) (w : World) :
    Calls Try.prog 7 #[.int .i64 n] w fun e w' => e = .returned (.pointer (some ⟨w.heap.size + 1, 0, none⟩)) ∧ HartsIn (w.heap.size + 1) w.heap.size (fresh n) w' ∧ Kept (fun _ => False) w w' ∧ w'.heap.size = w.heap.size + 2 := by
  have hm := make_harts n hn
  have t0 : decide ((1 : Int) ≤ (n : Int)) = true := by simp; omega
  have t1 : ((n : Int) ≤ 8) := by omega
  obtain ⟨B, hB⟩ : ∃ B : Nat, w.heap.size = B := ⟨_, rfl⟩
  rw [hB]
  have H0 : HartsIn (B + 1) B (ups n 0) ((w.alloc (.cells (rowOf (ups n 0)).toArray 53)).alloc (.cells #[.slice (some ⟨B, 0, none⟩) n n] 51)) := by
    subst hB
    exact ⟨by rw [ups_length]; exact alloc_at1 w _ _, alloc_off (alloc_at w _), by omega⟩
  have K0 : Kept (fun _ => False) w ((w.alloc (.cells (rowOf (ups n 0)).toArray 53)).alloc (.cells #[.slice (some ⟨B, 0, none⟩) n n] 51)) := ((Kept.refl _ _).alloc _).alloc _
  have HH0 : Hid _ := H0
  have HK0 : Hid _ := K0
  clear H0 K0
  go_enter Try.func7, Try.ntmps7
  go_wp2_with fail
  refine (must_ok _ _ w).mono ?_
  rintro e w1 ⟨rfl, rfl⟩
  go_wp2
  go_loopw [22] (fun i wr => ∃ j : Nat, j ≤ n ∧ i = .int .i64 j ∧ HartsIn (B + 1) B (ups n j) wr ∧ Kept (fun _ => False) w1 wr ∧ wr.heap.size = B + 2)
    (fun i _ => n - (intOf i).toNat)
  case atStart => exact ⟨0, by omega, rfl, by simpa using HH0.out, by simpa using HK0.out, by simp [hB]⟩
  case round =>
    obtain ⟨j, hj, rfl, hI, hK, hS⟩ := hrel
    clear HH0 HK0
    by_cases hjn : j < n
    · have hjn' : (j : Int) < (n : Int) := by omega
      have c0 := cell_at hI.mem (i := 0) rfl
      rw [ups_length] at c0
      have c1 := hI.on (a := j) (by rw [ups_length]; exact hjn)
      have f1 := free_at hI.row (j * 3)
      have HI : Hid _ := hI.putOn (a := j) (by rw [ups_length]; exact hjn) true
      have HK : Hid (Kept (fun _ => False) w1 (wr.setCell ⟨B, j * 3, none⟩ (.bool true))) := Kept.setCell hK (fun h => by simp [hB] at h) _
      clear hI hK
      go_wp2
      go_roundw
      case rel =>
        have := HI.out
        rw [ups_succ n j hjn] at this
        exact ⟨j + 1, by omega, by go_num, this, HK.out, by simpa [World.setCell] using hS⟩
      case measure => simp [intOf]; omega
    · have hjj : j = n := by omega
      subst hjj
      have HI : Hid _ := hI
      have HK : Hid _ := hK
      clear hI hK
      go_wp2
      go_ret
      exact ⟨rfl, HI.out, HK.out, hS⟩

theorem new_no (n : Int) (hn : n < 1 ∨ 8 < n) (w : World) :
    Calls Try.prog 7 #[.int .i64 n] w fun e w' => (Out.halts 3 n).ends e ∧ w' = w := by
  by_cases h0 : n < 1
  · have hd : decide ((1 : Int) ≤ n) = false := by simp; omega
    go_enter Try.func7, Try.ntmps7
    go_wp2_with fail
    refine (must_not _ _ w).mono ?_
    rintro e w1 ⟨he, rfl⟩
    rcases ends_cases he with ⟨h, rfl⟩ | ⟨hst, v, older, hv, rfl, hold⟩
    · cases h
    · exact ⟨rfl, ends_stop hv hold, rfl⟩
  · have hd : decide ((1 : Int) ≤ n) = true := by simp; omega
    have hd1 : decide (n ≤ 8) = false := by simp; omega
    go_enter Try.func7, Try.ntmps7
    go_wp2_with fail
    refine (must_not _ _ w).mono ?_
    rintro e w1 ⟨he, rfl⟩
    rcases ends_cases he with ⟨h, rfl⟩ | ⟨hst, v, older, hv, rfl, hold⟩
    · cases h
    · exact ⟨rfl, ends_stop hv hold, rfl⟩
end Go.Proofs.Ytckbimgoepcoaaa
