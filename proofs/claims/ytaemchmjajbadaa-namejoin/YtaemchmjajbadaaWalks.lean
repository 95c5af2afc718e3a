/- What ahead, Right and Clone do when they are called; no conditions but lengths. -/
import Derived.Test.YtaemchmjajbadaaFun
import Derived.BigQuiet
import Derived.Deep.QuietTactic
import Derived.Deep.RegionHeld3
import Derived.Lib.BufferWrite
import Derived.Lib.UnsafeStr
import Derived.Laws.MakeOwn
import Derived.WalkSpells
namespace Go.Proofs.Ytaemchmjajbadaa
open Go.RowKit

theorem ret_int {k : IntKind} {a b : Int} (h : a = b) : Ending.returned (.int k a) = .returned (.int k b) := by rw [h]
theorem ret_bool {a b : Bool} (h : a = b) : Ending.returned (.bool a) = .returned (.bool b) := by rw [h]

theorem ahead_w (s : ByteArray) (b : UInt8) (c : Int) (hc : (b.toNat : Int) = c) (hs : s.size ≤ 1000000) (w : World) :
    Calls Try.prog 18 #[.string s, .int .u8 c] w fun e w' => e = .returned (.int .i64 (ahd (bl s) b)) ∧ w' = w := by
  have hle := ahd_le (bl s) b
  rw [bl_len] at hle
  have HC : Hid ((b.toNat : Int) = c) := hc
  clear hc
  go_enter Try.func18, Try.ntmps18
  go_wp2
  go_loop [8] (fun x => ∃ i : Nat, x = .int .i64 i ∧ i ≤ ahd (bl s) b) (fun x => s.size - (intOf x).toNat)
  case atStart => exact ⟨0, rfl, Nat.zero_le _⟩
  case round =>
    obtain ⟨i, rfl, hi⟩ := hrel
    by_cases hlt : i < s.size
    · have hat := bl_at s hlt
      have t1 : (i : Int) < s.size := by omega
      obtain ⟨x, hx⟩ : ∃ x : UInt8, s[i] = x := ⟨_, rfl⟩
      rw [hx] at hat
      by_cases he : x = b
      · subst he
        have hq : ((x.toNat : Int) == c) = true := by rw [HC.out]; simp
        have hst := ahd_stop hat
        go_wp2
        go_ret
        exact ⟨ret_int (by omega), rfl⟩
      · have hq : ((x.toNat : Int) == c) = false := by
          rw [← HC.out, beq_eq_false_iff_ne]
          intro e
          exact he (UInt8.toNat_inj.1 (by omega))
        have hgo := ahd_go hi hat he
        go_wp2
        go_round
        case rel => exact ⟨i + 1, by simp, hgo⟩
        case measure => simp [intOf]; omega
    · have t1 : ¬ (i : Int) < s.size := by omega
      go_wp2
      go_ret
      exact ⟨ret_int (by omega), rfl⟩

theorem nat_eq {a b : Nat} (h : a = b) : (((a : Int)) == (b : Int)) = true := by simp [h]
theorem nat_ne {a b : Nat} (h : ¬ a = b) : (((a : Int)) == (b : Int)) = false := by
  rw [beq_eq_false_iff_ne]; omega

theorem right_w (s : ByteArray) (hs : s.size ≤ 1000000) (w : World) :
    Calls Try.prog 14 #[.string s] w fun e w' => e = .returned (.bool (rightF (bl s))) ∧ w' = w := by
  have A := ahead_w s 47 47 rfl hs
  have B := ahead_w s 0 0 rfl hs
  unfold rightF
  rw [bl_len]
  generalize ahd (bl s) 47 = a at *
  generalize ahd (bl s) 0 = b at *
  by_cases h1 : 1 ≤ s.size
  · have t1 : (1 : Int) ≤ s.size := by omega
    have d1 : decide (1 ≤ s.size) = true := by simpa using h1
    rw [d1]
    by_cases h2 : s.size ≤ 14
    · have t2 : (s.size : Int) ≤ 14 := by omega
      have d2 : decide (s.size ≤ 14) = true := by simpa using h2
      rw [d2]
      by_cases h3 : a = s.size
      · have d3 : decide (a = s.size) = true := by simpa using h3
        have q3 := nat_eq h3
        rw [d3]
        clear h3 d3
        go_enter Try.func14, Try.ntmps14
        go_wp2_with fail
        refine (A _).mono ?_
        rintro e w1 ⟨rfl, rfl⟩
        go_wp2_with fail
        refine (B _).mono ?_
        rintro e w2 ⟨rfl, rfl⟩
        go_wp2
        go_ret
        refine ⟨ret_bool ?_, rfl⟩
        rw [Bool.eq_iff_iff]
        simp
        omega
      · have d3 : decide (a = s.size) = false := by simpa using h3
        have q3 := nat_ne h3
        rw [d3]
        clear h3 d3
        go_enter Try.func14, Try.ntmps14
        go_wp2_with fail
        refine (A _).mono ?_
        rintro e w1 ⟨rfl, rfl⟩
        go_wp2
        go_ret
        exact ⟨rfl, rfl⟩
    · have t2 : ¬ (s.size : Int) ≤ 14 := by omega
      have d2 : decide (s.size ≤ 14) = false := by simpa using h2
      rw [d2]
      go_enter Try.func14, Try.ntmps14
      go_wp2
      go_ret
      exact ⟨rfl, rfl⟩
  · have t1 : ¬ (1 : Int) ≤ s.size := by omega
    have d1 : decide (1 ≤ s.size) = false := by simpa using h1
    rw [d1]
    go_enter Try.func14, Try.ntmps14
    go_wp2
    go_ret
    exact ⟨rfl, rfl⟩

theorem info_byte : (Try.prog.info? 5).map (fun i => (i.zero, i.size, i.bytes)) = some (some (.int .u8 0), 1, 1) := by kernel_rfl

theorem below_kept {w w' : World} (h : Below w.heap.size w w') : Kept (fun _ => False) w w' := ⟨h.os, h.tape, h.output, h.size, fun k hk _ => h.block k hk⟩

set_option maxRecDepth 100000 in
theorem lite_w (s : ByteArray) (hs : s.size ≤ 1000000) (w : World) :
    Calls Try.prog 20 #[.string s] w fun e w' => e = .returned (.string s) ∧ Kept (fun _ => False) w w' := by
  by_cases h0 : s.size = 0
  · have hs : s = ⟨#[]⟩ := by
      apply ByteArray.ext
      exact Array.eq_empty_of_size_eq_zero h0
    subst hs
    go_enter Try.func20, Try.ntmps20
    go_wp2
    go_ret
    exact ⟨rfl, Kept.refl _ _⟩
  · obtain ⟨i0, hi, hz0, hz1, hz2⟩ := info_parts info_byte
    have hinfo : (Try.prog.info? 5).map (·.size) = some 1 := by rw [hi]; simp [hz1]
    have hco : Try.prog.cellsOf 5 = 1 := by kernel_rfl
    obtain ⟨M, hM⟩ : ∃ M, M = madeCells (Value.int .u8 0).cells (((s.size : Nat) : Int).toNat * i0.size) := ⟨_, rfl⟩
    have hMs : M.size = s.size := by rw [hM, size_madeCells, hz1]; simp
    have hmk : ∀ W : World, (Instr.makeSlice 35 (.int .i64 (s.size : Int)) (.int .i64 (s.size : Int))).run Try.prog W = .ok (.slice (some ⟨W.heap.size, 0, none⟩) s.size s.size) (W.alloc (.cells M 5)) := fun W => by
      have h := run_make (P := Try.prog) W 35 5 i0 (.int .u8 0) Try.underlying35 hi hz0 .i64 .i64 (s.size : Int) (s.size : Int) (by omega) (by omega) (by rw [hz2]; omega) (by omega)
      rw [← hM] at h
      simpa using h
    clear hM
    have hcp := Lib.run_copy_row_string (P := Try.prog) (w.alloc (.cells M 5)) 35 9 3 5 w.heap.size 0 s.size s.size s M 5 Try.underlying35 hinfo (heap_alloc_new w _) (Nat.le_refl _) (by omega)
    obtain ⟨Y, hY⟩ : ∃ Y, Y = (M.toList.take 0 ++ Lib.byteCells s.data.toList ++ M.toList.drop (0 + s.size)).toArray := ⟨_, rfl⟩
    rw [← hY] at hcp
    have hYl : Y.toList = Lib.byteCells s.data.toList := by
      rw [hY, List.toList_toArray, List.take_zero, List.nil_append, List.drop_of_length_le (by rw [Array.length_toList]; omega), List.append_nil]
    have hYs : Y.size = s.size := by rw [← Array.length_toList, hYl, Lib.byteCells_length, ← Lib.size_eq]
    have hgY : ((w.alloc (.cells M 5)).setRow w.heap.size Y).heap[w.heap.size]? = some (.cells Y 5 (0, 0)) := setRow_heap _ _ M _ 5 (0, 0) (heap_alloc_new w _)
    have hne : s.data.toList ≠ [] := fun e => h0 (by rw [Lib.size_eq, e]; rfl)
    have hUS := Lib.run_unsafeString_row (P := Try.prog) ((w.alloc (.cells M 5)).setRow w.heap.size Y) 42 3 9 5 Try.underlying42 hco w.heap.size Y.size (by unfold World.shape?; rw [hgY]) s.data.toList hne (by rw [← Lib.size_eq]; omega) (by rw [← Lib.size_eq]; omega)
      (fun j x hx => Lib.cells_of_row hgY Y.size j _ (by rw [List.take_of_length_le (by rw [Array.length_toList]; exact Nat.le_refl _), hYl]; simp [Lib.byteCells, hx]))
    rw [← Lib.size_eq] at hUS
    clear hY
    go_enter Try.func20, Try.ntmps20
    go_wp2
    go_ret
    have hb1 : Below w.heap.size w (w.alloc (.cells M 5)) := (Below.refl _ w).alloc (Nat.le_refl _) _
    have hb2 : Below w.heap.size (w.alloc (.cells M 5)) ((w.alloc (.cells M 5)).setRow w.heap.size Y) := ⟨rfl, rfl, rfl, by simp, fun k hk => setRow_other _ _ _ _ (by omega)⟩
    exact ⟨rfl, below_kept (Lib.below_freeze (hb1.trans hb2) (p := ⟨w.heap.size, 0, none⟩) (Nat.le_refl _) _)⟩

theorem clone_w (s : ByteArray) (hs : s.size ≤ 1000000) (w : World) :
    Calls Try.prog 19 #[.string s] w fun e w' => e = .returned (.string s) ∧ Kept (fun _ => False) w w' := by
  go_enter Try.func19, Try.ntmps19
  go_wp2_with fail
  refine (lite_w s hs w).mono ?_
  rintro e w1 ⟨rfl, hk⟩
  go_wp2
  go_ret
  exact ⟨rfl, hk⟩
end Go.Proofs.Ytaemchmjajbadaa
