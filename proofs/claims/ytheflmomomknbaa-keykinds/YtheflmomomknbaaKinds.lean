/- The statement on kinds; no conditions. -/
import Derived.Test.YtheflmomomknbaaRow
namespace Go.Proofs.Ytheflmomomknbaa
open Go.RowKit

theorem mod12 (n : Int) : ∃ a : Nat, 1 + n % (12 - 1 + 1) = (a : Int) + 1 ∧ a < 12 := ⟨(n % 12).toNat, by omega, by omega⟩
theorem mod100 (n : Int) : ∃ a : Nat, 0 + n % (99 - 0 + 1) = (a : Int) ∧ a < 100 := ⟨(n % 100).toNat, by omega, by omega⟩

theorem cnt_kind {a : Nat} (h : a < 12) : 1 ≤ cnt ((a : Int) + 1) := by
  have all : ∀ a : Nat, a < 12 → 1 ≤ cnt ((a : Int) + 1) := by decide +kernel
  exact all a h

theorem cnt_low {k : Int} (h : k < 1) : cnt k = 0 := by
  unfold cnt; rw [if_neg (by omega), if_neg (by omega), if_neg (by omega), if_neg (by omega), if_pos (by omega)]
theorem cnt_high {k : Int} (h : 12 < k) : cnt k = 0 := by
  unfold cnt; rw [if_neg (by omega), if_neg (by omega), if_neg (by omega), if_neg (by omega), if_pos (by omega)]

set_option maxRecDepth 10000 in
set_option maxHeartbeats 1600000 in
theorem kinds_w (kind n : Int) (w : World) : Calls Try.prog 7 #[.int .i64 kind, .int .i64 n] w fun e w' => e = .returned (.bool true) ∧ Kept (fun _ => False) w w' := by
  obtain ⟨a, ha, ha12⟩ := mod12 kind
  obtain ⟨o, ho, ho100⟩ := mod100 n
  have HA : Hid _ := ha
  have HO : Hid _ := ho
  clear ha ho
  have hc := cnt_kind ha12
  have hcb := cnt_bounds ((a : Int) + 1)
  have hab := ahd_bounds ((a : Int) + 1)
  have hpf : plc ((a : Int) + 1, 0) = ahd ((a : Int) + 1) := by rw [plc_is (by simp) (by simp only; omega)]; simp
  have HP : Hid (∀ i : Nat, (i : Int) < cnt ((a : Int) + 1) → plc ((a : Int) + 1, (i : Int)) = ahd ((a : Int) + 1) + i) := fun i hi => plc_is (by simp) hi
  have q1 : plc ((a : Int) + 1, cnt ((a : Int) + 1) + (o : Int)) = -1 := plc_no (.inr (by simp only; omega))
  have q2 : plc ((a : Int) + 1, -1 - (o : Int)) = -1 := plc_no (.inl (by simp only; omega))
  have q3 : plc (13 + (o : Int), 0) = -1 := plc_no (.inr (by simp only; rw [cnt_high (by omega)]; simp))
  have q4 : plc (-(o : Int), 0) = -1 := plc_no (.inr (by simp only; rw [cnt_low (by omega)]; simp))
  obtain ⟨B, hB⟩ : ∃ B : Nat, w.heap.size = B := ⟨_, rfl⟩
  have HB0 : Hid ((w.alloc (.cells szs 3)).heap[B]? = some (.cells szs 3 (0, 0)) ∧ Kept (fun _ => False) w (w.alloc (.cells szs 3))) := ⟨alloc_at' _ hB, (Kept.refl _ _).alloc _⟩
  have HG : Hid (szs[a]? = some (.int .i64 (cnt ((a : Int) + 1)))) := szs_get ha12
  have HZ : Hid _ := @szs_get
  generalize hcc : cnt ((a : Int) + 1) = c at *
  generalize haa : ahd ((a : Int) + 1) = f at *
  clear hcc haa
  go_enter Try.func7, Try.ntmps7
  go_wp2_with fail
  refine (within_any kind 1 12 (by decide) (by decide) (by decide) _).mono ?_
  rintro e w2 ⟨rfl, hw2⟩
  subst hw2
  rw [HA.out]
  clear HA
  have HB : Hid _ := HB0.out
  clear HB0
  unfold szs at HB
  generalize w.alloc _ = wA at *
  go_wp2_with fail
  refine (place2 _ _ _).mono ?_
  rintro e w3 ⟨rfl, hk3⟩
  rw [hpf]
  have HB3 : Hid (w3.heap[B]? = some (.cells szs 3 (0, 0)) ∧ Kept (fun _ => False) w w3) := ⟨hk3.at HB.out.1 (fun x => x), HB.out.2.thru hk3⟩
  clear hk3 HB
  go_wp2
  go_loopw [8] (fun s wr => ∃ i : Nat, s = .int .i64 i ∧ (i : Int) ≤ c ∧ Hid (wr.heap[B]? = some (.cells szs 3 (0, 0)) ∧ Kept (fun _ => False) w wr)) (fun s _ => 16 - (intOf s).toNat)
  case atStart => exact ⟨0, rfl, by omega, HB3.out⟩
  case round =>
    obtain ⟨i, rfl, hi, HR⟩ := hrel
    clear HB3
    have c0 := cell_at HR.out.1 HG.out
    by_cases hlt : (i : Int) < c
    · have hpi := HP.out i hlt
      clear HP HZ HG q1 q2 q3 q4 hpf
      go_wp2_with fail
      refine (place2 _ _ _).mono ?_
      rintro e w4 ⟨rfl, hk4⟩
      rw [hpi]
      have HR4 : Hid (w4.heap[B]? = some (.cells szs 3 (0, 0)) ∧ Kept (fun _ => False) w w4) := ⟨hk4.at HR.out.1 (fun x => x), HR.out.2.thru hk4⟩
      clear hk4 HR c0 hpi
      go_wp2
      go_roundw
      case rel => exact ⟨i + 1, by go_num, by omega, HR4.out⟩
      case measure => simp [intOf]; omega
    · clear HP hpf
      have HQ : Hid _ := And.intro q1 (And.intro q2 (And.intro q3 q4))
      clear q1 q2 q3 q4
      go_wp2_with fail
      refine (within_any n 0 99 (by decide) (by decide) (by decide) _).mono ?_
      rintro e w5 ⟨rfl, hw5⟩
      subst hw5
      rw [HO.out]
      clear HO
      go_wp2
      go_loop [10, 12, 42] (fun t _ s => ∃ j : Nat, s = .int .i64 j ∧ j ≤ 12 ∧ t = .int .i64 (ahd ((j : Int) + 1))) (fun _ _ s => 12 - (intOf s).toNat)
      case atStart => exact ⟨0, rfl, Nat.zero_le _, rfl⟩
      case round =>
        obtain ⟨j, rfl, hj, rfl⟩ := hrel
        by_cases hjl : j < 12
        · have t1 : (j : Int) < 12 := by omega
          have cj := cell_at HR.out.1 (HZ.out hjl)
          have hc' := cnt_bounds ((j : Int) + 1)
          have hb' := ahd_bounds ((j : Int) + 1)
          have HN : Hid _ := ahd_next (k := (j : Int) + 1) (by omega) (by omega)
          generalize cnt ((j : Int) + 1) = cc at *
          generalize ahd ((j : Int) + 1) = aa at *
          clear HR HZ HG c0
          go_wp2
          go_round
          case rel => exact ⟨j + 1, by go_num, by omega, by rw [← HN.out]; rfl⟩
          case measure => simp [intOf]; omega
        · obtain rfl : j = 12 := by omega
          rw [show ahd ((12 : Nat) + 1 : Int) = 55 from rfl]
          obtain ⟨q1, q2, q3, q4⟩ := HQ.out
          clear HQ HZ HG
          go_wp2_with fail
          refine (place2 _ _ _).mono ?_
          rintro e w6 ⟨rfl, hk6⟩
          rw [q1]
          go_wp2_with fail
          refine (place2 _ _ _).mono ?_
          rintro e w7 ⟨rfl, hk7⟩
          rw [q2]
          go_wp2_with fail
          refine (place2 _ _ _).mono ?_
          rintro e w8 ⟨rfl, hk8⟩
          rw [q3]
          go_wp2_with fail
          refine (place2 _ _ _).mono ?_
          rintro e w9 ⟨rfl, hk9⟩
          rw [q4]
          have HK : Hid (Kept (fun _ => False) w w9) := (((HR.out.2.thru hk6).thru hk7).thru hk8).thru hk9
          clear hk6 hk7 hk8 hk9 HR
          go_wp2_with fail
          refine (all_w _).mono ?_
          rintro e w10 ⟨rfl, rfl⟩
          go_wp2_with fail
          refine (runs_w _).mono ?_
          rintro e w11 ⟨rfl, hk11⟩
          have HK : Hid _ := HK.out.thru hk11
          clear hk11
          go_wp2
          go_ret
          exact ⟨rfl, HK.out⟩
end Go.Proofs.Ytheflmomomknbaa
