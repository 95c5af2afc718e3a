/- The statement on the row; no conditions. -/
import Derived.Test.YtheflmomomknbaaTells
import Derived.Test.YtheflmomomknbaaWithin
namespace Go.Proofs.Ytheflmomomknbaa
open Go.RowKit

theorem mod55 (n : Int) : ∃ a : Nat, 0 + n % (54 - 0 + 1) = a ∧ a < 55 := ⟨(n % 55).toNat, by omega, by omega⟩

set_option maxRecDepth 10000 in
set_option maxHeartbeats 1600000 in
theorem row_w (n m : Int) (w : World) : Calls Try.prog 5 #[.int .i64 n, .int .i64 m] w fun e w' => e = .returned (.bool true) ∧ Kept (fun _ => False) w w' := by
  obtain ⟨a, ha, ha55⟩ := mod55 n
  obtain ⟨b, hb, hb55⟩ := mod55 m
  have HA : Hid _ := ha
  have HB : Hid _ := hb
  clear ha hb
  go_enter Try.func5, Try.ntmps5
  go_wp2_with fail
  refine (all_w _).mono ?_
  rintro e w1 ⟨rfl, rfl⟩
  go_wp2_with fail
  refine (within_any n 0 54 (by decide) (by decide) (by decide) _).mono ?_
  rintro e w2 ⟨rfl, rfl⟩
  rw [HA.out]
  go_wp2_with fail
  refine (all_w _).mono ?_
  rintro e w3 ⟨rfl, rfl⟩
  go_wp2_with fail
  refine (within_any m 0 54 (by decide) (by decide) (by decide) _).mono ?_
  rintro e w4 ⟨rfl, rfl⟩
  rw [HB.out]
  clear HA HB
  have A := keyat2 a ha55 w4
  have B := keyat2 b hb55
  have hpa : plc ((keyAt a).1, (keyAt a).2) = (a : Int) := plc_keyAt (by omega) (by omega)
  have hpb : plc ((keyAt b).1, (keyAt b).2) = (b : Int) := plc_keyAt (by omega) (by omega)
  have HC : Hid ((a = b ∧ (keyAt a).1 = (keyAt b).1 ∧ (keyAt a).2 = (keyAt b).2) ∨ (a < b ∧ (keyAt a).1 < (keyAt b).1) ∨ (a < b ∧ (keyAt a).1 = (keyAt b).1 ∧ (keyAt a).2 < (keyAt b).2) ∨ (b < a ∧ (keyAt b).1 < (keyAt a).1) ∨ (b < a ∧ (keyAt b).1 = (keyAt a).1 ∧ (keyAt b).2 < (keyAt a).2)) := by
    rcases Nat.lt_trichotomy a b with h | h | h
    · rcases keyAt_rises (p := a) (q := b) (by omega) (by omega) (by omega) with g | g
      · exact .inr (.inl ⟨h, g⟩)
      · exact .inr (.inr (.inl ⟨h, g⟩))
    · subst h; exact .inl ⟨rfl, rfl, rfl⟩
    · rcases keyAt_rises (p := b) (q := a) (by omega) (by omega) (by omega) with g | g
      · exact .inr (.inr (.inr (.inl ⟨h, g⟩)))
      · exact .inr (.inr (.inr (.inr ⟨h, g⟩)))
  generalize (keyAt (a : Int)).1 = xa at *
  generalize (keyAt (a : Int)).2 = xn at *
  generalize (keyAt (b : Int)).1 = ya at *
  generalize (keyAt (b : Int)).2 = yn at *
  go_wp2_with fail
  refine A.mono ?_
  rintro e w5 ⟨rfl, hk5⟩
  clear A
  obtain ⟨C, hC⟩ : ∃ C : Nat, w5.heap.size = C := ⟨_, rfl⟩
  go_wp2_with fail
  refine (B _).mono ?_
  rintro e w6 ⟨rfl, hk6⟩
  clear B
  obtain ⟨D, hD⟩ : ∃ D : Nat, w6.heap.size = D := ⟨_, rfl⟩
  have d1 := alloc_off (o := .cells #[.int .i64 ya, .int .i64 yn] 23) (hk6.at (alloc_at' (.cells #[.int .i64 xa, .int .i64 xn] 23) hC) (fun x => x))
  have d2 := alloc_at' (.cells #[.int .i64 ya, .int .i64 yn] 23) hD
  have HK : Hid (Kept (fun _ => False) w4 _) := (hk5.alloc (.cells #[.int .i64 xa, .int .i64 xn] 23)).thru (hk6.alloc (.cells #[.int .i64 ya, .int .i64 yn] 23))
  clear hk5 hk6 hC
  go_upto_region 4 with fail
  generalize w6.alloc (.cells #[.int .i64 ya, .int .i64 yn] 23) = w7 at *
  have c0 := cell_at d1 (i := 0) rfl
  have c1 := cell_at d1 (i := 1) rfl
  have c2 := cell_at d2 (i := 0) rfl
  have c3 := cell_at d2 (i := 1) rfl
  clear hD
  rcases HC.out with ⟨rfl, rfl, rfl⟩ | ⟨h1, h2⟩ | ⟨h1, rfl, h2⟩ | ⟨h1, h2⟩ | ⟨h1, rfl, h2⟩
  · clear HC
    go_wp2_with fail
    refine (place2 _ _ _).mono ?_
    rintro e w8 ⟨rfl, hk8⟩
    have d1 := hk8.at d1 (fun x => x)
    have d2 := hk8.at d2 (fun x => x)
    have c0 := cell_at d1 (i := 0) rfl
    have c1 := cell_at d1 (i := 1) rfl
    have c2 := cell_at d2 (i := 0) rfl
    have c3 := cell_at d2 (i := 1) rfl
    have HK := HK.out.thru hk8
    clear hk8
    go_wp2_with fail
    refine (place2 _ _ _).mono ?_
    rintro e w9 ⟨rfl, hk9⟩
    have d1 := hk9.at d1 (fun x => x)
    have d2 := hk9.at d2 (fun x => x)
    have c0 := cell_at d1 (i := 0) rfl
    have c1 := cell_at d1 (i := 1) rfl
    have c2 := cell_at d2 (i := 0) rfl
    have c3 := cell_at d2 (i := 1) rfl
    have HK := HK.thru hk9
    clear hk9
    go_wp2_with fail
    refine (keyat_w _ (by omega) _).mono ?_
    rintro e w10 ⟨rfl, hk10⟩
    rw [isAt_low (by omega)]
    have HK := HK.thru hk10
    clear hk10
    unfold kv
    generalize (keyAt _).1 = z1
    generalize (keyAt _).2 = z2
    have HK : Hid _ := HK.alloc (.cells #[.int .i64 z1, .int .i64 z2] 23)
    go_wp2_with fail
    refine (all_w _).mono ?_
    rintro e w11 ⟨rfl, rfl⟩
    go_wp2_with fail
    refine (keyat_w _ (by omega) _).mono ?_
    rintro e w12 ⟨rfl, hk12⟩
    rw [isAt_high (by omega)]
    have HK := HK.out.thru hk12
    clear hk12
    unfold kv
    generalize (keyAt _).1 = z3
    generalize (keyAt _).2 = z4
    have HK : Hid _ := HK.alloc (.cells #[.int .i64 z3, .int .i64 z4] 23)
    go_wp2_with fail
    refine (runs_w _).mono ?_
    rintro e w13 ⟨rfl, hk13⟩
    have HK : Hid _ := HK.out.thru hk13
    clear hk13
    go_wp2
    go_ret
    exact ⟨rfl, HK.out⟩
  · clear HC
    have t1 : (a : Int) < (b : Int) := by omega
    have t2 : ((a : Int) == (b : Int)) = false := by simp; omega
    have t3 : (xa == ya) = false := by simp; omega
    have t4 : decide (ya < xa) = false := by simp; omega
    go_wp2_with fail
    refine (place2 _ _ _).mono ?_
    rintro e w8 ⟨rfl, hk8⟩
    have d1 := hk8.at d1 (fun x => x)
    have d2 := hk8.at d2 (fun x => x)
    have c0 := cell_at d1 (i := 0) rfl
    have c1 := cell_at d1 (i := 1) rfl
    have c2 := cell_at d2 (i := 0) rfl
    have c3 := cell_at d2 (i := 1) rfl
    have HK := HK.out.thru hk8
    clear hk8
    go_wp2_with fail
    refine (place2 _ _ _).mono ?_
    rintro e w9 ⟨rfl, hk9⟩
    have d1 := hk9.at d1 (fun x => x)
    have d2 := hk9.at d2 (fun x => x)
    have c0 := cell_at d1 (i := 0) rfl
    have c1 := cell_at d1 (i := 1) rfl
    have c2 := cell_at d2 (i := 0) rfl
    have c3 := cell_at d2 (i := 1) rfl
    have HK := HK.thru hk9
    clear hk9
    go_wp2_with fail
    refine (keyat_w _ (by omega) _).mono ?_
    rintro e w10 ⟨rfl, hk10⟩
    rw [isAt_low (by omega)]
    have HK := HK.thru hk10
    clear hk10
    unfold kv
    generalize (keyAt _).1 = z1
    generalize (keyAt _).2 = z2
    have HK : Hid _ := HK.alloc (.cells #[.int .i64 z1, .int .i64 z2] 23)
    go_wp2_with fail
    refine (all_w _).mono ?_
    rintro e w11 ⟨rfl, rfl⟩
    go_wp2_with fail
    refine (keyat_w _ (by omega) _).mono ?_
    rintro e w12 ⟨rfl, hk12⟩
    rw [isAt_high (by omega)]
    have HK := HK.out.thru hk12
    clear hk12
    unfold kv
    generalize (keyAt _).1 = z3
    generalize (keyAt _).2 = z4
    have HK : Hid _ := HK.alloc (.cells #[.int .i64 z3, .int .i64 z4] 23)
    go_wp2_with fail
    refine (runs_w _).mono ?_
    rintro e w13 ⟨rfl, hk13⟩
    have HK : Hid _ := HK.out.thru hk13
    clear hk13
    go_wp2
    go_ret
    exact ⟨rfl, HK.out⟩
  · clear HC
    have t1 : (a : Int) < (b : Int) := by omega
    have t2 : ((a : Int) == (b : Int)) = false := by simp; omega
    have t3 : (xn == yn) = false := by simp; omega
    have t4 : decide (yn ≤ xn) = false := by simp; omega
    go_wp2_with fail
    refine (place2 _ _ _).mono ?_
    rintro e w8 ⟨rfl, hk8⟩
    have d1 := hk8.at d1 (fun x => x)
    have d2 := hk8.at d2 (fun x => x)
    have c0 := cell_at d1 (i := 0) rfl
    have c1 := cell_at d1 (i := 1) rfl
    have c2 := cell_at d2 (i := 0) rfl
    have c3 := cell_at d2 (i := 1) rfl
    have HK := HK.out.thru hk8
    clear hk8
    go_wp2_with fail
    refine (place2 _ _ _).mono ?_
    rintro e w9 ⟨rfl, hk9⟩
    have d1 := hk9.at d1 (fun x => x)
    have d2 := hk9.at d2 (fun x => x)
    have c0 := cell_at d1 (i := 0) rfl
    have c1 := cell_at d1 (i := 1) rfl
    have c2 := cell_at d2 (i := 0) rfl
    have c3 := cell_at d2 (i := 1) rfl
    have HK := HK.thru hk9
    clear hk9
    go_wp2_with fail
    refine (keyat_w _ (by omega) _).mono ?_
    rintro e w10 ⟨rfl, hk10⟩
    rw [isAt_low (by omega)]
    have HK := HK.thru hk10
    clear hk10
    unfold kv
    generalize (keyAt _).1 = z1
    generalize (keyAt _).2 = z2
    have HK : Hid _ := HK.alloc (.cells #[.int .i64 z1, .int .i64 z2] 23)
    go_wp2_with fail
    refine (all_w _).mono ?_
    rintro e w11 ⟨rfl, rfl⟩
    go_wp2_with fail
    refine (keyat_w _ (by omega) _).mono ?_
    rintro e w12 ⟨rfl, hk12⟩
    rw [isAt_high (by omega)]
    have HK := HK.out.thru hk12
    clear hk12
    unfold kv
    generalize (keyAt _).1 = z3
    generalize (keyAt _).2 = z4
    have HK : Hid _ := HK.alloc (.cells #[.int .i64 z3, .int .i64 z4] 23)
    go_wp2_with fail
    refine (runs_w _).mono ?_
    rintro e w13 ⟨rfl, hk13⟩
    have HK : Hid _ := HK.out.thru hk13
    clear hk13
    go_wp2
    go_ret
    exact ⟨rfl, HK.out⟩
  · clear HC
    have t1 : ¬ (a : Int) < (b : Int) := by omega
    have t2 : ((a : Int) == (b : Int)) = false := by simp; omega
    have t3 : (xa == ya) = false := by simp; omega
    go_wp2_with fail
    refine (place2 _ _ _).mono ?_
    rintro e w8 ⟨rfl, hk8⟩
    have d1 := hk8.at d1 (fun x => x)
    have d2 := hk8.at d2 (fun x => x)
    have c0 := cell_at d1 (i := 0) rfl
    have c1 := cell_at d1 (i := 1) rfl
    have c2 := cell_at d2 (i := 0) rfl
    have c3 := cell_at d2 (i := 1) rfl
    have HK := HK.out.thru hk8
    clear hk8
    go_wp2_with fail
    refine (place2 _ _ _).mono ?_
    rintro e w9 ⟨rfl, hk9⟩
    have d1 := hk9.at d1 (fun x => x)
    have d2 := hk9.at d2 (fun x => x)
    have c0 := cell_at d1 (i := 0) rfl
    have c1 := cell_at d1 (i := 1) rfl
    have c2 := cell_at d2 (i := 0) rfl
    have c3 := cell_at d2 (i := 1) rfl
    have HK := HK.thru hk9
    clear hk9
    go_wp2_with fail
    refine (keyat_w _ (by omega) _).mono ?_
    rintro e w10 ⟨rfl, hk10⟩
    rw [isAt_low (by omega)]
    have HK := HK.thru hk10
    clear hk10
    unfold kv
    generalize (keyAt _).1 = z1
    generalize (keyAt _).2 = z2
    have HK : Hid _ := HK.alloc (.cells #[.int .i64 z1, .int .i64 z2] 23)
    go_wp2_with fail
    refine (all_w _).mono ?_
    rintro e w11 ⟨rfl, rfl⟩
    go_wp2_with fail
    refine (keyat_w _ (by omega) _).mono ?_
    rintro e w12 ⟨rfl, hk12⟩
    rw [isAt_high (by omega)]
    have HK := HK.out.thru hk12
    clear hk12
    unfold kv
    generalize (keyAt _).1 = z3
    generalize (keyAt _).2 = z4
    have HK : Hid _ := HK.alloc (.cells #[.int .i64 z3, .int .i64 z4] 23)
    go_wp2_with fail
    refine (runs_w _).mono ?_
    rintro e w13 ⟨rfl, hk13⟩
    have HK : Hid _ := HK.out.thru hk13
    clear hk13
    go_wp2
    go_ret
    exact ⟨rfl, HK.out⟩
  · clear HC
    have t1 : ¬ (a : Int) < (b : Int) := by omega
    have t2 : ((a : Int) == (b : Int)) = false := by simp; omega
    have t3 : (xn == yn) = false := by simp; omega
    go_wp2_with fail
    refine (place2 _ _ _).mono ?_
    rintro e w8 ⟨rfl, hk8⟩
    have d1 := hk8.at d1 (fun x => x)
    have d2 := hk8.at d2 (fun x => x)
    have c0 := cell_at d1 (i := 0) rfl
    have c1 := cell_at d1 (i := 1) rfl
    have c2 := cell_at d2 (i := 0) rfl
    have c3 := cell_at d2 (i := 1) rfl
    have HK := HK.out.thru hk8
    clear hk8
    go_wp2_with fail
    refine (place2 _ _ _).mono ?_
    rintro e w9 ⟨rfl, hk9⟩
    have d1 := hk9.at d1 (fun x => x)
    have d2 := hk9.at d2 (fun x => x)
    have c0 := cell_at d1 (i := 0) rfl
    have c1 := cell_at d1 (i := 1) rfl
    have c2 := cell_at d2 (i := 0) rfl
    have c3 := cell_at d2 (i := 1) rfl
    have HK := HK.thru hk9
    clear hk9
    go_wp2_with fail
    refine (keyat_w _ (by omega) _).mono ?_
    rintro e w10 ⟨rfl, hk10⟩
    rw [isAt_low (by omega)]
    have HK := HK.thru hk10
    clear hk10
    unfold kv
    generalize (keyAt _).1 = z1
    generalize (keyAt _).2 = z2
    have HK : Hid _ := HK.alloc (.cells #[.int .i64 z1, .int .i64 z2] 23)
    go_wp2_with fail
    refine (all_w _).mono ?_
    rintro e w11 ⟨rfl, rfl⟩
    go_wp2_with fail
    refine (keyat_w _ (by omega) _).mono ?_
    rintro e w12 ⟨rfl, hk12⟩
    rw [isAt_high (by omega)]
    have HK := HK.out.thru hk12
    clear hk12
    unfold kv
    generalize (keyAt _).1 = z3
    generalize (keyAt _).2 = z4
    have HK : Hid _ := HK.alloc (.cells #[.int .i64 z3, .int .i64 z4] 23)
    go_wp2_with fail
    refine (runs_w _).mono ?_
    rintro e w13 ⟨rfl, hk13⟩
    have HK : Hid _ := HK.out.thru hk13
    clear hk13
    go_wp2
    go_ret
    exact ⟨rfl, HK.out⟩
end Go.Proofs.Ytheflmomomknbaa
