/- What FpuHalves does when it is called: it returns true on all words. -/
import Derived.Test.YtednckjhgijekaaOpWalk
import Derived.Test.YtednckjhgijekaaHalveFacts
namespace Go.Proofs.Ytednckjhgijekaa
open Go.RowKit
open Fp

theorem and63 (x : Nat) (hx : Wd x) : bits .and .u64 (x : Int) 9223372036854775808 = ((mk (sgn x) 0 : Nat) : Int) := by
  have h := u64_and_nat x 9223372036854775808 hx (by decide)
  rw [show ((9223372036854775808 : Nat) : Int) = 9223372036854775808 from rfl] at h
  rw [h]
  congr 1
  have hb : x &&& 9223372036854775808 = x / 9223372036854775808 % 2 * 9223372036854775808 := nat_bit 63 _
  rw [hb, sgn_nat _ hx]
  cases sgn x <;> rfl

theorem op_half_mul {w0 : World} {x z : Nat} (hx : Wd x) (h : opF 3 x 4602678819172646912 = z) (w : World) (hg : Grown w0 w) : Calls Try.prog 10 #[.int .i64 3, .int .u64 x, .int .u64 4602678819172646912] w fun e w' => e = .returned (.int .u64 z) ∧ Grown w0 w' := by
  have c := op_at 3 x 4602678819172646912 hx (by decide) w hg
  rw [h] at c
  exact c

/-- what holds at a round's head -/
def Inv (y0 Y n : Nat) (b : Bool) : Prop := (n = 0 ∧ Y = y0 ∧ inf ≤ rung Y) ∨ (∃ r k, Y = mk (sgn y0) r ∧ r < inf ∧ r ≤ bnd k ∧ k + n ≤ 2099 ∧ (n = 0 ∨ b = true ∨ r ≠ 0))

theorem kind_bools {x : Nat} (h : rung x < inf) : (kindF x == 1) = false ∧ (kindF x == 2) = false ∧ (kindF x == 3) = decide (rung x = 0) ∧ (kindF x == 4) = decide (rung x ≠ 0 ∧ rung x < 4503599627370496) := by
  have hn : isNan x = false := by unfold isNan; simp; omega
  refine ⟨?_, ?_, ?_, ?_⟩
  · rw [beq_eq_false_iff_ne]; intro e; rw [kind_nan, hn] at e; cases e
  · rw [beq_eq_false_iff_ne]; intro e; rw [kind_is_inf] at e; omega
  · rw [Bool.eq_iff_iff, beq_iff_eq, decide_eq_true_eq]; exact kind_is_zero
  · rw [Bool.eq_iff_iff, beq_iff_eq, decide_eq_true_eq]; exact kind_is_sub

set_option maxRecDepth 100000 in
set_option maxHeartbeats 1000000 in
theorem halves_any (x : Nat) (hx : Wd x) (w : World) :
    Calls Try.prog 8 #[.int .u64 x] w fun e w' => e = .returned (.bool true) ∧ Grown w w' := by
  have cl := clean_any x
  have hy : Wd (cleanF x) := clean_lt hx
  have hyn : isNan (cleanF x) = true → cleanF x = nanW := fun h => by rw [isNan_clean] at h; exact clean_nan h
  generalize cleanF x = y0 at *
  clear hx
  have hs := and63 y0 hy
  have hI : Inv y0 y0 0 false := by
    by_cases c : rung y0 < inf
    · exact Or.inr ⟨rung y0, 2099, (mk_of y0 hy).symm, c, bnd_top c, by omega, Or.inl rfl⟩
    · exact Or.inl ⟨rfl, rfl, by omega⟩
  have HI : Hid (Inv y0 y0 0 false) := hI
  have HN : Hid (isNan y0 = true → y0 = nanW) := hyn
  have HY : Hid (Wd y0) := hy
  clear hI hyn hy
  generalize hSG : mk (sgn y0) 0 = SG at *
  have HSG : Hid (mk (sgn y0) 0 = SG) := hSG
  clear hSG
  have hg := Grown.refl w
  go_enter Try.func8, Try.ntmps8
  go_wp2_with fail
  refine (cl _).mono ?_
  rintro e w1 ⟨rfl, rfl⟩
  go_wp2_with fail
  go_loopw [3, 5, 6] (fun y sb i wr => ∃ (Y n : Nat) (b : Bool), y = .int .u64 Y ∧ sb = .bool b ∧ i = .int .i64 n ∧ Grown w1 wr ∧ Hid (Inv y0 Y n b)) (fun _ _ i _ => 2200 - (intOf i).toNat)
  case atStart => exact ⟨y0, 0, false, rfl, rfl, rfl, hg, HI⟩
  case round =>
    clear hg
    obtain ⟨Y, n, b, rfl, rfl, rfl, hg, hinv⟩ := hrel
    rcases hinv.out with ⟨rfl, rfl, hr⟩ | ⟨r, k, hY, hr, hk, hkn, hb⟩
    · clear hinv HI
      have hz : opF 3 Y 4602678819172646912 = Y ∧ ((kindF Y == 1) = true ∨ (kindF Y == 1) = false ∧ (kindF Y == 2) = true) := by
        cases hn : isNan Y
        · have hri : rung Y = inf := by have := rung_inf hn; omega
          refine ⟨mul_half_inf HY.out hri, Or.inr ⟨?_, ?_⟩⟩
          · rw [beq_eq_false_iff_ne]; intro e; rw [kind_nan, hn] at e; cases e
          · rw [beq_iff_eq, kind_is_inf]; exact hri
        · refine ⟨?_, Or.inl ?_⟩
          · rw [op_none Y _ (by decide) (Or.inl hn)]; exact (HN.out hn).symm
          · rw [beq_iff_eq, kind_nan]; exact hn
      obtain ⟨hz, hkk⟩ := hz
      have co := @op_half_mul w1 Y Y HY.out hz
      have ck := kind_w Y HY.out
      clear hz hr HN HY HSG
      rcases hkk with k1 | ⟨k1, k2⟩
      all_goals
        go_wp2_with fail
        refine (co _ hg).mono ?_
        clear hg
        rintro e w2 ⟨rfl, hg⟩
        go_wp2_with fail
        refine (ck _).mono ?_
        rintro e w3 ⟨rfl, rfl⟩
        go_wp2_with fail
        refine (runs_at _ hg).mono ?_
        clear hg
        rintro e w4 ⟨rfl, hg⟩
        go_wp2_with fail
        go_ret
        exact ⟨rfl, hg⟩
    · clear HI HN hinv
      have hi := inf_lt
      have hr2 : r < 9223372036854775808 := by omega
      have hgm := rung_mk (sgn y0) r hr2
      have hWY : Wd Y := by rw [hY]; exact mk_lt _ _ hr2
      have hkb := kind_bools (x := Y) (by rw [hY, hgm]; exact hr)
      rw [hY, hgm, ← hY] at hkb
      obtain ⟨q1, q2, q3, q4⟩ := hkb
      have ck := kind_w Y hWY
      have hz : opF 3 Y 4602678819172646912 = mk (sgn y0) (halve r) := by rw [hY]; exact mul_half hr
      by_cases h0 : r = 0
      · subst h0
        have hYS : Y = SG := by rw [hY]; exact HSG.out
        have hzz : mk (sgn y0) (halve 0) = Y := by rw [hY]; rfl
        rw [hzz] at hz
        have co := @op_half_mul w1 Y Y hWY hz
        rw [decide_eq_true rfl] at q3
        have hb2 : n = 0 ∨ b = true := by
          rcases hb with h | h | h
          · exact Or.inl h
          · exact Or.inr h
          · exact absurd rfl h
        clear hz hzz hY hr hk hb hr2 hgm hWY q4 HY HSG hi
        subst hYS
        by_cases hn0 : n = 0
        · subst hn0
          clear hb2 hkn
          go_wp2_with fail
          refine (co _ hg).mono ?_
          clear hg
          rintro e w2 ⟨rfl, hg⟩
          go_wp2_with fail
          refine (ck _).mono ?_
          rintro e w3 ⟨rfl, rfl⟩
          go_wp2_with fail
          refine (runs_at _ hg).mono ?_
          clear hg
          rintro e w4 ⟨rfl, hg⟩
          go_wp2_with fail
          go_ret
          exact ⟨rfl, hg⟩
        · have hbt : b = true := by
            rcases hb2 with h | h
            · exact absurd h hn0
            · exact h
          subst hbt
          have hlt : n < 2200 := by omega
          have hnb : ((n : Int) == 0) = false := by rw [beq_eq_false_iff_ne]; omega
          clear hb2 hkn hn0
          go_wp2_with fail
          refine (co _ hg).mono ?_
          clear hg
          rintro e w2 ⟨rfl, hg⟩
          go_wp2_with fail
          refine (ck _).mono ?_
          rintro e w3 ⟨rfl, rfl⟩
          go_wp2_with fail
          refine (runs_at _ hg).mono ?_
          clear hg
          rintro e w4 ⟨rfl, hg⟩
          go_wp2_with fail
          go_ret
          exact ⟨rfl, hg⟩
      · rw [decide_eq_false h0] at q3
        obtain ⟨j, hj, hjb⟩ := bnd_step hk h0
        have hhl := halve_lt h0
        have hwz : Wd (mk (sgn y0) (halve r)) := mk_lt _ _ (by omega)
        have n1 : bits .andNot .u64 ((mk (sgn y0) (halve r) : Nat) : Int) 9223372036854775808 = ((halve r : Nat) : Int) := by
          rw [low63 _ hwz, rung_mk _ _ (by omega)]
        have n2 : bits .andNot .u64 (Y : Int) 9223372036854775808 = (r : Int) := by
          rw [low63 _ hWY, hY, hgm]
        have n3 : bits .and .u64 ((mk (sgn y0) (halve r) : Nat) : Int) 9223372036854775808 = (SG : Int) := by
          rw [and63 _ hwz, sgn_mk _ _ (by omega), HSG.out]
        have hord := order_halve hr h0
        have co := @op_half_mul w1 Y _ hWY hz
        have cw : ∀ w, Calls Try.prog 12 #[.int .u64 (halve r : Nat), .int .u64 (r : Nat)] w fun e w' => e = .returned (.int .i64 (-1)) ∧ w' = w := by
          intro w
          have c := order_any (halve r) r (by omega) (by omega) w
          rw [hord] at c
          exact c
        have hlt : n < 2200 := by omega
        have hnx : ∀ b', (b' = true ∨ halve r ≠ 0) → Hid (Inv y0 (mk (sgn y0) (halve r)) (n + 1) b') := by
          intro b' hb'
          exact Or.inr ⟨halve r, j, rfl, by omega, hjb, by omega, Or.inr hb'⟩
        have HX : Hid (∀ b', (b' = true ∨ halve r ≠ 0) → Hid (Inv y0 (mk (sgn y0) (halve r)) (n + 1) b')) := hnx
        clear hnx hord hz hj hjb hhl hwz HSG HY hgm hi hr2 hk hkn hb
        by_cases hsub : r < 4503599627370496
        · rw [decide_eq_true ⟨h0, hsub⟩] at q4
          replace HX : Hid (Hid (Inv y0 (mk (sgn y0) (halve r)) (n + 1) true)) := HX.out true (Or.inl rfl)
          clear h0 hsub hr hY hWY
          generalize mk (sgn y0) (halve r) = Z at *
          generalize halve r = H at *
          go_wp2_with fail
          refine (co _ hg).mono ?_
          clear hg
          rintro e w2 ⟨rfl, hg⟩
          go_wp2_with fail
          refine (ck _).mono ?_
          rintro e w3 ⟨rfl, rfl⟩
          go_wp2_with fail
          refine (cw _).mono ?_
          rintro e w4 ⟨rfl, rfl⟩
          go_wp2_with fail
          go_roundw
          case rel => exact ⟨Z, n + 1, true, rfl, rfl, by go_num, hg, HX.out⟩
          case measure => simp [intOf]; omega
        · rw [decide_eq_false (fun h => hsub h.2)] at q4
          replace HX : Hid (Hid (Inv y0 (mk (sgn y0) (halve r)) (n + 1) b)) := HX.out b (Or.inr (halve_normal (by omega)))
          clear h0 hsub hr hY hWY
          generalize mk (sgn y0) (halve r) = Z at *
          generalize halve r = H at *
          go_wp2_with fail
          refine (co _ hg).mono ?_
          clear hg
          rintro e w2 ⟨rfl, hg⟩
          go_wp2_with fail
          refine (ck _).mono ?_
          rintro e w3 ⟨rfl, rfl⟩
          go_wp2_with fail
          refine (cw _).mono ?_
          rintro e w4 ⟨rfl, rfl⟩
          go_wp2_with fail
          go_roundw
          case rel => exact ⟨Z, n + 1, b, rfl, rfl, by go_num, hg, HX.out⟩
          case measure => simp [intOf]; omega
end Go.Proofs.Ytednckjhgijekaa
