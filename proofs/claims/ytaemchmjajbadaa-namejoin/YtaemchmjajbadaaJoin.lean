/- Right names with any number of slashes between are split into just these; no conditions but those of rows that came in. -/
import Derived.Test.YtaemchmjajbadaaJoinF
import Derived.Deep.CutBlock
namespace Go.Proofs.Ytaemchmjajbadaa
open Go.RowKit

theorem bl_lit : bl ⟨#[47]⟩ = [47] := rfl

set_option maxHeartbeats 4000000 in
theorem join_law (ao : Option Addr) (len cap lb off : Nat) (Q : Nat → ByteArray) (hao : 0 < len → ao = some ⟨lb, off, none⟩) (go : Option Addr) (glen gcap gb goff : Nat) (G : Nat → Int) (hgo : 0 < glen → go = some ⟨gb, goff, none⟩) (ab : Bool) (w : World)
    (hc : ∀ i, i < len → w.cell? ⟨lb, off + i, none⟩ = some (.string (Q i))) (hg : ∀ i, i < glen → w.cell? ⟨gb, goff + i, none⟩ = some (.int .i64 (G i))) :
    Calls Try.prog 6 #[.slice ao len cap, .slice go glen gcap, .bool ab] w fun r w' => r = .returned (.bool true) ∧ Kept (fun _ => False) w w' := by
  have HC : Hid _ := hc
  have HG : Hid _ := hg
  clear hc hg
  obtain ⟨p0, hp0, hb0⟩ : ∃ p0 : ByteArray, (if ab then (⟨#[47]⟩ : ByteArray) else ⟨#[]⟩) = p0 ∧ Hid (JoinedF ab [] (bl p0) 0) := by
    refine ⟨_, rfl, ?_⟩
    have := joined_start ab
    cases ab <;> exact this
  go_enter Try.func6, Try.ntmps6
  go_upto_if 14 with fail
  go_cut [8] from 14 to 14 (fun v wx => v = .string p0 ∧ wx = w)
  case first =>
    cases ab
    · simp only [Bool.false_eq_true, if_false] at hp0
      subst hp0
      go_wp2
      go_meet
      case rel => exact ⟨rfl, rfl⟩
    · simp only [if_true] at hp0
      subst hp0
      go_wp2
      go_meet
      case rel => exact ⟨rfl, rfl⟩
  case rest =>
    obtain ⟨rfl, hwc⟩ := hcut
    have hwc' := hwc.symm
    subst hwc'
    clear hp0 hwc
    go_upto_block 0 with fail
    go_cut [7, 8] from 9 to 64 (fun v x wx => ∃ (own : List Bs) (c : ByteArray) (i : Nat), x = .string c ∧ Hid (i ≤ 5 ∧ JoinedF ab own (bl c) i ∧ OwnS w v own wx))
    case first =>
      go_wp2_with fail
      go_loopw [7, 8, 9] (fun v x y wr => ∃ (i : Nat) (c : ByteArray) (own : List Bs), x = .string c ∧ y = .int .i64 i ∧ Hid (i ≤ 5 ∧ JoinedF ab own (bl c) i ∧ OwnS w v own wr)) (fun _ _ y _ => 6 - (intOf y).toNat)
      case atStart => exact ⟨0, p0, [], rfl, rfl, Nat.zero_le _, hb0.out, OwnS.nil w⟩
      case round =>
        obtain ⟨i, c, own, rfl, rfl, HJ⟩ := hrel
        by_cases h1 : i < len
        · have t1 : (i : Int) < len := by omega
          by_cases h2 : i < 5
          · have t2 : (i : Int) < 5 := by omega
            have c0 : Hid (wr.cell? ⟨lb, off + i, none⟩ = some (.string (Q i))) := HJ.out.2.2.kept.cell (HC.out i h1) (fun e => e)
            obtain rfl := hao (by omega)
            clear hao
            obtain ⟨q, hq⟩ : ∃ q, Q i = q := ⟨_, rfl⟩
            rw [hq] at c0
            obtain ⟨m, hm, hm1, hm2⟩ : ∃ m : Nat, (if (10 : Int) < q.size then 10 else (q.size : Int)) = m ∧ m ≤ q.size ∧ m ≤ 10 := by
              by_cases h : (10 : Int) < q.size
              · exact ⟨10, by rw [if_pos h]; rfl, by omega, by omega⟩
              · exact ⟨q.size, by rw [if_neg h], by omega, by omega⟩
            obtain ⟨t, ht⟩ : ∃ t, q.extract 0 m = t := ⟨_, rfl⟩
            have hts : t.size ≤ 10 := by rw [← bl_len, ← ht, bl_extract, List.length_take]; omega
            have t3 : (m : Int) ≤ q.size := by omega
            have R := right_w t (by omega)
            have c1 := c0.out
            clear hm1 hm2 hq
            go_wp2_with fail
            go_quiet (fail)
            have HJ2 : Hid (i ≤ 5 ∧ JoinedF ab own (bl c) i ∧ OwnS w u7 own (wr.drewN nq)) := ⟨HJ.out.1, HJ.out.2.1, HJ.out.2.2.still (kept_drewN _ nq)⟩
            clear HJ c0 c1 hm t3 ht
            generalize wr.drewN nq = wd at *
            go_wp2_with fail
            refine (R _).mono ?_
            rintro r w2 ⟨rfl, hw⟩
            have hw' := hw.symm
            subst hw'
            cases hr : rightF (bl t) with
            | false =>
              go_wp2
              go_roundw
              case rel => exact ⟨i + 1, c, own, rfl, by go_num, by omega, joined_past HJ2.out.2.1, HJ2.out.2.2⟩
              case measure => simp [intOf]; omega
            | true =>
              have HR : Hid (rightF (bl t) = true) := hr
              clear hr
              obtain ⟨ao7, cap7, rfl⟩ := HJ2.out.2.2.form
              clear R hw
              have hcs : c.size ≤ 61 := by
                have h1 := HJ2.out.2.1.2.2.1
                rw [bl_len] at h1
                omega
              go_upto_if 41 with fail
              go_cut [8] from 39 to 43 (fun v wx => wx = wd ∧ ∃ c2 : ByteArray, v = .string c2 ∧ Hid (bl c2 = bl c ++ gapF own))
              case first =>
                by_cases ho : own.length = 0
                · have t4 : ¬ (0 : Int) < own.length := by omega
                  have HN : Hid (bl c = bl c ++ gapF own) := by
                    show _ = _
                    rw [gapF, if_pos (List.eq_nil_of_length_eq_zero ho), List.append_nil]
                  clear ho
                  go_wp2
                  go_meet
                  case rel => exact ⟨rfl, c, rfl, HN.out⟩
                · have t4 : (0 : Int) < own.length := by omega
                  have HN : Hid (bl (c ++ ⟨#[47]⟩) = bl c ++ gapF own) := by
                    show _ = _
                    rw [gapF, if_neg (by rintro rfl; exact ho rfl), bl_app]; rfl
                  clear ho
                  go_wp2
                  go_meet
                  case rel => exact ⟨rfl, _, rfl, HN.out⟩
              case rest =>
                obtain ⟨hwc, c2, rfl, HC2⟩ := hcut
                have hwc' := hwc.symm
                subst hwc'
                clear hwc
                have hc2 : c2.size ≤ 62 := by
                  have h1 := congrArg List.length HC2.out
                  have h2 : (gapF own).length ≤ 1 := by unfold gapF; split <;> simp
                  rw [List.length_append, bl_len, bl_len] at h1
                  omega
                have hc3 : (c2 ++ t).size ≤ 72 := by
                  rw [← bl_len, bl_app, List.length_append, bl_len, bl_len]
                  omega
                have HO2 : Hid (OwnS w (.slice ao7 own.length cap7) own (wd.alloc (.cells #[.string t] 9))) := HJ2.out.2.2.alloc _
                have HS : Hid (SrcS (.slice (some ⟨wd.heap.size, 0, none⟩) 1 1) [bl t] (wd.alloc (.cells #[.string t] 9))) := SrcS.row (l := [bl t]) (alloc_at _ _) (by simp [strs, bs_bl]) 1
                have hol : Hid (own.length ≤ 5) := by
                  have h1 := HJ2.out.2.1.2.2.2.1
                  have h2 := HJ2.out.1
                  show _ ≤ _
                  omega
                have HT : Hid (∀ z : Bs, (z = [] ∨ z = [47]) → ∀ y, y = bl c ++ gapF own ++ bl t ++ z → JoinedF ab (own ++ [bl t]) y (i + 1)) := by
                  rintro z hz y rfl
                  exact joined_step HJ2.out.2.1 HR.out (by rw [bl_len]; omega) hz
                clear HJ2 HR
                by_cases h3 : i < glen
                · have t5 : (i : Int) < glen := by omega
                  obtain rfl := hgo (by omega)
                  clear hgo
                  obtain ⟨g, hgi⟩ : ∃ g, G i = g := ⟨_, rfl⟩
                  have HG2 : Hid (∀ h : i < glen, w.cell? ⟨gb, goff + i, none⟩ = some (.int .i64 g)) := fun h => by rw [← hgi]; exact HG.out i h
                  clear hgi HG
                  cases e3 : (g.tmod 3 == 0) with
                  | true =>
                    go_wp2_with (at_builtin; refine list_app rfl _ _ rfl w own [bl t] HO2.out HS.out (by have := hol.out; simp; omega) ?_; intro v w4 h4 _; have c4 := h4.kept.cell (HG2.out h3) (fun e => e))
                    go_wp2
                    go_roundw
                    case rel => exact ⟨i + 1, _, own ++ [bl t], rfl, by go_num, by omega, HT.out [47] (.inr rfl) _ (by simp [bl_app, HC2.out, bl_lit]), h4⟩
                    case measure => simp [intOf]; omega
                  | false =>
                    go_wp2_with (at_builtin; refine list_app rfl _ _ rfl w own [bl t] HO2.out HS.out (by have := hol.out; simp; omega) ?_; intro v w4 h4 _; have c4 := h4.kept.cell (HG2.out h3) (fun e => e))
                    go_wp2
                    go_roundw
                    case rel => exact ⟨i + 1, _, own ++ [bl t], rfl, by go_num, by omega, HT.out [] (.inl rfl) _ (by simp [bl_app, HC2.out]), h4⟩
                    case measure => simp [intOf]; omega
                · have t5 : ¬ (i : Int) < glen := by omega
                  go_wp2_with (at_builtin; refine list_app rfl _ _ rfl w own [bl t] HO2.out HS.out (by have := hol.out; simp; omega) ?_; intro v w4 h4 _)
                  go_wp2
                  go_roundw
                  case rel => exact ⟨i + 1, _, own ++ [bl t], rfl, by go_num, by omega, HT.out [] (.inl rfl) _ (by simp [bl_app, HC2.out]), h4⟩
                  case measure => simp [intOf]; omega
          · have t2 : ¬ (i : Int) < 5 := by omega
            go_wp2
            go_meet
            case rel => exact ⟨own, c, i, rfl, HJ.out⟩
        · have t1 : ¬ (i : Int) < len := by omega
          go_wp2
          go_meet
          case rel => exact ⟨own, c, i, rfl, HJ.out⟩
    case rest =>
      obtain ⟨own, c, i, rfl, HJ⟩ := hcut
      obtain ⟨ao7, cap7, rfl⟩ := HJ.out.2.2.form
      have hcl : c.size ≤ 61 := by
        have h1 := HJ.out.2.1.2.2.1
        have h2 := HJ.out.1
        rw [bl_len] at h1
        omega
      have S1 := split_w c (by omega)
      obtain ⟨e1, e2, e3⟩ := joined_end HJ.out.2.1
      rw [bl_len] at e2 e3
      by_cases hp : bl c = []
      · have q2 : c.toList.isEmpty = true := by rw [toList_bl, hp]; rfl
        rw [e1 hp] at S1
        clear e1 e2 e3 hp
        go_wp2_with fail
        refine (S1 _).mono ?_
        rintro r w2 ⟨v, rfl, O⟩
        have HK : Hid (Kept (fun _ => False) w w2) := HJ.out.2.2.kept.thru O.kept
        clear O S1
        go_wp2_with fail
        refine (runs_w _).mono ?_
        rintro r w3 ⟨rfl, k3⟩
        go_wp2
        go_ret
        exact ⟨rfl, HK.out.thru k3⟩
      have q2 : c.toList.isEmpty = false := by rw [toList_bl]; cases h : bl c with | nil => exact absurd h hp | cons x l => rfl
      by_cases hl : 60 < c.size
      · have t1 : (60 : Int) < c.size := by omega
        rw [(e2 hl).1, (e2 hl).2] at S1
        clear e1 e2 e3 hp
        go_wp2_with fail
        refine (S1 _).mono ?_
        rintro r w2 ⟨v, rfl, O⟩
        obtain ⟨ao2, cv, rfl⟩ := O.form
        have HK : Hid (Kept (fun _ => False) w w2) := HJ.out.2.2.kept.thru O.kept
        clear O S1
        go_wp2_with fail
        refine (runs_w _).mono ?_
        rintro r w3 ⟨rfl, k3⟩
        go_wp2
        go_ret
        exact ⟨rfl, HK.out.thru k3⟩
      · have t1 : ¬ (60 : Int) < c.size := by omega
        obtain ⟨f1, f2, f3⟩ := e3 hp (by omega)
        rw [f1, f2, f3] at S1
        clear e1 e2 e3 hp f1 f2 f3
        go_wp2_with fail
        refine (S1 _).mono ?_
        rintro r w2 ⟨v, rfl, O⟩
        have X1 := O.src
        have X2 := HJ.out.2.2.src.still O.kept
        have HK : Hid (Kept (fun _ => False) w w2) := HJ.out.2.2.kept.thru O.kept
        have hol : own.length ≤ 5 := by have h1 := HJ.out.2.1.2.2.2.1; have h2 := HJ.out.1; omega
        clear O S1
        go_wp2_with fail
        refine (same_w _ _ own own (by omega) (by omega) _ X1 X2).mono ?_
        rintro r w3 ⟨rfl, k3⟩
        rw [show decide (own = own) = true from decide_eq_true rfl]
        go_wp2_with fail
        refine (runs_w _).mono ?_
        rintro r w4 ⟨rfl, k4⟩
        go_wp2
        go_ret
        exact ⟨rfl, (HK.out.thru k3).thru k4⟩
end Go.Proofs.Ytaemchmjajbadaa
