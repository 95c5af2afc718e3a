
/- A pipe is there as long as it has an end; as many as there are, each once, and had again; no conditions. -/
import Derived.Test.YtdjdnjngelahjaaPpV
import Derived.Test.YtdjdnjngelahjaaOpenArgs
import Derived.Deep.CutBlock
namespace Go.Proofs.Ytdjdnjngelahjaa
open Go.RowKit
set_option maxRecDepth 100000
set_option linter.unusedSimpArgs false

set_option maxHeartbeats 4000000 in
theorem ends_law (a0 a1 : Int) (bo : Option Addr) (ln cp mb of : Nat) (L : Nat → Bool) (hbo : 0 < ln → bo = some ⟨mb, of, none⟩) (w : World)
    (hd : ∀ i, i < ln → w.cell? ⟨mb, of + i, none⟩ = some (.bool (L i))) :
    Calls Try.prog 6 #[.int .i64 a0, .int .i64 a1, .slice bo ln cp] w fun e w' => e = .returned (.bool true) ∧ Kept (fun _ => False) w w' := by
  have HD : Hid (∀ i, i < ln → w.cell? ⟨mb, of + i, none⟩ = some (.bool (L i))) := hd
  clear hd
  go_enter Try.func6, Try.ntmps6
  go_wp2_with fail
  refine (side_new w).mono ?_
  rintro e w1 ⟨T, p, B, q, N, rfl, h1, hT⟩
  have H0 : Hid (SideIn w T p B q N (pT 0) w1) := h1
  clear h1
  go_wp2_with fail
  go_loopw [8, 9, 10] (fun v _ _ wr => ∃ k : Nat, v = .int .i64 k ∧ k ≤ 4 ∧ Hid (SideIn w T p B q N (pT k) wr)) (fun v _ _ _ => 4 - (intOf v).toNat)
  case atStart => exact ⟨0, rfl, by omega, H0.out⟩
  case round =>
    clear H0
    obtain ⟨k, rfl, hk, HH⟩ := hrel
    by_cases hlt : k < 4
    · have t1 : (k : Int) < 4 := by omega
      have x1 := HH.out.t
      go_wp2_with fail
      refine (side_pal HH.out).mono ?_
      rintro e w3 ⟨rfl, h3, -⟩
      rw [pT_at hlt]
      have HN : Hid (SideIn w T p B q N (pT (k + 1)) w3) := h3
      clear x1 h3 HH
      go_wp2
      go_roundw
      case rel => exact ⟨k + 1, by go_num, by omega, HN.out⟩
      case measure => simp [intOf]; omega
    · obtain rfl : k = 4 := by omega
      as_aux_lemma =>
      have x1 := HH.out.t
      go_wp2_with fail
      refine (side_pal HH.out).mono ?_
      rintro e w3 ⟨rfl, h3, -⟩
      rw [pT_full]
      have hF : HadF (palT f0 (pT 4)) 1 1 := had_new
      generalize palT f0 (pT 4) = g at *
      clear x1 HH
      obtain ⟨r9, hr⟩ : ∃ r9 : Int, (0 : Int) + a0 % (3 - 0 + 1) = r9 := ⟨_, rfl⟩
      obtain ⟨v9, hv⟩ : ∃ v9 : Int, (0 : Int) + a1 % (3 - 0 + 1) = v9 := ⟨_, rfl⟩
      have hr1 : 0 ≤ r9 ∧ r9 ≤ 3 := by omega
      have hv1 : 0 ≤ v9 ∧ v9 ≤ 3 := by omega
      go_wp2_with fail
      refine (within_any a0 0 3 (by omega) (by omega) (by omega) _).mono ?_
      rintro e w4 ⟨rfl, hw4⟩
      subst hw4
      rw [hr]
      go_wp2_with fail
      refine (within_any a1 0 3 (by omega) (by omega) (by omega) _).mono ?_
      rintro e w5 ⟨rfl, hw5⟩
      subst hw5
      rw [hv]
      clear hr hv
      have x3 := h3.t
      have er : (1 : Int) + r9 - 1 = r9 := by omega
      have ev : (1 : Int) + v9 - 1 = v9 := by omega
      go_wp2_with fail
      refine (side_pend h3 2 false r9).mono ?_
      rintro e w6 ⟨rfl, h6, -⟩
      rw [hF.is]
      have hF6 := hF.endR (b := r9) (by omega) (by omega)
      have x6 := h6.t
      generalize endT f0 g 2 false r9 = g6 at *
      clear hF h3 x3
      go_wp2_with fail
      refine (side_pend h6 2 true v9).mono ?_
      rintro e w7 ⟨rfl, h7, -⟩
      rw [hF6.is]
      have hF7 := hF6.endW (b := v9) (by omega) (by omega)
      generalize endT f0 g6 2 true v9 = g7 at *
      clear hF6 h6 x6
      have H0 : Hid (SideIn w T p B q N g7 w7 ∧ LeftF g7 (1 + r9) (1 + v9)) := ⟨h7, fun _ => hF7, fun c => by omega⟩
      clear h7 hF7
      go_wp2_with fail
      go_loopw [13, 14, 15, 16, 17, 18, 19] (fun vr vw vi _ _ _ _ wr => ∃ (r v : Int) (i : Nat) (g : VwF), vr = .int .i64 r ∧ vw = .int .i64 v ∧ vi = .int .i64 i ∧ 0 ≤ r ∧ r ≤ 4 ∧ 0 ≤ v ∧ v ≤ 4 ∧ (i : Int) + r + v ≤ 8 ∧ Hid (SideIn w T p B q N g wr ∧ LeftF g r v)) (fun vr vw _ _ _ _ _ _ => (intOf vr + intOf vw).toNat)
      case atStart => exact ⟨_, _, 0, _, rfl, rfl, rfl, by omega, by omega, by omega, by omega, by omega, H0.out⟩
      case round =>
        clear H0
        clear hr1 hv1 er ev
        obtain ⟨r, v, i, g, rfl, rfl, rfl, hr0, hr4, hv0, hv4, hi8, HH⟩ := hrel
        by_cases hpos : 0 < r + v
        ·
          as_aux_lemma =>
          have hF := HH.out.2.1 hpos
          have h1 := HH.out.1
          have x1 := h1.t
          clear HH
          go_wp2_with fail
          refine (side_pis h1 2).mono ?_
          rintro e w1 ⟨rfl, h2, -⟩
          rw [hF.is]
          have hF2 := hF.isT 2
          have x2 := h2.t
          generalize isPT g 2 = g2 at *
          clear hF h1 x1
          go_wp2_with fail
          refine (side_pwr h2 2 ⟨#[]⟩).mono ?_
          rintro e w3 ⟨rfl, h3, -⟩
          obtain ⟨wa, hwa⟩ : ∃ x, pwrA f0 g2 2 ⟨#[]⟩ = x := ⟨_, rfl⟩
          obtain ⟨wk, hwk⟩ : ∃ x, pwrK f0 g2 2 ⟨#[]⟩ = x := ⟨_, rfl⟩
          have hww := hF2.wrA hr0
          rw [hwa, hwk] at hww
          rw [hwa, hwk, show pwrV wa wk = .tuple #[.int .i64 wa, .int .i64 wk] from rfl]
          have hwc : (r = 0 ∧ wa = -1 ∧ wk = 1) ∨ (r ≠ 0 ∧ wa = 0 ∧ wk = 0) := by
            by_cases c : r = 0
            · left; exact ⟨c, by rw [hww.1, if_pos c], by rw [hww.2, if_pos c]⟩
            · right; exact ⟨c, by rw [hww.1, if_neg c], by rw [hww.2, if_neg c]⟩
          have hF3 := hF2.wr
          have x3 := h3.t
          clear hww hwa hwk hF2 h2 x2
          generalize pwrT f0 g2 2 ⟨#[]⟩ = g3 at *
          go_upto_region 22 with fail
          go_cut [108] from 97 to 108 (fun x wx => x = .bool false ∧ wx = w3)
          case first =>
            rcases hwc with ⟨c, rfl, rfl⟩ | ⟨c, rfl, rfl⟩
            · have hc : (r == 0) = true := by simp [c]
              clear c
              go_wp2
              go_meet
              case rel => exact ⟨rfl, rfl⟩
            · have hc : (r == 0) = false := by simp [c]
              clear c
              go_wp2
              go_meet
              case rel => exact ⟨rfl, rfl⟩
          case rest =>
            obtain ⟨rfl, hwx⟩ := hcut
            subst hwx
            clear hwc
            go_wp2_with fail
            refine (side_prd h3 2 1).mono ?_
            rintro e w4 ⟨rfl, h4, -⟩
            obtain ⟨rk, hrk⟩ : ∃ x, prdK f0 g3 2 1 = x := ⟨_, rfl⟩
            have hrr := hF3.rdK
            rw [hrk] at hrr
            rw [hrr.1, hrk, show prdV ByteArray.empty rk = .tuple #[.string ⟨#[]⟩, .int .i64 rk] from rfl]
            have hrc : (v ≤ 0 ∧ rk = 0) ∨ (0 < v ∧ rk = 2) := by
              by_cases c : v ≤ 0
              · left; exact ⟨c, by rw [hrr.2, if_pos c]⟩
              · right; exact ⟨by omega, by rw [hrr.2, if_neg c]⟩
            have hF4 := hF3.rd
            have x4 := h4.t
            clear hrr hrk hF3 h3 x3
            generalize prdT f0 g3 2 1 = g4 at *
            go_upto_region 25 with fail
            go_cut [121] from 117 to 121 (fun x wx => x = .bool false ∧ wx = w4)
            case first =>
              rcases hrc with ⟨c, rfl⟩ | ⟨c, rfl⟩
              · have hd : decide (0 < v) = false := decide_eq_false (by omega)
                clear c
                go_wp2
                go_meet
                case rel => exact ⟨by first | rfl | rw [hd], rfl⟩
              · have hd : decide (0 < v) = true := decide_eq_true c
                clear c
                go_wp2
                go_meet
                case rel => exact ⟨by first | rfl | rw [hd], rfl⟩
            case rest =>
              obtain ⟨rfl, hwx⟩ := hcut
              subst hwx
              clear hrc
              go_upto_region 27 with fail
              go_cut [139] from 122 to 139 (fun x wx => ∃ z : Bool, x = .bool z ∧ wx = wc ∧ (z = true → 0 < r) ∧ (z = false → 0 < v))
              case first =>
                as_aux_lemma =>
                have hk4 := h4.kept
                by_cases c1 : v = 0
                · have hr : 0 < r := by omega
                  have HZ : Hid (0 < r) := hr
                  have hc : (v == 0) = true := by simp [c1]
                  clear c1 hr hpos
                  go_wp2
                  go_meet
                  case rel => exact ⟨true, rfl, rfl, (fun _ => HZ.out), (fun e => absurd e (by simp))⟩
                · have hc : (v == 0) = false := by simp [c1]
                  have hv : 0 < v := by omega
                  by_cases c2 : 0 < r
                  · by_cases c3 : i < ln
                    · have h0 := hbo (by omega)
                      subst h0
                      have e0 := hk4.cell (HD.out i c3) (fun x => x)
                      have c4 : (i : Int) < (ln : Int) := by omega
                      have i0 : (0 : Int) ≤ (i : Int) := by omega
                      cases hL : L i with
                      | true =>
                        rw [hL] at e0
                        have HZ : Hid (0 < r) := c2
                        clear c1 hL hpos
                        go_wp2
                        go_meet
                        case rel => exact ⟨true, rfl, rfl, (fun _ => HZ.out), (fun e => absurd e (by simp))⟩
                      | false =>
                        rw [hL] at e0
                        have HZ : Hid (0 < v) := hv
                        clear c1 hL hpos
                        go_wp2
                        go_meet
                        case rel => exact ⟨false, rfl, rfl, (fun e => absurd e (by simp)), (fun _ => HZ.out)⟩
                    · have c4 : ¬ (i : Int) < (ln : Int) := by omega
                      have HZ : Hid (0 < v) := hv
                      clear c1 hpos
                      go_wp2
                      go_meet
                      case rel => exact ⟨false, rfl, rfl, (fun e => absurd e (by simp)), (fun _ => HZ.out)⟩
                  · have HZ : Hid (0 < v) := hv
                    clear c1 hpos
                    go_wp2
                    go_meet
                    case rel => exact ⟨false, rfl, rfl, (fun e => absurd e (by simp)), (fun _ => HZ.out)⟩
              case rest =>
                obtain ⟨z, rfl, hwx, hz1, hz2⟩ := hcut
                subst hwx
                as_aux_lemma =>
                cases z with
                | true =>
                  have hr' := hz1 rfl
                  clear hz1 hz2
                  go_wp2_with fail
                  refine (side_pend h4 2 false (-1)).mono ?_
                  rintro e w5 ⟨rfl, h5, -⟩
                  rw [hF4.is]
                  have HN : Hid (SideIn w T p B q N (endT f0 g4 2 false (-1)) w5 ∧ LeftF (endT f0 g4 2 false (-1)) (r - 1) v) := ⟨h5, hF4.lessR hr' hr4 hv0⟩
                  clear h4 x4 h5 hF4
                  go_wp2
                  go_roundw
                  case rel => exact ⟨r - 1, v, i + 1, _, rfl, rfl, by go_num, by omega, by omega, by omega, by omega, by omega, HN.out⟩
                  case measure => simp [intOf]; omega
                | false =>
                  have hv' := hz2 rfl
                  clear hz1 hz2
                  go_wp2_with fail
                  refine (side_pend h4 2 true (-1)).mono ?_
                  rintro e w5 ⟨rfl, h5, -⟩
                  rw [hF4.is]
                  have HN : Hid (SideIn w T p B q N (endT f0 g4 2 true (-1)) w5 ∧ LeftF (endT f0 g4 2 true (-1)) r (v - 1)) := ⟨h5, hF4.lessW hr0 hv' hv4⟩
                  clear h4 x4 h5 hF4
                  go_wp2
                  go_roundw
                  case rel => exact ⟨r, v - 1, i + 1, _, rfl, rfl, by go_num, by omega, by omega, by omega, by omega, by omega, HN.out⟩
                  case measure => simp [intOf]; omega
        ·
          as_aux_lemma =>
          have hG := HH.out.2.2 (by omega)
          have h1 := HH.out.1
          have x1 := h1.t
          clear HH
          go_wp2_with fail
          refine (side_pis h1 2).mono ?_
          rintro e w1 ⟨rfl, h2, -⟩
          rw [hG.is]
          have hG2 := hG.isT 2
          have x2 := h2.t
          generalize isPT g 2 = g2 at *
          clear hG h1 x1
          go_wp2_with fail
          refine (side_pend h2 2 true 1).mono ?_
          rintro e w3 ⟨rfl, h3, -⟩
          rw [hG2.is]
          have hG3 := hG2.ends true 1
          have x3 := h3.t
          generalize endT f0 g2 2 true 1 = g3 at *
          clear hG2 h2 x2
          go_wp2_with fail
          refine (side_pis h3 1).mono ?_
          rintro e w4 ⟨rfl, h4, -⟩
          rw [hG3.one]
          have hG4 := hG3.isT 1
          have x4 := h4.t
          generalize isPT g3 1 = g4 at *
          clear hG3 h3 x3
          go_wp2_with fail
          refine (side_pal h4).mono ?_
          rintro e w5 ⟨rfl, h5, -⟩
          rw [hG4.free]
          have HK : Hid (Kept (fun _ => False) w w5) := h5.kept
          clear hG4 h4 x4 h5
          go_wp2_with fail
          refine (runs_w w5).mono ?_
          rintro e w6 ⟨rfl, hk6⟩
          have HK : Hid (Kept (fun _ => False) w w6) := HK.out.thru hk6
          clear hk6
          go_wp2_with fail
          go_ret
          exact ⟨rfl, HK.out⟩
end Go.Proofs.Ytdjdnjngelahjaa
