
/- Two files of one inode have an offset each; holders share it; what one writes the other reads; with the last holder all goes; no conditions. -/
import Derived.Test.YtdgkhfhlbjpaoaaFiQ
import Derived.Test.YtdgkhfhlbjpaoaaOpenArgs
import Derived.Deep.CutBlock
import Derived.BigQuiet
namespace Go.Proofs.Ytdgkhfhlbjpaoaa
open Go.RowKit
set_option maxRecDepth 100000
set_option linter.unusedSimpArgs false

set_option maxHeartbeats 4000000 in
theorem shares_law (ao : Option Addr) (len cap lb off : Nat) (Q : Nat → QA) (hao : 0 < len → ao = some ⟨lb, off, none⟩) (dups : Int) (w : World) (hc : ∀ i, i < len → QAt w lb (off + i * 5) (Q i)) :
    Calls Try.prog 4 #[.slice ao len cap, .int .i64 dups] w fun e w' => e = .returned (.bool true) ∧ Kept (fun _ => False) w w' := by
  have HC : Hid (∀ i, i < len → QAt w lb (off + i * 5) (Q i)) := hc
  clear hc
  go_enter Try.func4, Try.ntmps4
  go_wp2_with fail
  refine (side_new w).mono ?_
  rintro e w1 ⟨T, p, B, q, N, rfl, h1, hT⟩
  clear hT
  have c1 := h1.t
  go_wp2_with fail
  refine (side_alloc h1 2).mono ?_
  rintro e w2 ⟨rfl, h2, -⟩
  rw [ra1, show allocV 1 = .tuple #[.int .i64 1, .bool true] from rfl]
  change SideIn _ _ _ _ _ _ s1 _ at h2
  clear h1 c1
  go_wp2_with fail
  refine (side_change h2 1 0 2).mono ?_
  rintro e w3 ⟨rfl, h3, -⟩
  rw [sh0.1]
  change SideIn _ _ _ _ _ _ s2 _ at h3
  clear h2
  go_wp2_with fail
  refine (side_opn h3 1 1 3).mono ?_
  rintro e w4 ⟨rfl, h4, -⟩
  rw [sh0.2.1, show opnV 0 = .tuple #[.int .i64 0, .bool true] from rfl]
  change SideIn _ _ _ _ _ _ s3 _ at h4
  clear h3
  go_wp2_with fail
  refine (side_opn h4 1 1 1).mono ?_
  rintro e w5 ⟨rfl, h5, -⟩
  rw [sh0.2.2.1, show opnV 1 = .tuple #[.int .i64 1, .bool true] from rfl]
  change SideIn _ _ _ _ _ _ s4 _ at h5
  clear h4
  go_wp2_with fail
  refine (within_any dups 0 4 (by omega) (by omega) (by omega) w5).mono ?_
  rintro e w6 ⟨rfl, hw⟩
  subst hw
  obtain ⟨n, hn1⟩ : ∃ n : Nat, (n : Int) = 0 + dups % (4 - 0 + 1) ∧ n ≤ 4 := ⟨(0 + dups % (4 - 0 + 1)).toNat, by omega, by omega⟩
  obtain ⟨hn1, hn2⟩ := hn1
  rw [← hn1]
  clear hn1
  have H0 : Hid (∃ g, SideIn w T p B q N g w6 ∧ ShF ((0 : Nat) + 1) ByteArray.empty 0 0 g) := ⟨_, h5, sh0.2.2.2⟩
  clear h5
  go_wp2_with fail
  go_loopw [14] (fun v wr => ∃ k : Nat, v = .int .i64 k ∧ k ≤ n ∧ Hid (∃ g, SideIn w T p B q N g wr ∧ ShF ((k : Nat) + 1) ByteArray.empty 0 0 g)) (fun v _ => n - (intOf v).toNat)
  case atStart => exact ⟨0, rfl, by omega, H0.out⟩
  case round =>
    clear H0
    obtain ⟨k, rfl, hk, HH⟩ := hrel
    obtain ⟨g, hS, hM⟩ := HH.out
    clear HH
    by_cases hlt : k < n
    · skip
      as_aux_lemma =>
      have t1 : (k : Int) < (n : Int) := by omega
      go_wp2_with fail
      refine (side_dup hS 0).mono ?_
      rintro e w4 ⟨rfl, h4, -⟩
      have HN : Hid (∃ g, SideIn w T p B q N g w4 ∧ ShF ((k + 1 : Nat) + 1) ByteArray.empty 0 0 g) := ⟨_, h4, by
        have := hM.dup (by omega) (by omega)
        rw [Int.natCast_add]; exact this⟩
      clear h4 hS hM
      go_wp2
      exact ⟨⟨k + 1, by go_num, by omega, HN⟩, by simp [intOf]; omega⟩
    · skip
      as_aux_lemma =>
      obtain rfl : k = n := by omega
      have H0 : Hid (∃ g, SideIn w T p B q N g wr ∧ ShF ((k : Nat) + 1) ByteArray.empty 0 0 g) := ⟨g, hS, hM⟩
      clear hS hM hlt hk
      go_wp2_with fail
      go_loopw [15, 16, 17, 18] (fun vo va vb vr wr => ∃ (o : ByteArray) (a b r : Nat), vo = .string o ∧ va = .int .i64 a ∧ vb = .int .i64 b ∧ vr = .int .i64 r ∧ r ≤ len ∧ r ≤ 20 ∧ Hid (∃ g, SideIn w T p B q N g wr ∧ ShF ((k : Nat) + 1) o a b g)) (fun _ _ _ v _ => 20 - (intOf v).toNat)
      case atStart => exact ⟨⟨#[]⟩, 0, 0, 0, rfl, rfl, rfl, rfl, by omega, by omega, H0.out⟩
      case round =>
        clear H0
        obtain ⟨o, a, b, r, rfl, rfl, rfl, rfl, hr1, hr2, HH⟩ := hrel
        obtain ⟨z, hz⟩ : ∃ z : Bool, decide ((r : Int) < (len : Int) ∧ (r : Int) < 20) = z := ⟨_, rfl⟩
        go_upto_region 19 with fail
        go_cut [90] from 83 to 90 (fun v wx => v = .bool z ∧ wx = wr)
        case first =>
          as_aux_lemma =>
          by_cases p1 : (r : Int) < (len : Int)
          · by_cases p2 : (r : Int) < 20
            · have hz' : z = true := by rw [← hz]; simp [p1, p2]
              subst hz'
              clear hz
              go_wp2
              go_meet
              case rel => exact ⟨rfl, rfl⟩
            · have hz' : z = false := by rw [← hz]; simp [p1, p2]
              subst hz'
              clear hz
              go_wp2
              go_meet
              case rel => exact ⟨rfl, rfl⟩
          · have hz' : z = false := by rw [← hz]; simp [p1]
            subst hz'
            clear hz
            go_wp2
            go_meet
            case rel => exact ⟨rfl, rfl⟩
        case rest =>
          obtain ⟨rfl, hwc⟩ := hcut
          subst hwc
          cases z with
          | true =>
            as_aux_lemma =>
            simp only [decide_eq_true_eq] at hz
            obtain ⟨t1, t2⟩ := hz
            have hl1 : r < len := by omega
            have h0 := hao (by omega)
            subst h0
            obtain ⟨g, hS, hM⟩ := HH.out
            obtain ⟨⟨qk, qf, qa, qb, qc⟩, hqe⟩ : ∃ y, Q r = y := ⟨_, rfl⟩
            have hq0 := HC.out r hl1
            rw [hqe] at hq0
            obtain ⟨e0, -, e2, -, -⟩ := hq0.still hS.kept
            have HQ : Hid (QAt w lb (off + r * 5) ⟨qk, qf, qa, qb, qc⟩) := hq0
            simp only at e0 e2
            clear hqe hq0 hao HH
            go_wp2_with fail
            refine (within_any qa 1 20 (by omega) (by omega) (by omega) wc).mono ?_
            rintro e w6 ⟨rfl, hw⟩
            subst hw
            obtain ⟨m, hm1⟩ : ∃ m : Nat, (m : Int) = 1 + qa % (20 - 1 + 1) ∧ 1 ≤ m ∧ m ≤ 20 := ⟨(1 + qa % (20 - 1 + 1)).toNat, by omega, by omega, by omega⟩
            obtain ⟨hm1, hm2, hm3⟩ := hm1
            rw [← hm1]
            clear hm1 e2
            by_cases k5 : qk = 5
            · have b5 : (qk == 5) = true := by simpa using k5
              subst k5
              as_aux_lemma =>
              go_wp2_with fail
              refine (text_w r m (by omega) (by omega) w6).mono ?_
              rintro e w7 ⟨d, rfl, hd, k7⟩
              have hd' : d.size = m := by omega
              replace hS := hS.still k7
              clear k7 hd e0
              obtain ⟨x, hx⟩ : ∃ x : Nat, x = min (128 - a) m := ⟨_, rfl⟩
              have ha := hM.ha
              have ho := hM.ho
              have hmin : (if (128 : Int) - (a : Int) < (m : Int) then (128 : Int) - (a : Int) else (m : Int)) = (x : Int) := by split <;> omega
              by_cases x0 : x = 0
              · obtain ⟨hR, hM2⟩ := hM.write_no (d := d) (by omega) (by omega)
                go_wp2_with fail
                refine (side_fwr hS 0 d (by omega)).mono ?_
                rintro e w8 ⟨rfl, h8, -⟩
                rw [hR]
                have HN : Hid (∃ g, SideIn w T p B q N g w8 ∧ ShF ((k : Nat) + 1) o a b g) := ⟨_, h8, hM2⟩
                clear h8 hS hM hM2 hR hx
                subst x0
                go_wp2_with fail
                exact ⟨⟨o, a, b, r + 1, rfl, rfl, rfl, by go_num, by omega, by omega, HN⟩, by simp [intOf]; omega⟩
              · obtain ⟨hR, hM2⟩ := hM.write_ok (d := d) (k := x) (by omega) (by rw [hd']; exact hx) x0
                go_wp2_with fail
                refine (side_fwr hS 0 d (by omega)).mono ?_
                rintro e w8 ⟨rfl, h8, -⟩
                rw [hR]
                obtain ⟨u, hu⟩ : ∃ u : Nat, u = min o.size (a + x) := ⟨_, rfl⟩
                obtain ⟨s1', hs1⟩ : ∃ t, o.extract 0 a = t := ⟨_, rfl⟩
                obtain ⟨s2', hs2⟩ : ∃ t, d.extract 0 x = t := ⟨_, rfl⟩
                obtain ⟨s3', hs3⟩ : ∃ t, o.extract u o.size = t := ⟨_, rfl⟩
                have hmin2 : (if (a : Int) + (x : Int) < (o.size : Int) then (a : Int) + (x : Int) else (o.size : Int)) = (u : Int) := by split <;> omega
                have HO : Hid (s1' ++ s2' ++ s3' = overF o a (cutD d a)) := by
                  show _ = _
                  rw [← hs1, ← hs2, ← hs3, cutD_ext (d := d) (o := a) (m := x) (by omega)]
                  exact over_ext (by rw [cutD_size]; omega)
                have HN : Hid (∃ g, SideIn w T p B q N g w8 ∧ ShF ((k : Nat) + 1) (s1' ++ s2' ++ s3') (a + x) b g) := ⟨_, h8, by rw [HO.out]; exact hM2⟩
                clear h8 hS hM hM2 hR HO
                have bx : ((x : Int) == 0) = false := by simpa using x0
                have bu : (u : Int) ≤ (o.size : Int) := by omega
                have bx2 : (x : Int) ≤ (d.size : Int) := by omega
                have bz1 : s1'.size ≤ 200 := by rw [← hs1, extract_bs, bs_size]; simp; omega
                have bz2 : s2'.size ≤ 200 := by rw [← hs2, extract_bs, bs_size]; simp; omega
                have bz3 : s3'.size ≤ 200 := by rw [← hs3, extract_bs, bs_size]; simp [bl_len]; omega
                clear hx hu
                go_upto_region 36 with fail
                go_quiet (fail)
                have HN2 : Hid (∃ g, SideIn w T p B q N g (w8.drewN nq) ∧ ShF ((k : Nat) + 1) (s1' ++ s2' ++ s3') (a + x) b g) := by
                  obtain ⟨g, n1, n2⟩ := HN.out
                  exact ⟨g, n1.still (kept_drewN _ _), n2⟩
                clear HN
                go_wp2
                exact ⟨⟨_, a + x, b, r + 1, rfl, by go_num, rfl, by go_num, by omega, by omega, HN2⟩, by simp [intOf]; omega⟩
            have b5 : (qk == 5) = false := by simpa using k5
            by_cases k4 : qk = 4
            · have b4 : (qk == 4) = true := by simpa using k4
              as_aux_lemma =>
              obtain ⟨hR, hM2⟩ := hM.read_b (m := m) (by omega)
              obtain ⟨p1, p2⟩ := part_cut hM.hr hm2
              have hb := hM.hr
              have ho := hM.ho
              go_wp2_with fail
              refine (side_frd hS 1 m).mono ?_
              rintro e w7 ⟨rfl, h7, -⟩
              rw [hR]
              obtain ⟨u, hu⟩ : ∃ u : Nat, u = min o.size (b + m) := ⟨_, rfl⟩
              rw [← hu] at p1
              obtain ⟨s, hs⟩ : ∃ s, partF o b m = s := ⟨_, rfl⟩
              rw [hs] at p1 p2 hM2 ⊢
              have hx : o.extract b u = s := p1.symm
              have HN : Hid (∃ g, SideIn w T p B q N g w7 ∧ ShF ((k : Nat) + 1) o a (b + s.size) g) := ⟨_, h7, hM2⟩
              have hmin1 : (if (o.size : Int) < (b : Int) then (o.size : Int) else (b : Int)) = (b : Int) := by rw [if_neg (by omega)]
              have hmin2 : (if (b : Int) + (m : Int) < (o.size : Int) then (b : Int) + (m : Int) else (o.size : Int)) = (u : Int) := by split <;> omega
              have bu : (u : Int) ≤ (o.size : Int) := by omega
              have bu2 : (b : Int) ≤ (u : Int) := by omega
              have bz : s.size ≤ 200 := by omega
              clear e0 hs p1 p2 hS hM hM2 hR h7 hu
              go_wp2_with fail
              exact ⟨⟨o, a, b + s.size, r + 1, rfl, rfl, by go_num, by go_num, by omega, by omega, HN⟩, by simp [intOf]; omega⟩
            · have b4 : (qk == 4) = false := by simpa using k4
              as_aux_lemma =>
              obtain ⟨hR, hM2⟩ := hM.read_a (m := m) (by omega)
              obtain ⟨p1, p2⟩ := part_cut hM.ha hm2
              have hb := hM.ha
              have ho := hM.ho
              go_wp2_with fail
              refine (side_frd hS 0 m).mono ?_
              rintro e w7 ⟨rfl, h7, -⟩
              rw [hR]
              obtain ⟨u, hu⟩ : ∃ u : Nat, u = min o.size (a + m) := ⟨_, rfl⟩
              rw [← hu] at p1
              obtain ⟨s, hs⟩ : ∃ s, partF o a m = s := ⟨_, rfl⟩
              rw [hs] at p1 p2 hM2 ⊢
              have hx : o.extract a u = s := p1.symm
              have HN : Hid (∃ g, SideIn w T p B q N g w7 ∧ ShF ((k : Nat) + 1) o (a + s.size) b g) := ⟨_, h7, hM2⟩
              have hmin2 : (if (a : Int) + (m : Int) < (o.size : Int) then (a : Int) + (m : Int) else (o.size : Int)) = (u : Int) := by split <;> omega
              have bu : (u : Int) ≤ (o.size : Int) := by omega
              have bu2 : (a : Int) ≤ (u : Int) := by omega
              have bz : s.size ≤ 200 := by omega
              clear e0 hs p1 p2 hS hM hM2 hR h7 hu
              go_wp2_with fail
              exact ⟨⟨o, a + s.size, b, r + 1, rfl, by go_num, rfl, by go_num, by omega, by omega, HN⟩, by simp [intOf]; omega⟩
          | false =>
            as_aux_lemma =>
            obtain ⟨g, hS, hM⟩ := HH.out
            have H0 : Hid (∃ g, SideIn w T p B q N g wc ∧ ((0 : Nat) ≤ k → ShF ((k : Int) + 1 - (0 : Nat)) o a b g) ∧ ((0 : Nat) = k + 1 → Sh2 o b g)) := ⟨g, hS, (fun _ => by simpa using hM), (fun e => by omega)⟩
            clear HH hS hM hz hr1 hr2 hao HC
            go_wp2_with fail
            go_loopw [29] (fun v wr => ∃ x : Nat, v = .int .i64 x ∧ x ≤ k + 1 ∧ Hid (∃ g, SideIn w T p B q N g wr ∧ (x ≤ k → ShF ((k : Int) + 1 - (x : Nat)) o a b g) ∧ (x = k + 1 → Sh2 o b g))) (fun v _ => k + 1 - (intOf v).toNat)
            case atStart => exact ⟨0, rfl, by omega, H0.out⟩
            case round =>
              clear H0
              obtain ⟨x, rfl, hx, HH⟩ := hrel
              obtain ⟨g, hS, hM1, hM2⟩ := HH.out
              clear HH
              by_cases hlt : x ≤ k
              · skip
                as_aux_lemma =>
                have t1 : (x : Int) ≤ (k : Int) := by omega
                have hM := hM1 hlt
                clear hM1 hM2
                go_wp2_with fail
                refine (side_fis hS 0).mono ?_
                rintro e w4 ⟨rfl, h4, -⟩
                rw [hM.opens.1]
                replace hM := hM.same (g' := isOT g 0) (fun j => get_isOT 0 j)
                clear hS
                go_wp2_with fail
                refine (side_is h4 1).mono ?_
                rintro e w5 ⟨rfl, h5, -⟩
                rw [hM.is]
                replace hM := hM.same (g' := findT (isOT g 0) 1) (fun j => get_findT 1 j)
                clear h4
                go_wp2_with fail
                refine (side_cls h5 0).mono ?_
                rintro e w6 ⟨rfl, h6, -⟩
                rw [hM.opens.1]
                have HN : Hid (∃ g, SideIn w T p B q N g w6 ∧ (x + 1 ≤ k → ShF ((k : Int) + 1 - (x + 1 : Nat)) o a b g) ∧ (x + 1 = k + 1 → Sh2 o b g)) := by
                  refine ⟨_, h6, fun c => ?_, fun c => ?_⟩
                  · have := hM.cls (by omega) (by omega)
                    rwa [show (k : Int) + 1 - (x : Nat) - 1 = (k : Int) + 1 - (x + 1 : Nat) by omega] at this
                  · have e : (k : Int) + 1 - (x : Nat) = 1 := by omega
                    rw [e] at hM
                    exact hM.last
                clear h5 h6 hM
                go_wp2
                exact ⟨⟨x + 1, by go_num, by omega, HN⟩, by simp [intOf]; omega⟩
              · skip
                as_aux_lemma =>
                obtain rfl : x = k + 1 := by omega
                have hM := hM2 rfl
                have t1 : ¬ (((k + 1 : Nat) : Int) ≤ (k : Int)) := by omega
                clear hM1 hM2 hlt hx
                go_wp2_with fail
                refine (side_fis hS 0).mono ?_
                rintro e w4 ⟨rfl, h4, -⟩
                rw [hM.opens.1]
                replace hM := hM.same (g' := isOT g 0) (fun j => get_isOT 0 j)
                clear hS
                go_wp2_with fail
                refine (side_cls h4 0).mono ?_
                rintro e w5 ⟨rfl, h5, -⟩
                have ec := cls_no hM.opens.1
                rw [hM.opens.1]
                rw [ec] at h5
                replace hM := hM.same (g' := isOT (isOT g 0) 0) (fun j => get_isOT 0 j)
                clear h4 ec
                go_wp2_with fail
                refine (side_is h5 1).mono ?_
                rintro e w6 ⟨rfl, h6, -⟩
                rw [hM.opens.2.2]
                replace hM := hM.same (g' := findT (isOT (isOT g 0) 0) 1) (fun j => get_findT 1 j)
                clear h5
                go_wp2_with fail
                refine (side_cls h6 1).mono ?_
                rintro e w7 ⟨rfl, h7, -⟩
                rw [hM.opens.2.1]
                obtain ⟨l1, l2⟩ := hM.last
                clear h6 hM
                generalize clsT f0 (findT (isOT (isOT g 0) 0) 1) 1 = g2 at *
                go_wp2_with fail
                refine (side_is h7 1).mono ?_
                rintro e w8 ⟨rfl, h8, -⟩
                rw [l1]
                clear h7
                go_wp2_with fail
                refine (side_fis h8 1).mono ?_
                rintro e w9 ⟨rfl, h9, -⟩
                rw [l2 _ (fun j => get_findT 1 j)]
                have HK : Hid (Kept (fun _ => False) w w9) := h9.kept
                clear h8 h9 l1 l2
                go_wp2_with fail
                refine (runs_w w9).mono ?_
                rintro e w10 ⟨rfl, k10⟩
                have HK2 : Hid (Kept (fun _ => False) w w10) := HK.out.thru k10
                clear k10 HK
                go_wp2_with fail
                go_ret
                exact ⟨rfl, HK2.out⟩
end Go.Proofs.Ytdgkhfhlbjpaoaa
