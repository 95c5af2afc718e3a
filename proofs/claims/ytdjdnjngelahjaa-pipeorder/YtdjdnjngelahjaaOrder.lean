
/- What is read of a pipe is what was written, in its order; no conditions. -/
import Derived.Test.YtdjdnjngelahjaaPpV
import Derived.Test.YtdjdnjngelahjaaOpenArgs
import Derived.Deep.CutBlock
namespace Go.Proofs.Ytdjdnjngelahjaa
open Go.RowKit
set_option maxRecDepth 100000
set_option linter.unusedSimpArgs false

/-- All that the statement has in memory, and what it knows. -/
def OrdIn (w0 : World) (T p B q N r : Nat) (g : VwF) (inn out s : ByteArray) (w : World) : Prop :=
  SideIn w0 T p B q N g w ∧ OrdF g s ∧ inn = out ++ s ∧ s.size ≤ 16 ∧ inn.size ≤ 16 * r

set_option maxHeartbeats 4000000 in
theorem order_law (bo : Option Addr) (ln cp mb of : Nat) (A : Nat → QA) (hbo : 0 < ln → bo = some ⟨mb, of, none⟩) (w : World)
    (hd : ∀ i, i < ln → QAt w mb (of + i * 4) (A i)) :
    Calls Try.prog 5 #[.slice bo ln cp] w fun e w' => e = .returned (.bool true) ∧ Kept (fun _ => False) w w' := by
  have HD : Hid (∀ i, i < ln → QAt w mb (of + i * 4) (A i)) := hd
  clear hd
  go_enter Try.func5, Try.ntmps5
  go_wp2_with fail
  refine (side_new w).mono ?_
  rintro e w1 ⟨T, p, B, q, N, rfl, h1, hT⟩
  have c1 := h1.t
  go_wp2_with fail
  refine (side_pal h1).mono ?_
  rintro e w2 ⟨rfl, h2, -⟩
  rw [ra1]
  clear h1 c1
  have H0 : Hid (OrdIn w T p B q N 0 (palT f0 g0) ByteArray.empty ByteArray.empty ByteArray.empty w2) := ⟨h2, ord_new, rfl, by decide, by decide⟩
  clear h2
  go_wp2_with fail
  go_loopw [6, 7, 8, 9, 10, 11, 12, 13, 14, 15] (fun vi vo v _ _ _ _ _ _ _ wr => ∃ (r : Nat) (g : VwF) (inn out s : ByteArray), vi = .string inn ∧ vo = .string out ∧ v = .int .i64 r ∧ r ≤ ln ∧ r ≤ 40 ∧ Hid (OrdIn w T p B q N r g inn out s wr)) (fun _ _ v _ _ _ _ _ _ _ _ => 40 - (intOf v).toNat)
  case atStart => exact ⟨0, _, _, _, _, rfl, rfl, rfl, by omega, by omega, H0.out⟩
  case round =>
    clear H0
    obtain ⟨r, g, inn, out, s, rfl, rfl, rfl, hr1, hr2, HH⟩ := hrel
    obtain ⟨z, hz⟩ : ∃ z : Bool, decide ((r : Int) < (ln : Int) ∧ (r : Int) < 40) = z := ⟨_, rfl⟩
    go_upto_region 9 with fail
    go_cut [40] from 33 to 40 (fun v wx => v = .bool z ∧ wx = wr)
    case first =>
      as_aux_lemma =>
      by_cases p1 : (r : Int) < (ln : Int)
      · by_cases p2 : (r : Int) < 40
        · have hz' : z = true := by rw [← hz]; simp [p1, p2]
          subst hz'
          clear hz
          go_wp2
          go_meet
          case rel => exact ⟨rfl, rfl⟩
        · have hz' : z = false := by rw [← hz]; simp [p1, p2]
          subst hz'
          clear hz
          go_wp2
          go_meet
          case rel => exact ⟨rfl, rfl⟩
      · have hz' : z = false := by rw [← hz]; simp [p1]
        subst hz'
        clear hz
        go_wp2
        go_meet
        case rel => exact ⟨rfl, rfl⟩
    case rest =>
      obtain ⟨rfl, hwc⟩ := hcut
      subst hwc
      cases z with
      | true =>
        as_aux_lemma =>
        simp only [decide_eq_true_eq] at hz
        obtain ⟨t1, t2⟩ := hz
        have hl1 : r < ln := by omega
        have h0 := hbo (by omega)
        subst h0
        have hq0 := HD.out r hl1
        obtain ⟨⟨qk, qd, qn, qb⟩, hqe⟩ : ∃ y, A r = y := ⟨_, rfl⟩
        rw [hqe] at hq0
        obtain ⟨e0, e1, e2, e3⟩ := hq0.still HH.out.1.kept
        simp only at e0 e1 e2 e3
        clear hqe hq0 hbo e1 e3
        obtain ⟨h, hh⟩ : ∃ h : Nat, s.size = h := ⟨_, rfl⟩
        have hsz : inn.size = out.size + h := by rw [HH.out.2.2.1, ByteArray.size_append, hh]
        have hb1 : inn.size ≤ 640 := by have := HH.out.2.2.2.2; omega
        have hb2 : out.size ≤ 640 := by omega
        have hh16 : h ≤ 16 := by have := HH.out.2.2.2.1; omega
        have HSZ : Hid (inn.size = out.size + h) := hsz
        have hhas : (inn.size : Int) - (out.size : Int) = (h : Int) := by omega
        clear hsz
        have x1 := HH.out.1.t
        by_cases hk2 : qk = 2
        · subst hk2
          as_aux_lemma =>
          obtain ⟨n, hn⟩ : ∃ n : Int, (1 : Int) + qn % (20 - 1 + 1) = n := ⟨_, rfl⟩
          have hn1 : 1 ≤ n ∧ n ≤ 20 := by omega
          go_wp2_with fail
          refine (within_any qn 1 20 (by omega) (by omega) (by omega) _).mono ?_
          rintro e w3 ⟨rfl, hw3⟩
          subst hw3
          rw [hn]
          clear hn
          go_wp2_with fail
          refine (side_prd HH.out.1 0 n).mono ?_
          rintro e w4 ⟨rfl, h4, -⟩
          have hO := HH.out.2.1
          obtain ⟨d, hd⟩ : ∃ d, prdS f0 g 0 n = d := ⟨_, rfl⟩
          obtain ⟨m, hm⟩ : ∃ m : Nat, d.size = m := ⟨_, rfl⟩
          have hd2 : bs ((bl s).take n.toNat) = d := by rw [← hO.rdS (by omega), hd]
          have hm2 : m = min n.toNat h := by rw [← hm, ← hd2, bs_size, List.length_take, bl_len, hh]
          obtain ⟨kk, hkk⟩ : ∃ kk : Int, prdK f0 g 0 n = kk := ⟨_, rfl⟩
          have hkk2 : kk = if h = 0 then 2 else 0 := by rw [← hkk, hO.rdK hn1.1, hh]
          rw [hd, hkk, show prdV d kk = .tuple #[.string d, .int .i64 kk] from rfl]
          obtain ⟨s2, hs2⟩ : ∃ s2, bs ((bl s).drop n.toNat) = s2 := ⟨_, rfl⟩
          have hj : d ++ s2 = s := by rw [← hd2, ← hs2]; exact rd_join s n.toNat
          have hs2s : h = m + s2.size := by rw [← hh, ← hj, ByteArray.size_append, hm]
          obtain ⟨o2, ho2⟩ : ∃ o2, out ++ d = o2 := ⟨_, rfl⟩
          have ho2s : o2.size = out.size + m := by rw [← ho2, ByteArray.size_append, hm]
          have HN : Hid (OrdIn w T p B q N (r + 1) (prdT f0 g 0 n) inn o2 s2 w4) := by
            refine (show _ ∧ _ from ⟨h4, ?_⟩)
            refine ⟨by rw [← hs2]; exact hO.rd (by omega), ?_, by omega, by have := HH.out.2.2.2.2; omega⟩
            rw [HH.out.2.2.1, ← hj, ← ho2]
            apply bl_inj
            simp only [bl_app, List.append_assoc]
          have hle : ¬ inn.size < o2.size := by have := HSZ.out; omega
          have hle2 : o2.size ≤ inn.size := by omega
          have hx : inn.extract 0 o2.size = o2 := by rw [HN.out.2.2.1]; exact head_of o2 s2
          have hds : d.size ≤ 700 := by omega
          have hmin : (if (h : Int) < n then (h : Int) else n) = (m : Int) := by split <;> omega
          have hkc : (h = 0 ∧ kk = 2) ∨ (h ≠ 0 ∧ kk = 0) := by
            by_cases c : h = 0
            · left; exact ⟨c, by rw [hkk2, if_pos c]⟩
            · right; exact ⟨c, by rw [hkk2, if_neg c]⟩
          have x4 := h4.t
          clear hd2 hm2 hkk2 hj hs2 hd hkk HH hO h4 hs2s hh x1 ho2s
          have HO2 : Hid (o2.size ≤ 700) := by show _ ≤ _; omega
          go_upto_region 15 with fail
          go_cut [86] from 70 to 86 (fun v wx => v = .bool false ∧ wx = w4)
          case first =>
            rcases hkc with ⟨hh0, hkk0⟩ | ⟨hh0, hkk0⟩
            · subst hkk0
              have hc : ((h : Int) == 0) = true := by simp [hh0]
              clear hh0
              go_wp2
              go_meet
              case rel => exact ⟨rfl, rfl⟩
            · subst hkk0
              have hc : ((h : Int) == 0) = false := by simp [hh0]
              clear hh0
              go_wp2
              go_meet
              case rel => exact ⟨rfl, rfl⟩
          case rest =>
            obtain ⟨rfl, hwc⟩ := hcut
            subst hwc
            clear hkc hmin
            clear hm
            go_wp2
            go_roundw
            case rel => exact ⟨r + 1, _, inn, o2, s2, rfl, rfl, by go_num, by omega, by omega, HN.out⟩
            case measure => simp [intOf]; omega
        ·
          as_aux_lemma =>
          obtain ⟨n, hn⟩ : ∃ n : Int, (1 : Int) + qn % (20 - 1 + 1) = n := ⟨_, rfl⟩
          have hn1 : 1 ≤ n ∧ n ≤ 20 := by omega
          go_wp2_with fail
          refine (within_any qn 1 20 (by omega) (by omega) (by omega) _).mono ?_
          rintro e w3 ⟨rfl, hw3⟩
          subst hw3
          rw [hn]
          clear hn
          go_wp2_with fail
          refine (text_w _ n (by omega) (by omega) _).mono ?_
          rintro e w4 ⟨t, rfl, hts, hk4⟩
          have h4 := HH.out.1.still hk4
          have x4 := h4.t
          clear x1 e0 e2 hk4
          go_wp2_with fail
          refine (side_pwr h4 0 t).mono ?_
          rintro e w5 ⟨rfl, h5, -⟩
          have hO := HH.out.2.1
          have ht0 : t.size ≠ 0 := by omega
          obtain ⟨m, hm⟩ : ∃ m : Nat, pwrN (withS newP s) t = m := ⟨_, rfl⟩
          have hm2 : m = min (16 - h) t.size := by rw [← hm, ← hh]; rfl
          obtain ⟨kk, hkk⟩ : ∃ kk : Int, pwrK f0 g 0 t = kk := ⟨_, rfl⟩
          have hkk2 : kk = if h < 16 then 0 else 2 := by rw [← hkk, hO.wrK ht0, hh]
          rw [hO.wrA ht0, hm, hkk, show pwrV (m : Int) kk = .tuple #[.int .i64 (m : Int), .int .i64 kk] from rfl]
          obtain ⟨x, hx⟩ : ∃ x, t.extract 0 m = x := ⟨_, rfl⟩
          have hxs : x.size = m := by rw [← hx, extract_bs, bs_size, List.length_take, List.length_drop, bl_len]; omega
          obtain ⟨i2, hi2⟩ : ∃ i2, inn ++ x = i2 := ⟨_, rfl⟩
          have hi2s : i2.size = inn.size + m := by rw [← hi2, ByteArray.size_append, hxs]
          obtain ⟨s2, hs2⟩ : ∃ s2, moreS (withS newP s) t = s2 := ⟨_, rfl⟩
          have hs2s : s2.size = h + m := by rw [← hs2, more_size, hm]; show s.size + m = _; rw [hh]
          have hio : i2 = out ++ s2 := by
            have := wr_join out s t
            rw [hm, hx, hs2, ← HH.out.2.2.1, hi2] at this
            exact this
          have HN : Hid (OrdIn w T p B q N (r + 1) (pwrT f0 g 0 t) i2 out s2 w5) := by
            refine (show _ ∧ _ from ⟨h5, ?_⟩)
            exact ⟨by rw [← hs2]; exact hO.wr t, hio, by omega, by have := HH.out.2.2.2.2; omega⟩
          have hle : ¬ i2.size < out.size := by have := HSZ.out; omega
          have hle2 : out.size ≤ i2.size := by omega
          have hy : i2.extract 0 out.size = out := by rw [hio]; exact head_of out s2
          have hxt : (m : Int) ≤ t.size := by omega
          have htb : t.size ≤ 20 := by omega
          have hmin : (if 16 - (h : Int) < (t.size : Int) then 16 - (h : Int) else (t.size : Int)) = (m : Int) := by split <;> omega
          have hkc : (h = 16 ∧ kk = 2) ∨ (h ≠ 16 ∧ kk = 0) := by
            by_cases c : h < 16
            · right; exact ⟨by omega, by rw [hkk2, if_pos c]⟩
            · left; exact ⟨by omega, by rw [hkk2, if_neg c]⟩
          have x5 := h5.t
          have hxb : x.size ≤ 20 := by omega
          have hib : i2.size ≤ 700 := by omega
          clear hm hm2 hkk2 hs2 hkk HH hO h4 h5 hs2s hh hio hts ht0 hi2s hxs x4
          go_upto_region 20 with fail
          go_cut [125] from 108 to 125 (fun v wx => v = .bool false ∧ wx = w5)
          case first =>
            rcases hkc with ⟨hh0, hkk0⟩ | ⟨hh0, hkk0⟩
            · subst hkk0
              have hc : ((h : Int) == 16) = true := by simp; omega
              clear hh0
              go_wp2
              go_meet
              case rel => exact ⟨rfl, rfl⟩
            · subst hkk0
              have hc : ((h : Int) == 16) = false := by simp; omega
              clear hh0
              go_wp2
              go_meet
              case rel => exact ⟨rfl, rfl⟩
          case rest =>
            obtain ⟨rfl, hwc⟩ := hcut
            subst hwc
            clear hkc hmin
            go_wp2
            go_roundw
            case rel => exact ⟨r + 1, _, i2, out, s2, rfl, rfl, by go_num, by omega, by omega, HN.out⟩
            case measure => simp [intOf]; omega
      | false =>
        as_aux_lemma =>
        clear hz
        have x1 := HH.out.1.t
        have HB : Hid (inn.size ≤ 640) := by have := HH.out.2.2.2.2; show _ ≤ _; omega
        obtain ⟨f1, f2, f3, f4⟩ := HH.out.2.1.shut HH.out.2.2.2.1
        have hj : out ++ s = inn := HH.out.2.2.1.symm
        have hos : inn.size = out.size + s.size := by rw [← hj, ByteArray.size_append]
        have hb1 : out.size ≤ 640 := by have := HB.out; omega
        have hb2 : s.size ≤ 16 := HH.out.2.2.2.1
        clear hos
        go_wp2_with fail
        refine (side_pend HH.out.1 0 true (-1)).mono ?_
        rintro e w3 ⟨rfl, h3, -⟩
        rw [HH.out.2.1.is]
        have x3 := h3.t
        clear x1
        go_wp2_with fail
        refine (side_prd h3 0 99).mono ?_
        rintro e w4 ⟨rfl, h4, -⟩
        rw [f1, f2, show prdV s 0 = .tuple #[.string s, .int .i64 0] from rfl]
        have x4 := h4.t
        clear x3 h3
        go_wp2_with fail
        refine (side_prd h4 0 99).mono ?_
        rintro e w5 ⟨rfl, h5, -⟩
        rw [f3, f4, show prdV ByteArray.empty 0 = .tuple #[.string ⟨#[]⟩, .int .i64 0] from rfl]
        have HK : Hid (Kept (fun _ => False) w w5) := h5.kept
        clear x4 h4 h5 f1 f2 f3 f4 HH
        go_wp2_with fail
        refine (runs_w w5).mono ?_
        rintro e w6 ⟨rfl, hk6⟩
        have HK : Hid (Kept (fun _ => False) w w6) := HK.out.thru hk6
        clear hk6
        go_wp2_with fail
        go_ret
        exact ⟨rfl, HK.out⟩
end Go.Proofs.Ytdjdnjngelahjaa
