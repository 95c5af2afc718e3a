/- The statement on any size and any accesses; no conditions. -/
import Derived.Test.YtkejnoifcfeliaaTurn
import Derived.BigQuiet
import Derived.Deep.RegionHeld3
import Derived.Deep.CutBlock
namespace Go.Proofs.Ytkejnoifcfeliaa
open Go.RowKit

set_option maxRecDepth 100000 in
set_option maxHeartbeats 1600000 in
theorem plays_w (n : Int) (ao : Option Addr) (len cap lb off : Nat) (K A V : Nat → Int) (hao : 0 < len → ao = some ⟨lb, off, none⟩) (hnil : ao = none → len = 0 ∧ cap = 0) (hlc : len ≤ cap) (hm : cap ≤ 9223372036854775807) (w : World)
    (hc : ∀ i, i < len → w.cell? ⟨lb, off + i * 3, none⟩ = some (.int .i64 (K i)) ∧ w.cell? ⟨lb, off + i * 3 + 1, none⟩ = some (.int .i64 (A i)) ∧ w.cell? ⟨lb, off + i * 3 + 2, none⟩ = some (.int .i64 (V i))) :
    Calls Try.prog 4 #[.int .i64 n, .slice ao len cap] w fun e w' => e = .returned (.bool true) ∧ Kept (fun _ => False) w w' := by
  have hmf := makeF
  obtain ⟨B, hB⟩ : ∃ B : Nat, w.heap.size = B := ⟨_, rfl⟩
  by_cases hn : n < 0 ∨ 4096 < n
  · have G := make_g_no B (B + 1) n hn ((w.alloc (.cells #[.int .i64 n] 3)).alloc (.cells #[.pointer none] 22)) (alloc_off (alloc_at' _ hB))
    have n1 : ((w.alloc (.cells #[.int .i64 n] 3)).alloc (.cells #[.pointer none] 22)).heap[B]? = some (.cells #[.int .i64 n] 3 (0, 0)) := alloc_off (alloc_at' _ hB)
    clear hc hao hnil
    rcases (show (n < 0) ∨ (¬ n < 0 ∧ 4096 < n) by omega) with h0 | ⟨h0, h1⟩
    · go_enter Try.func4, Try.ntmps4
      go_wp2_with fail
      refine G.mono ?_
      rintro e w1 ⟨rfl, hk1⟩
      have n2 := hk1.at n1 (by simp)
      have c2 := cell_at n2 (i := 0) rfl
      have l2 := lt_at n2
      have HK1 : Hid _ := hk1
      clear hk1 n2 n1 G
      go_wp2_with fail
      refine (runs_w _).mono ?_
      rintro e w2 ⟨rfl, hk2⟩
      have HK2 : Hid _ := hk2
      clear hk2
      go_wp2
      go_ret
      exact ⟨rfl, (((((Kept.refl _ w).alloc _).alloc _).trans HK1.out (fun _ _ h => h)).alloc _).trans HK2.out (fun _ _ h => h)⟩
    · have h3 : decide (n < 0) = false := by simp; omega
      go_enter Try.func4, Try.ntmps4
      go_wp2_with fail
      refine G.mono ?_
      rintro e w1 ⟨rfl, hk1⟩
      have n2 := hk1.at n1 (by simp)
      have c2 := cell_at n2 (i := 0) rfl
      have l2 := lt_at n2
      have HK1 : Hid _ := hk1
      clear hk1 n2 n1 G
      go_wp2_with fail
      refine (runs_w _).mono ?_
      rintro e w2 ⟨rfl, hk2⟩
      have HK2 : Hid _ := hk2
      clear hk2
      go_wp2
      go_ret
      exact ⟨rfl, (((((Kept.refl _ w).alloc _).alloc _).trans HK1.out (fun _ _ h => h)).alloc _).trans HK2.out (fun _ _ h => h)⟩
  · obtain ⟨m, rfl⟩ : ∃ m : Nat, n = m := ⟨n.toNat, by omega⟩
    have n1 : ((w.alloc (.cells #[.int .i64 m] 3)).alloc (.cells #[.pointer none] 22)).heap[B]? = some (.cells #[.int .i64 m] 3 (0, 0)) := alloc_off (alloc_at' _ hB)
    have n2 : ((w.alloc (.cells #[.int .i64 m] 3)).alloc (.cells #[.pointer none] 22)).heap[B + 1]? = some (.cells #[.pointer none] 22 (0, 0)) := hB ▸ alloc_at1 _ _ _
    have G := make_g_ok B (B + 1) m (by omega) _ n1 n2
    have mk := make_ints m (by omega)
    have h0 : ¬ (m : Int) < 0 := by omega
    have h1 : (m : Int) ≤ 4096 := by omega
    have h3 : decide ((m : Int) < 0) = false := by simp
    have h4 : decide ((4096 : Int) < (m : Int)) = false := by simp; omega
    go_enter Try.func4, Try.ntmps4
    go_wp2_with fail
    refine G.mono ?_
    rintro e w1 ⟨rfl, ⟨p, b, hM, hp, hb, hbox⟩, hk1⟩
    have nb1 := hk1.at n1 (by omega)
    have c0 := cell_at nb1 (i := 0) rfl
    have c1 := cell_at hbox (i := 0) rfl
    have l1 := lt_at hbox
    have l0 := lt_at nb1
    have hp4 : B + 4 ≤ p := by simp [hB] at hp; omega
    have hb4 : B + 4 ≤ b := by simp [hB] at hb; omega
    clear hp hb
    have HK1 : Hid _ := hk1
    have HM : Hid _ := hM
    have HN : Hid _ := nb1
    have HX : Hid _ := hbox
    clear hk1 hM nb1 hbox n1 n2 G
    have hD : w1.heap.size = w1.heap.size := rfl
    generalize hDD : w1.heap.size = D at hD
    rw [hDD] at l0 l1
    clear hD
    obtain ⟨N, hN60, hNl, hNA, hNB⟩ : ∃ N : Nat, N ≤ 60 ∧ N ≤ len ∧ (len ≤ 60 → N = len) ∧ (60 < len → N = 60) := ⟨min len 60, by omega, by omega, by omega, by omega⟩
    go_upto_block 0 with fail
    go_cut [10] from 53 to 147 (fun _ wr => ∃ (ws : List Int) (c why : Int), 0 ≤ c ∧ c ≤ 60 ∧ PlaysIn B p b (D + 1 + 1) (D + 1) m ws c why w wr)
    case first =>
      go_wp2_with fail
      go_loopw [10] (fun i wr => ∃ (j : Nat) (ws : List Int) (c why : Int), j ≤ N ∧ i = .int .i64 j ∧ 0 ≤ c ∧ c ≤ j ∧ PlaysIn B p b (D + 1 + 1) (D + 1) m ws c why w wr)
        (fun i _ => N - (intOf i).toNat)
      case atStart =>
        have k3 : Kept (fun _ => False) w1 (((w1.alloc (.cells #[.int .i64 0, .int .i64 0] 28)).alloc (.cells (Array.replicate m (.int .i64 0)) 3)).alloc (.cells #[.slice (some ⟨D + 1, 0, none⟩) m m, .int .i64 0, .int .i64 0] 37)) := (((Kept.refl _ _).alloc _).alloc _).alloc _
        have q1 := lt_at HM.out.mem
        have q2 := lt_at HM.out.row
        rw [hDD] at q1 q2
        refine ⟨0, List.replicate m 0, 0, 0, by omega, rfl, by omega, by omega, k3.at HN.out (by simp), k3.at HX.out (by simp), HM.out.kept k3 (by simp) (by simp), ⟨?_, ?_, by omega⟩, by simp, ?_, hB, by omega, by omega, by omega, by omega, by omega, by omega, by omega, by omega⟩
        · simpa using alloc_at' (w := (w1.alloc (.cells #[.int .i64 0, .int .i64 0] 28)).alloc (.cells (Array.replicate m (.int .i64 0)) 3)) (.cells #[.slice (some ⟨D + 1, 0, none⟩) m m, .int .i64 0, .int .i64 0] 37) (n := D + 1 + 1) (by simp [hDD])
        · refine alloc_off ?_
          simpa using alloc_at' (w := w1.alloc (.cells #[.int .i64 0, .int .i64 0] 28)) (.cells (Array.replicate m (.int .i64 0)) 3) (n := D + 1) (by simp [hDD])
        · have kw : Kept (fun _ => False) w w1 := Kept.trans (((Kept.refl (fun _ => False) w).alloc _).alloc _) HK1.out (fun k hk e => by omega)
          exact kw.trans k3 (fun _ _ e => e)
      case round =>
        obtain ⟨j, ws, c, why, hj, rfl, hc0, hcj, hP⟩ := hrel
        clear HK1 HM HN HX mk c0 c1
        by_cases hjN : j < N
        · have hjl : (j : Int) < (len : Int) := by omega
          have hj60 : (j : Int) < 60 := by omega
          obtain ⟨e0, e1, e2⟩ := hc j (by omega)
          have d0 := hP.kept.cell e0 (by simp)
          have d1 := hP.kept.cell e1 (by simp)
          have d2 := hP.kept.cell e2 (by simp)
          obtain rfl := hao (by omega)
          have G := ask_g _ _ _ _ _ (K j) (A j) (V j) ws c (by omega) _ (hP.laid (K j) (A j) (V j))
          obtain ⟨s0, s1, st, hs, hst, hor⟩ := play_told (K j) (A j) (V j) ws
          rw [hs, hst] at G
          have HPl : Hid _ := hP.len
          have HP : Hid _ := hP
          have HO : Hid _ := hor
          clear hP hor hs hst e0 e1 e2 hao hnil hc
          go_wp2_with fail
          refine G.mono ?_
          rintro e w2 ⟨rfl, ⟨hM2, hg2⟩, hk2⟩
          obtain ⟨hL, hR2, hq2, hT⟩ := HP.out.turn (K j) (A j) (V j) _ s0 s1 hM2 hg2 hk2
          have x1 := hL.rQ
          have x2 := hL.QT
          have x3 : D + 1 + 1 < w2.heap.size := by omega
          have x4 : wr.heap.size < w2.heap.size := by omega
          have x5 : ¬ wr.heap.size = D + 1 + 1 := by omega
          have x6 : ¬ D + 1 + 1 = wr.heap.size := by omega
          have y0 := cell_at hq2 (i := 0) rfl
          have y2 := cell_at hR2.mem (i := 2) rfl
          have yf := free_at hR2.mem 2
          have HL : Hid _ := hL
          have HT : Hid _ := hT
          clear hM2 hg2 hk2 hL hT hq2 hR2 d0 d1 d2 G HP
          go_upto_block 2 with fail
          go_cut [13] from 61 to 106 (fun want wc => want = .int .i64 (play (K j) (A j) (V j) ws).ans ∧ Turn B p b (D + 1 + 1) (D + 1) m wr.heap.size w2.heap.size (K j) (A j) (V j) (play (K j) (A j) (V j) ws).ans s0 s1 (play (K j) (A j) (V j) ws).ws (play (K j) (A j) (V j) ws).ws (c + (play (K j) (A j) (V j) ws).dc) (c + (play (K j) (A j) (V j) ws).dc) (play (K j) (A j) (V j) ws).why w wc)
          case first =>
            have hT := HT.out
            have hR : 0 ≤ c ∧ c ≤ 1000000 := by omega
            clear HT HO y0 y2 yf
            generalize (w2.setCell ⟨D + 1 + 1, 2, none⟩ (.int .i64 0)).alloc (.cells #[.int .i64 s0, .int .i64 s1] 28) = w4 at hT ⊢
            have z1 := cell_at hT.q (i := 1) rfl
            have z2 := cell_at hT.q (i := 2) rfl
            by_cases k1 : K j = 1
            · have RC := ref1_w (D + 1 + 1) (D + 1) ws c 0 (A j) (V j) hR w4 hT.ref
              have HT : Hid _ := hT
              clear hT
              go_wp2_with fail
              refine RC.mono ?_
              rintro e w5 ⟨rfl, hr5, hk5⟩
              have HT5 : Hid _ := HT.out.moved HL.out hr5 hk5
              clear hr5 hk5 RC HT z1 z2
              go_wp2
              go_meet
              case rel =>
                have hT5 := HT5.out
                rw [k1] at hT5 ⊢
                exact ⟨rfl, hT5⟩
            have n1 : (K j == 1) = false := by simp [k1]
            by_cases k2 : K j = 2
            · have RC := ref2_w (D + 1 + 1) (D + 1) ws c 0 (A j) (V j) hR w4 hT.ref
              have HT : Hid _ := hT
              clear hT
              go_wp2_with fail
              refine RC.mono ?_
              rintro e w5 ⟨rfl, hr5, hk5⟩
              have HT5 : Hid _ := HT.out.moved HL.out hr5 hk5
              clear hr5 hk5 RC HT z1 z2
              go_wp2
              go_meet
              case rel =>
                have hT5 := HT5.out
                rw [k2] at hT5 ⊢
                exact ⟨by rw [play_ans2], hT5⟩
            have n2 : (K j == 2) = false := by simp [k2]
            by_cases k3 : K j = 3
            · have RC := ref3_w (D + 1 + 1) (D + 1) ws c 0 (A j) (V j) hR w4 hT.ref
              have HT : Hid _ := hT
              clear hT
              go_wp2_with fail
              refine RC.mono ?_
              rintro e w5 ⟨rfl, hr5, hk5⟩
              have HT5 : Hid _ := HT.out.moved HL.out hr5 hk5
              clear hr5 hk5 RC HT z1 z2
              go_wp2
              go_meet
              case rel =>
                have hT5 := HT5.out
                rw [k3] at hT5 ⊢
                exact ⟨rfl, hT5⟩
            have n3 : (K j == 3) = false := by simp [k3]
            by_cases k4 : K j = 4
            · have RC := ref4_w (D + 1 + 1) (D + 1) ws c 0 (A j) (V j) hR w4 hT.ref
              have HT : Hid _ := hT
              clear hT
              go_wp2_with fail
              refine RC.mono ?_
              rintro e w5 ⟨rfl, hr5, hk5⟩
              have HT5 : Hid _ := HT.out.moved HL.out hr5 hk5
              clear hr5 hk5 RC HT z1 z2
              go_wp2
              go_meet
              case rel =>
                have hT5 := HT5.out
                rw [k4] at hT5 ⊢
                exact ⟨rfl, hT5⟩
            have n4 : (K j == 4) = false := by simp [k4]
            have HT : Hid _ := hT
            clear hT z1 z2
            go_wp2
            go_meet
            case rel =>
              have hT5 := HT.out
              rw [play_none (by omega)] at hT5 ⊢
              exact ⟨rfl, by simpa using hT5⟩
          case rest =>
            obtain ⟨rfl, hT2⟩ := hcut
            have hor := HO.out
            have hlen := play_length (K j) (A j) (V j) ws
            have hdc := play_dc (K j) (A j) (V j) ws
            clear HT HO y0 y2 yf x3 x4 x5 x6
            generalize play (K j) (A j) (V j) ws = R at hT2 hor hlen hdc ⊢
            have g0 := cell_at hT2.got (i := 0) rfl
            have g1 := cell_at hT2.ref.mem (i := 1) rfl
            have g2 := cell_at hT2.ref.mem (i := 2) rfl
            have g3 := cell_at hT2.stp (i := 0) rfl
            have g4 := cell_at hT2.stp (i := 1) rfl
            have g5 := cell_at hT2.q (i := 1) rfl
            have g6 := cell_at hT2.mbox (i := 0) rfl
            have g7 := cell_at hT2.nbox (i := 0) rfl
            have hlm : R.ws.length = m := by rw [hlen]; exact HPl.out
            have HT2 : Hid _ := hT2
            clear hT2
            rcases hor with ⟨rfl, hwhy⟩ | ⟨rfl, rfl, rfl, hwhy⟩
            · rw [hwhy] at g2
              go_wp2
              go_quiet (first
                | (go_at_call 14; exact Calls.quiet_of_same (count_w _ _ _ _ _ (HT2.out.drew _).mem))
                | (go_at_call 21; exact Calls.quiet_of_same (hlm ▸ len_w _ _ _ _ _ (HT2.out.drew _).mem)))
              have HQ : Hid _ := HT2.out.drew nq
              clear HT2
              go_wp2
              go_roundw
              case rel =>
                refine ⟨j + 1, R.ws, c + R.dc, R.why, by omega, by go_num, by omega, by omega, HQ.out.ends HL.out hlm⟩
              case measure => simp [intOf]; omega
            · rw [hwhy] at g2
              go_wp2
              go_quiet (first
                | (go_at_call 14; exact Calls.quiet_of_same (count_w _ _ _ _ _ (HT2.out.drew _).mem))
                | (go_at_call 21; exact Calls.quiet_of_same (hlm ▸ len_w _ _ _ _ _ (HT2.out.drew _).mem)))
              have HQ : Hid _ := HT2.out.drew nq
              clear HT2
              go_wp2
              go_roundw
              case rel =>
                refine ⟨j + 1, R.ws, c + R.dc, R.why, by omega, by go_num, by omega, by omega, HQ.out.ends HL.out hlm⟩
              case measure => simp [intOf]; omega
        · have hjj : j = N := by omega
          subst hjj
          clear hc
          have HP : Hid _ := hP
          clear hP
          rcases (show (len ≤ 60 ∧ j = len) ∨ (60 < len ∧ j = 60) by omega) with ⟨hl60, hjl⟩ | ⟨hl60, hjl⟩
          · have t1 : ¬ (j : Int) < (len : Int) := by omega
            clear hjl hNA hNB hl60
            go_wp2
            go_meet
            case rel => exact ⟨ws, c, why, by omega, by omega, HP.out⟩
          · have t1 : (j : Int) < (len : Int) := by omega
            have t2 : ¬ (j : Int) < 60 := by omega
            clear hjl hNA hNB hl60
            go_wp2
            go_meet
            case rel => exact ⟨ws, c, why, by omega, by omega, HP.out⟩
    case rest =>
      obtain ⟨ws, c, why, hc0, hc60, hP⟩ := hcut
      clear HK1 HM HN HX mk c0 c1 hc
      obtain ⟨M, hM70, hMm, hMA, hMB⟩ : ∃ M : Nat, M ≤ 70 ∧ M ≤ m ∧ (m ≤ 70 → M = m) ∧ (70 < m → M = 70) := ⟨min m 70, by omega, by omega, by omega, by omega⟩
      have hlm := hP.len
      have HL0 : Hid _ := hP.last
      clear hP hNA hNB
      go_upto_block 3 with fail
      go_cut [16] from 148 to 167 (fun _ wr => Kept (fun _ => False) w wr)
      case first =>
        go_wp2_with fail
        go_loopw [16] (fun i wr => ∃ (x : Nat) (c1 : Int), x ≤ M ∧ i = .int .i64 x ∧ 0 ≤ c1 ∧ c1 ≤ 60 + x ∧ LastIn B p b (D + 1 + 1) (D + 1) m ws c1 c why w wr)
          (fun i _ => M - (intOf i).toNat)
        case atStart => exact ⟨0, c, by omega, rfl, by omega, by omega, HL0.out⟩
        case round =>
          obtain ⟨x, c1, hx, rfl, hc1, hc2, hL⟩ := hrel
          clear HL0
          by_cases hxM : x < M
          · have hxm : (x : Int) < (m : Int) := by omega
            have hx70 : (x : Int) < 70 := by omega
            have LD := load_ok _ _ _ _ x (by omega) (by omega) _ hL.drew.mem
            have g6 := cell_at hL.mbox (i := 0) rfl
            have g7 := cell_at hL.nbox (i := 0) rfl
            have g8 := cell_at hL.ref.mem (i := 0) rfl
            rw [hlm] at g8
            have g9 := row_at hL.ref.row (a := x) (by omega)
            have HLd : Hid _ := hL.drew
            clear hL
            go_wp2_with fail
            go_region_held3 (fun w' => w'.cell? ⟨B + 1, 0, none⟩ = some (.pointer (some ⟨p, 0, none⟩)) ∧ w'.cell? ⟨D + 1 + 1, 0, none⟩ = some (.slice (some ⟨D + 1, 0, none⟩) m m) ∧ w'.cell? ⟨D + 1, x, none⟩ = some (.int .i64 (wd ws x))) (simp [*])
              (first
                | (go_at_call 11; refine LD.mono ?_; rintro e w5 ⟨rfl, hM5, hk5⟩; have hL5 := HLd.out.moved hM5 hk5; have e6 := cell_at hL5.mbox (i := 0) rfl; have e8 := cell_at hL5.ref.mem (i := 0) rfl; rw [hlm] at e8; have e9 := row_at hL5.ref.row (a := x) (by omega)))
            have HL5 : Hid _ := hL5
            clear hL5 hM5 hk5 LD HLd g6 g7 g8 g9 e6 e8 e9
            go_wp2
            go_roundw
            case rel => exact ⟨x + 1, _, by omega, by go_num, by omega, by omega, HL5.out⟩
            case measure => simp [intOf]; omega
          · have hxx : x = M := by omega
            subst hxx
            have g7 := cell_at hL.nbox (i := 0) rfl
            have HLe : Hid _ := hL
            clear hL
            rcases (show (m ≤ 70 ∧ x = m) ∨ (70 < m ∧ x = 70) by omega) with ⟨hl, hxl⟩ | ⟨hl, hxl⟩
            · have t1 : ¬ (x : Int) < (m : Int) := by omega
              clear hxl hMA hMB hl
              go_wp2
              go_meet
              case rel => exact HLe.out.kept
            · have t1 : (x : Int) < (m : Int) := by omega
              have t2 : ¬ (x : Int) < 70 := by omega
              clear hxl hMA hMB hl
              go_wp2
              go_meet
              case rel => exact HLe.out.kept
      case rest =>
        have HKc : Hid _ := hcut
        clear hcut HL0
        go_wp2_with fail
        refine (runs_w _).mono ?_
        rintro e w4 ⟨rfl, hk4⟩
        have HK4 : Hid _ := hk4
        clear hk4
        go_wp2
        go_ret
        exact ⟨rfl, HKc.out.trans HK4.out (fun _ _ h => h)⟩
end Go.Proofs.Ytkejnoifcfeliaa
