/- The statement on any harts and any calls; no conditions. -/
import Derived.Test.YtckbimgoepcoaaaEqs
import Derived.BigQuiet
import Derived.Deep.RegionHeld3
import Derived.Deep.CutBlock
namespace Go.Proofs.Ytckbimgoepcoaaa
open Go.RowKit

set_option maxRecDepth 100000 in
set_option maxHeartbeats 20000000 in
theorem plays_w (n : Int) (ao : Option Addr) (len cap lb off : Nat) (K A P : Nat → Int) (V : Nat → Bool) (hao : 0 < len → ao = some ⟨lb, off, none⟩) (hlc : len ≤ cap) (hm : cap ≤ 9223372036854775807) (w : World)
    (hc : ∀ i, i < len → w.cell? ⟨lb, off + i * 4, none⟩ = some (.int .i64 (K i)) ∧ w.cell? ⟨lb, off + i * 4 + 1, none⟩ = some (.int .i64 (A i)) ∧ w.cell? ⟨lb, off + i * 4 + 2, none⟩ = some (.int .i64 (P i)) ∧ w.cell? ⟨lb, off + i * 4 + 3, none⟩ = some (.bool (V i))) :
    Calls Try.prog 4 #[.int .i64 n, .slice ao len cap] w fun e w' => e = .returned (.bool true) ∧ Kept (fun _ => False) w w' := by
  have hmf := makeF
  obtain ⟨B, hB⟩ : ∃ B : Nat, w.heap.size = B := ⟨_, rfl⟩
  by_cases hn : n < 1 ∨ 8 < n
  · have G := make_g_no B (B + 1) n hn ((w.alloc (.cells #[.int .i64 n] 3)).alloc (.cells #[.pointer none] 22)) (alloc_off (alloc_at' _ hB))
    have n1 : ((w.alloc (.cells #[.int .i64 n] 3)).alloc (.cells #[.pointer none] 22)).heap[B]? = some (.cells #[.int .i64 n] 3 (0, 0)) := alloc_off (alloc_at' _ hB)
    clear hc hao
    rcases (show (n < 1) ∨ (¬ n < 1 ∧ 8 < n) by omega) with h0 | ⟨h0, h1⟩
    · as_aux_lemma =>
      have h3 : decide (n < 1) = true := by simp; omega
      go_enter Try.func4, Try.ntmps4
      go_wp2_with fail
      refine G.mono ?_
      rintro e w1 ⟨rfl, hk1⟩
      have n2 := hk1.at n1 (by simp)
      have c2 := cell_at n2 (i := 0) rfl
      have l2 := lt_at n2
      have HK1 : Hid _ := hk1
      clear hk1 n2 n1 G
      go_wp2_with fail
      refine (runs_w _).mono ?_
      rintro e w2 ⟨rfl, hk2⟩
      have HK2 : Hid _ := hk2
      clear hk2
      go_wp2
      go_ret
      exact ⟨rfl, (((((Kept.refl _ w).alloc _).alloc _).trans HK1.out (fun _ _ h => h)).alloc _).trans HK2.out (fun _ _ h => h)⟩
    · as_aux_lemma =>
      have h3 : decide (n < 1) = false := by simp; omega
      have h4 : decide ((8 : Int) < n) = true := by simp; omega
      go_enter Try.func4, Try.ntmps4
      go_wp2_with fail
      refine G.mono ?_
      rintro e w1 ⟨rfl, hk1⟩
      have n2 := hk1.at n1 (by simp)
      have c2 := cell_at n2 (i := 0) rfl
      have l2 := lt_at n2
      have HK1 : Hid _ := hk1
      clear hk1 n2 n1 G
      go_wp2_with fail
      refine (runs_w _).mono ?_
      rintro e w2 ⟨rfl, hk2⟩
      have HK2 : Hid _ := hk2
      clear hk2
      go_wp2
      go_ret
      exact ⟨rfl, (((((Kept.refl _ w).alloc _).alloc _).trans HK1.out (fun _ _ h => h)).alloc _).trans HK2.out (fun _ _ h => h)⟩
  · obtain ⟨m, rfl⟩ : ∃ m : Nat, n = m := ⟨n.toNat, by omega⟩
    have n1 : ((w.alloc (.cells #[.int .i64 m] 3)).alloc (.cells #[.pointer none] 22)).heap[B]? = some (.cells #[.int .i64 m] 3 (0, 0)) := alloc_off (alloc_at' _ hB)
    have n2 : ((w.alloc (.cells #[.int .i64 m] 3)).alloc (.cells #[.pointer none] 22)).heap[B + 1]? = some (.cells #[.pointer none] 22 (0, 0)) := hB ▸ alloc_at1 _ _ _
    have G := make_g_ok B (B + 1) m (by omega) (by omega) _ n1 n2
    have mk1 := make_bools m (by omega)
    have mk2 := make_nests m (by omega)
    have mk3 := make_boxes m (by omega)
    have h0 : ¬ (m : Int) < 1 := by omega
    have h1 : (m : Int) ≤ 8 := by omega
    have h3 : decide ((m : Int) < 1) = false := by simp; omega
    have h4 : decide ((8 : Int) < (m : Int)) = false := by simp; omega
    go_enter Try.func4, Try.ntmps4
    go_wp2_with fail
    refine G.mono ?_
    rintro e w1 ⟨rfl, ⟨p, b, hM, hp, hb, hbox⟩, hk1⟩
    have nb1 := hk1.at n1 (by omega)
    have c0 := cell_at nb1 (i := 0) rfl
    have c1 := cell_at hbox (i := 0) rfl
    have l1 := lt_at hbox
    have l0 := lt_at nb1
    have hp4 : B + 4 ≤ p := by simp [hB] at hp; omega
    have hb4 : B + 4 ≤ b := by simp [hB] at hb; omega
    clear hp hb
    have HK1 : Hid _ := hk1
    have HM : Hid _ := hM
    have HN : Hid _ := nb1
    have HX : Hid _ := hbox
    clear hk1 hM nb1 hbox n1 n2 G
    obtain ⟨D, hD⟩ : ∃ D : Nat, w1.heap.size = D := ⟨_, rfl⟩
    rw [hD] at l0 l1
    go_upto_region 7 with fail
    have k2 : Kept (fun _ => False) w1 (w1.alloc (.cells #[.int .i64 0, .int .i64 0] 27)) := (Kept.refl _ _).alloc _
    have e0 : (w1.alloc (.cells #[.int .i64 0, .int .i64 0] 27)).cell? ⟨B, 0, none⟩ = some (.int .i64 m) := cell_at (k2.at HN.out (by simp)) (i := 0) rfl
    have e1 : (w1.alloc (.cells #[.int .i64 0, .int .i64 0] 27)).heap.size = D + 1 := by simp [hD]
    have HK2 : Hid _ := k2
    clear k2 c0 c1
    generalize w1.alloc (.cells #[.int .i64 0, .int .i64 0] 27) = w2 at *
    have s1 : B < D + 1 := by omega
    have s2 : B < D + 1 + 1 := by omega
    have s3 : B < D + 1 + 1 + 1 := by omega
    have s4 : B < D + 1 + 1 + 1 + 1 := by omega
    have lp : p < D := by have := lt_at HM.out.mem; omega
    have lb' : b < D := by have := lt_at HM.out.row; omega
    go_cut [8, 9, 10, 11] from 57 to 64 (fun o1 o2 o3 o4 wr => ∃ O W N M : Nat, o1 = .slice (some ⟨O, 0, none⟩) m m ∧ o2 = .slice (some ⟨W, 0, none⟩) m m ∧ o3 = .slice (some ⟨N, 0, none⟩) m m ∧ o4 = .slice (some ⟨M, 0, none⟩) m m ∧ Geo B p b O W N M ∧ New4 O W N M m w2 wr)
    case first =>
      as_aux_lemma =>
      go_region
      all_goals (go_wp2; go_meet)
      all_goals refine ⟨_, _, _, _, rfl, rfl, rfl, rfl, ⟨by omega, by omega, by omega, by omega, by omega, by omega, by omega, by omega, by omega, by omega, by omega, by omega, by omega, by omega, by omega, by omega⟩, ?_⟩
      all_goals constructor
      all_goals first
        | exact (new4 w2 (D + 1) e1 _ _ _ _).1
        | exact (new4 w2 (D + 1) e1 _ _ _ _).2.1
        | exact (new4 w2 (D + 1) e1 _ _ _ _).2.2.1
        | exact (new4 w2 (D + 1) e1 _ _ _ _).2.2.2.1
        | exact (new4 w2 (D + 1) e1 _ _ _ _).2.2.2.2
    case rest =>
      obtain ⟨O, W, N, M, rfl, rfl, rfl, rfl, geo, h4⟩ := hcut
      have kw2 : Kept (fun _ => False) w w2 := Kept.trans (Kept.trans (((Kept.refl (fun _ => False) w).alloc _).alloc _) HK1.out (fun k hk e => by omega)) HK2.out (fun _ _ e => e)
      have S0 : Start B p b O W N M m 0 w wc := by
        have k3 := HK2.out.trans h4.kept (fun _ _ e => e)
        exact ⟨k3.at HN.out (by simp), k3.at HX.out (by simp), HM.out.kept k3 (by simp) (by simp), by rw [trues_zero]; exact h4.on, h4.was, h4.nest, h4.mail, kw2.trans h4.kept (fun _ _ e => e), hB⟩
      have HS0 : Hid _ := S0
      clear S0 kw2 h4 HK1 HK2 HN HX HM mk1 mk2 mk3 e0 e1 s1 s2 s3 s4
      go_wp2_with fail
      go_loopw [67] (fun i wr => ∃ j : Nat, j ≤ m ∧ i = .int .i64 j ∧ Start B p b O W N M m j w wr)
        (fun i _ => m - (intOf i).toNat)
      case atStart => exact ⟨0, by omega, rfl, HS0.out⟩
      case round =>
        obtain ⟨j, hj, rfl, hS⟩ := hrel
        clear HS0
        by_cases hjm : j < m
        · have t1 : (j : Int) < (m : Int) := by omega
          have c0 := cell_at hS.on (i := j) (by simpa using trues_get hjm)
          have f0 := free_at hS.on j
          have HS : Hid _ := hS.put geo
          clear hS
          go_wp2
          go_roundw
          case rel => exact ⟨j + 1, by omega, by go_num, HS.out⟩
          case measure => simp [intOf]; omega
        · have hjj : j = m := by omega
          subst hjj
          have HP0 : Hid _ := hS.plays
          clear hS
          obtain ⟨R, hR50, hRl, hRA, hRB⟩ : ∃ R : Nat, R ≤ 50 ∧ R ≤ len ∧ (len ≤ 50 → R = len) ∧ (50 < len → R = 50) := ⟨min len 50, by omega, by omega, by omega, by omega⟩
          have lp : p < O := geo.pO
          clear hj hjm
          go_upto_block 2 with fail
          go_cut [13] from 74 to 291 (fun _ wr => ∃ (hs : List H) (ws : List Bool), PlaysIn B p b O W N M j hs ws w wr)
          case first =>
            go_wp2_with fail
            go_loopw [13] (fun i wr => ∃ (r : Nat) (hs : List H) (ws : List Bool), r ≤ R ∧ i = .int .i64 r ∧ Sane r hs ∧ PlaysIn B p b O W N M j hs ws w wr)
              (fun i _ => R - (intOf i).toNat)
            case atStart => exact ⟨0, fresh j, List.replicate j false, by omega, rfl, fresh_sane j, HP0.out⟩
            case round =>
              obtain ⟨r, hs, ws, hr, rfl, hSane, hP⟩ := hrel
              clear HP0
              by_cases hrR : r < R
              · have hrl : (r : Int) < (len : Int) := by omega
                have hr50 : (r : Int) < 50 := by omega
                obtain ⟨e0, e1, e2, e3⟩ := hc r (by omega)
                have d0 := hP.kept.cell e0 (by simp)
                have d1 := hP.kept.cell e1 (by simp)
                have d2 := hP.kept.cell e2 (by simp)
                have d3 := hP.kept.cell e3 (by simp)
                obtain rfl := hao (by omega)
                have G := ask_g _ _ _ _ _ _ r (K r) (A r) (P r) (V r) hs hSane (by omega) _ (hP.laid (K r) (A r) (P r) (V r))
                obtain ⟨flen, fsane, ffair⟩ := play_facts (K r) (A r) (P r) (V r) r hs hSane
                rw [told_is] at G
                obtain ⟨q, hq⟩ : ∃ q, play (K r) (A r) (P r) (V r) hs = q := ⟨_, rfl⟩
                rw [hq] at G flen fsane ffair
                obtain ⟨s0, hs0⟩ : ∃ s0, q.o.why = s0 := ⟨_, rfl⟩
                obtain ⟨s1, hs1⟩ : ∃ s1, q.o.loc = s1 := ⟨_, rfl⟩
                obtain ⟨sb, hsb⟩ : ∃ sb, q.o.stopped = sb := ⟨_, rfl⟩
                rw [hs0, hs1, hsb] at G
                have hlen := hP.len
                have HP : Hid _ := hP
                have Hq : Hid _ := hq
                have HS : Hid (Sane r hs) := hSane
                have HF : Hid (Sane (r + 1) q.hs ∧ Fair q.o) := And.intro fsane ffair
                have HE : Hid (q.o.why = s0 ∧ q.o.loc = s1 ∧ q.o.stopped = sb) := And.intro hs0 (And.intro hs1 hsb)
                unfold laidW at G
                clear hP hq hSane fsane ffair e0 e1 e2 e3 hao hc hs0 hs1 hsb
                go_wp2_with fail
                refine G.mono ?_
                rintro e w3 ⟨rfl, ⟨hh3, hg3, ht3⟩, hk3⟩
                obtain ⟨hL, hT⟩ := HP.out.turn geo (K r) (A r) (P r) (V r) q.got q.took s0 s1 hh3 hg3 ht3 hk3
                have HL : Hid _ := hL
                have HW : Hid (Wrel hs ws) := HP.out.rel
                obtain ⟨Q, hQ⟩ : ∃ Q, wr.heap.size = Q := ⟨_, rfl⟩
                obtain ⟨T, hTT⟩ : ∃ T, w3.heap.size = T := ⟨_, rfl⟩
                rw [hQ, hTT] at hT HL
                have x1 := HL.out.QT
                have x2 : Q < T := by omega
                clear hh3 hg3 ht3 hk3 hL d0 d1 d2 d3 G HP
                go_upto_region 20 with fail
                generalize (w3.alloc (.cells #[.int .i64 s0, .int .i64 s1] 27)).alloc (.cells #[.int .i64 0, .int .i64 0] 27) = w4 at hT ⊢
                have y1 := cell_at hT.q (i := 1) rfl
                have y2 := cell_at hT.nbox (i := 0) rfl
                have HT : Hid _ := hT
                clear hT x2
                go_cut [102] from 94 to 102 (fun v wx => ∃ z : Bool, v = .bool z ∧ (z = true → A r < 0 ∨ (j : Int) ≤ A r) ∧ (z = false → 0 ≤ A r ∧ A r < (j : Int)) ∧ wx = w4)
                case first =>
                  as_aux_lemma =>
                  rcases (show A r < 0 ∨ (0 ≤ A r ∧ (j : Int) ≤ A r) ∨ (0 ≤ A r ∧ A r < (j : Int)) by omega) with h | ⟨h, h'⟩ | ⟨h, h'⟩
                  · have z1 : decide (A r < 0) = true := by simp; omega
                    go_wp2
                    go_meet
                    case rel => exact ⟨_, rfl, fun _ => by omega, (fun e => by cases e), rfl⟩
                  · have z1 : decide (A r < 0) = false := by simp; omega
                    have z2 : decide ((j : Int) ≤ A r) = true := by simp; omega
                    go_wp2
                    go_meet
                    case rel => exact ⟨_, rfl, fun _ => by omega, (fun e => by cases e), rfl⟩
                  · have z1 : decide (A r < 0) = false := by simp; omega
                    have z2 : decide ((j : Int) ≤ A r) = false := by simp; omega
                    go_wp2
                    go_meet
                    case rel => exact ⟨_, rfl, (fun e => by cases e), fun _ => by omega, rfl⟩
                case rest =>
                  obtain ⟨z, rfl, hzt, hzf, rfl⟩ := hcut
                  clear y1 y2
                  go_upto_if 102 with fail
                  go_cut [20, 21] from 103 to 233 (fun _ _ wx => ∃ ws' : List Bool, Wrel q.hs ws' ∧ Turn B p b O W N M j Q T (K r) (A r) (P r) (V r) q.got q.took s0 s1 s0 s1 q.hs (onRow q.hs) (wasRow ws') (nestRow q.hs) (boxRow q.hs) w wx)
                  case first =>
                    have hT := HT.out
                    have hL := HL.out
                    have zk := cell_at hT.q (i := 0) rfl
                    have zq := cell_at hT.q (i := 1) rfl
                    have u0 := cell_at hT.wnt (i := 0) rfl
                    have u1 := cell_at hT.wnt (i := 1) rfl
                    have v0 := free_at hT.wnt 0
                    have v1 := free_at hT.wnt 1
                    cases z
                    · obtain ⟨hz0, hz1⟩ := hzf rfl
                      clear hzt hzf
                      obtain ⟨i, hA⟩ : ∃ i : Nat, A r = i := ⟨(A r).toNat, by omega⟩
                      have hi : i < hs.length := by omega
                      have hij : (i : Int) < (j : Int) := by omega
                      rw [show (#[Value.int IntKind.i64 (K r), Value.int IntKind.i64 (A r), Value.int IntKind.i64 (P r), Value.bool (V r)] : Array Value)[1] = .int .i64 (i : Int) by simp [hA]] at zq
                      have Hq' := Hq.out
                      rw [hA] at Hq'
                      have HHq : Hid _ := Hq'
                      have HA : Hid _ := hA
                      have zn := cell_at hT.nest (i := i) (by simpa using nestRow_get hi)
                      have zo := cell_at hT.on (i := i) (by simpa using onRow_get hi)
                      have fn := free_at hT.nest i
                      have fo := free_at hT.on i
                      have HTT : Hid _ := hT
                      have HLL : Hid _ := hL
                      clear hT hL Hq Hq' hA hz0 hz1 HT HL
                      by_cases k1 : K r = 1
                      · as_aux_lemma =>
                        rw [k1] at HHq
                        by_cases hn : (hd hs i).nest = 0
                        · have zv := cell_at HTT.out.q (i := 3) rfl
                          have hn' : ((hd hs i).nest : Int) = 0 := by omega
                          go_wp2
                          go_meet
                          case rel =>
                            have hz := HTT.out.putOn HLL.out i (.bool (V r))
                            obtain ⟨r1, r2, r3⟩ := rows1 hi (V r) hn
                            obtain ⟨e1, e2, e3⟩ := HE.out
                            rw [← HHq.out, play1a hi hn] at e1 e2 hz ⊢
                            subst e1 e2
                            rw [← r1, ← r2, ← r3] at hz
                            exact ⟨ws, HW.out.set hi (fun h => absurd hn h), hz⟩
                        · have hn' : (0 : Int) < ((hd hs i).nest : Int) := by omega
                          go_wp2
                          go_meet
                          case rel =>
                            have hz := HTT.out.putWant HLL.out 9 i
                            obtain ⟨e1, e2, e3⟩ := HE.out
                            rw [← HHq.out, play1b hi hn] at e1 e2 hz ⊢
                            subst e1 e2
                            exact ⟨ws, HW.out, hz⟩
                      have n1 : (K r == 1) = false := by simp [k1]
                      by_cases k2 : K r = 2
                      · as_aux_lemma =>
                        rw [k2] at HHq
                        have hWl : i < ws.length := by rw [HW.out.1]; exact hi
                        have zw := cell_at HTT.out.was (i := i) (by simpa using wasRow_get hWl)
                        have fw := free_at HTT.out.was i
                        have hOW : ¬ O = W := geo.OW
                        have hWO : ¬ W = O := fun e => geo.OW e.symm
                        have hON : ¬ O = N := geo.ON
                        have hNO : ¬ N = O := fun e => geo.ON e.symm
                        have hWN : ¬ W = N := geo.WN
                        have hNW : ¬ N = W := fun e => geo.WN e.symm
                        have hsm : ((hd hs i).nest : Int) ≤ 50 := by have := (HS.out i hi).1; omega
                        by_cases hn : (hd hs i).nest = 0
                        · have hn' : ((hd hs i).nest : Int) = 0 := by omega
                          go_wp2
                          go_meet
                          case rel =>
                            have hz := ((HTT.out.putWas HLL.out i (.bool (hd hs i).isOn)).putOn HLL.out i (.bool false)).putNest HLL.out i (.int .i64 (((hd hs i).nest + 1 : Nat) : Int))
                            obtain ⟨r1, r2, r3⟩ := rows2 hi
                            obtain ⟨e1, e2, e3⟩ := HE.out
                            rw [← HHq.out, play2 hi] at e1 e2 hz ⊢
                            subst e1 e2
                            rw [wasRow_set, on_of_nest hn, ← r1, ← r2, ← r3] at hz
                            refine ⟨ws.set i (hd hs i).on, HW.out.push (x := ⟨(hd hs i).on, (hd hs i).nest + 1, (hd hs i).mail⟩) hi, ?_⟩
                            rw [hn] at hz ⊢
                            rw [on_of_nest hn]
                            exact hz
                        · have hn' : (((hd hs i).nest : Int) == 0) = false := by simp; omega
                          have hn'' : ¬ ((hd hs i).nest : Int) = 0 := by omega
                          go_wp2
                          go_meet
                          case rel =>
                            have hz := (HTT.out.putOn HLL.out i (.bool false)).putNest HLL.out i (.int .i64 (((hd hs i).nest + 1 : Nat) : Int))
                            obtain ⟨r1, r2, r3⟩ := rows2 hi
                            obtain ⟨e1, e2, e3⟩ := HE.out
                            rw [← HHq.out, play2 hi] at e1 e2 hz ⊢
                            subst e1 e2
                            rw [← r1, ← r2, ← r3] at hz
                            exact ⟨ws, HW.out.set hi (fun _ => HW.out.2 i hi hn), hz⟩
                      have n2 : (K r == 2) = false := by simp [k2]
                      by_cases k3 : K r = 3
                      · as_aux_lemma =>
                        rw [k3] at HHq
                        have hWl : i < ws.length := by rw [HW.out.1]; exact hi
                        have zw := cell_at HTT.out.was (i := i) (by simpa using wasRow_get hWl)
                        have hON : ¬ O = N := geo.ON
                        have hNO : ¬ N = O := fun e => geo.ON e.symm
                        have hWN : ¬ W = N := geo.WN
                        have hNW : ¬ N = W := fun e => geo.WN e.symm
                        have hsm : ((hd hs i).nest : Int) ≤ 50 := by have := (HS.out i hi).1; omega
                        by_cases hn : (hd hs i).nest = 0
                        · have hn' : ((hd hs i).nest : Int) = 0 := by omega
                          go_wp2
                          go_meet
                          case rel =>
                            have hz := HTT.out.putWant HLL.out 4 i
                            obtain ⟨e1, e2, e3⟩ := HE.out
                            rw [← HHq.out, play3a hi hn] at e1 e2 hz ⊢
                            subst e1 e2
                            exact ⟨ws, HW.out, hz⟩
                        · obtain ⟨y, hy⟩ : ∃ y, (hd hs i).nest = y + 1 := ⟨(hd hs i).nest - 1, by omega⟩
                          have zn' : wc.cell? ⟨N, i, none⟩ = some (.int .i64 ((y : Int) + 1)) := by rw [zn, hy]; rfl
                          have hn' : ((y : Int) + 1 == 0) = false := by simp; omega
                          have hn'' : ¬ (y : Int) + 1 = 0 := by omega
                          have hy50 : (y : Int) ≤ 50 := by omega
                          clear zn
                          by_cases hy0 : y = 0
                          · have hy0' : (y : Int) = 0 := by omega
                            go_wp2
                            go_meet
                            case rel =>
                              have hz := (HTT.out.putNest HLL.out i (.int .i64 ((0 : Nat) : Int))).putOn HLL.out i (.bool (wt ws i))
                              subst hy0
                              obtain ⟨r1, r2, r3⟩ := rows3a hi hy
                              obtain ⟨e1, e2, e3⟩ := HE.out
                              rw [← HHq.out, play3b hi hy] at e1 e2 hz ⊢
                              subst e1 e2
                              rw [HW.out.2 i hi hn, ← r1, ← r2, ← r3] at hz
                              rw [HW.out.2 i hi hn]
                              exact ⟨ws, HW.out.set hi (fun h => absurd rfl h), hz⟩
                          · have hy0' : ((y : Int) == 0) = false := by simp; omega
                            have hy0'' : ¬ (y : Int) = 0 := by omega
                            go_wp2
                            go_meet
                            case rel =>
                              have hz := HTT.out.putNest HLL.out i (.int .i64 (y : Int))
                              obtain ⟨r1, r2, r3⟩ := rows3b hi hy hy0
                              obtain ⟨e1, e2, e3⟩ := HE.out
                              rw [← HHq.out, play3b hi hy] at e1 e2 hz ⊢
                              subst e1 e2
                              rw [← r1, ← r2, ← r3] at hz
                              exact ⟨ws, HW.out.set hi (fun _ => HW.out.2 i hi hn), hz⟩
                      have n3 : (K r == 3) = false := by simp [k3]
                      by_cases k4 : K r = 4
                      · as_aux_lemma =>
                        rw [k4] at HHq
                        have zm := cell_at HTT.out.q (i := 2) rfl
                        by_cases hm : 0 ≤ P r ∧ P r ≤ 7
                        · obtain ⟨y, hy⟩ : ∃ y : Nat, P r = y := ⟨(P r).toNat, by omega⟩
                          have hy8 : y < 8 := by omega
                          rw [show (#[Value.int IntKind.i64 (K r), Value.int IntKind.i64 (A r), Value.int IntKind.i64 (P r), Value.bool (V r)] : Array Value)[2] = .int .i64 (y : Int) by simp [hy]] at zm
                          rw [hy] at HHq
                          have t0 : decide ((y : Int) < 0) = false := by simp
                          have t1 : decide ((7 : Int) < (y : Int)) = false := by simp; omega
                          have t2 : (y : Int) < 8 := by omega
                          have zb := cell_at HTT.out.mail (i := i * 8 + y) (by simpa using boxRow_get hs i y hi hy8)
                          have fb := free_at HTT.out.mail (i * 8 + y)
                          clear hy hm
                          go_wp2
                          go_region
                          all_goals (try go_wp2)
                          go_meet
                          case rel =>
                            have hz := (HTT.out.putMail HLL.out (i * 8 + y) (.bool true)).still (Kept.refl _ _).drew
                            obtain ⟨r1, r2, r3⟩ := rows4 hi hy8
                            obtain ⟨e1, e2, e3⟩ := HE.out
                            rw [← HHq.out, play4a hi hy8] at e1 e2 hz ⊢
                            subst e1 e2
                            rw [← r1, ← r2, ← r3] at hz
                            exact ⟨ws, HW.out.set hi (fun h => HW.out.2 i hi h), hz⟩
                        · rcases (show P r < 0 ∨ (0 ≤ P r ∧ 7 < P r) by omega) with g | ⟨g, g'⟩
                          · have t0 : decide (P r < 0) = true := by simp; omega
                            go_wp2
                            go_meet
                            case rel =>
                              have hz := HTT.out.putWant HLL.out 9 (P r)
                              obtain ⟨e1, e2, e3⟩ := HE.out
                              rw [← HHq.out, play4b hi (by omega)] at e1 e2 hz ⊢
                              subst e1 e2
                              exact ⟨ws, HW.out, hz⟩
                          · have t0 : decide (P r < 0) = false := by simp; omega
                            have t1 : decide ((7 : Int) < P r) = true := by simp; omega
                            go_wp2
                            go_meet
                            case rel =>
                              have hz := HTT.out.putWant HLL.out 9 (P r)
                              obtain ⟨e1, e2, e3⟩ := HE.out
                              rw [← HHq.out, play4b hi (by omega)] at e1 e2 hz ⊢
                              subst e1 e2
                              exact ⟨ws, HW.out, hz⟩
                      have n4 : (K r == 4) = false := by simp [k4]
                      by_cases k5 : K r = 5
                      · as_aux_lemma =>
                        rw [k5] at HHq
                        have zg := cell_at HTT.out.got (i := 0) rfl
                        have zt : wc.cell? ⟨Q + 1 + 1, 0, none⟩ = some (.bool q.took) := cell_at HTT.out.took (i := 0) rfl
                        have hc256 := (HS.out i hi).2
                        by_cases hc0 : (hd hs i).mail = 0
                        · have g1 : q.got = 0 := by rw [← HHq.out, play5a hi hc0]
                          have g2 : q.took = false := by rw [← HHq.out, play5a hi hc0]
                          rw [show (#[Value.int IntKind.i64 q.got] : Array Value)[0] = .int .i64 0 by simp [g1]] at zg
                          rw [g2] at zt
                          clear g1 g2
                          go_wp2_with fail
                          go_loopw [21] (fun v wr => ∃ y : Nat, y ≤ 8 ∧ v = .int .i64 y ∧ wr = wc)
                            (fun v _ => 8 - (intOf v).toNat)
                          case atStart => exact ⟨0, by omega, rfl, rfl⟩
                          case round =>
                            obtain ⟨y, hy, rfl, rfl⟩ := hrel
                            by_cases hy8 : y < 8
                            · have t2 : (y : Int) < 8 := by omega
                              have zb := cell_at HTT.out.mail (i := i * 8 + y) (by simpa using boxRow_get hs i y hi hy8)
                              rw [hc0, mhas_zero] at zb
                              go_wp2
                              go_roundw
                              case rel => exact ⟨y + 1, by omega, by go_num, by simp⟩
                              case measure => simp [intOf]; omega
                            · have hyy : y = 8 := by omega
                              subst hyy
                              go_wp2
                              go_meet
                              case rel =>
                                have hz := HTT.out
                                obtain ⟨e1, e2, e3⟩ := HE.out
                                rw [← HHq.out, play5a hi hc0] at e1 e2 hz ⊢
                                subst e1 e2
                                exact ⟨ws, HW.out, hz⟩
                        · obtain ⟨l8, lh, ll⟩ := mleast_low hc256 hc0
                          have g1 : q.got = mleast (hd hs i).mail := by rw [← HHq.out, play5b hi hc0]
                          have g2 : q.took = true := by rw [← HHq.out, play5b hi hc0]
                          have HZ : Hid (mleast (hd hs i).mail = mleast (hd hs i).mail) := rfl
                          obtain ⟨l, hl⟩ : ∃ l, mleast (hd hs i).mail = l := ⟨_, rfl⟩
                          rw [hl] at l8 lh ll g1
                          have HLe : Hid _ := hl
                          rw [show (#[Value.int IntKind.i64 q.got] : Array Value)[0] = .int .i64 (l : Int) by simp [g1]] at zg
                          rw [g2] at zt
                          have l8' : (l : Int) < 8 := by omega
                          clear g1 g2 HZ hl
                          have zb := cell_at HTT.out.mail (i := i * 8 + l) (by simpa using boxRow_get hs i l hi l8)
                          rw [lh] at zb
                          have fb := free_at HTT.out.mail (i * 8 + l)
                          go_wp2_with fail
                          go_loopw [21] (fun v wr => ∃ y : Nat, y ≤ l ∧ v = .int .i64 y ∧ wr = wc)
                            (fun v _ => l - (intOf v).toNat)
                          case atStart => exact ⟨0, by omega, rfl, rfl⟩
                          case round =>
                            obtain ⟨y, hy, rfl, rfl⟩ := hrel
                            by_cases hyl : y < l
                            · have t2 : (y : Int) < 8 := by omega
                              have zb' := cell_at HTT.out.mail (i := i * 8 + y) (by simpa using boxRow_get hs i y hi (by omega))
                              rw [ll y hyl] at zb'
                              go_wp2
                              go_roundw
                              case rel => exact ⟨y + 1, by omega, by go_num, by simp⟩
                              case measure => simp [intOf]; omega
                            · have hyy : y = l := by omega
                              subst hyy
                              go_wp2
                              go_meet
                              case rel =>
                                have hz := HTT.out.putMail HLL.out (i * 8 + y) (.bool false)
                                obtain ⟨r1, r2, r3⟩ := rows5 hi l8
                                obtain ⟨e1, e2, e3⟩ := HE.out
                                rw [← HHq.out, play5b hi hc0, HLe.out] at e1 e2 hz ⊢
                                subst e1 e2
                                rw [← r1, ← r2, ← r3] at hz
                                exact ⟨ws, HW.out.set hi (fun h => HW.out.2 i hi h), hz⟩
                      have n5 : (K r == 5) = false := by simp [k5]
                      go_wp2
                      go_meet
                      case rel =>
                        have hz := HTT.out
                        obtain ⟨e1, e2, e3⟩ := HE.out
                        rw [← HHq.out, play0 hi (by omega)] at e1 e2 hz ⊢
                        subst e1 e2
                        exact ⟨ws, HW.out, hz⟩
                    · as_aux_lemma =>
                      clear hzf
                      have hA := hzt rfl
                      have Hq' := Hq.out
                      rw [play_gone (by omega)] at Hq'
                      have HHq : Hid _ := Hq'
                      have HTT : Hid _ := hT
                      have HLL : Hid _ := hL
                      clear hT hL Hq Hq' HT HL
                      go_wp2
                      go_meet
                      case rel =>
                        have hz := HTT.out.putWant HLL.out 3 (A r)
                        obtain ⟨e1, e2, e3⟩ := HE.out
                        rw [← HHq.out] at e1 e2 hz ⊢
                        subst e1 e2
                        exact ⟨ws, HW.out, hz⟩
                  case rest =>
                    as_aux_lemma =>
                    obtain ⟨ws', hW2, hT2⟩ := hcut
                    obtain ⟨fS, fF⟩ := HF.out
                    have hcase : (sb = false ∧ s0 = 0 ∧ s1 = 0) ∨ (sb = true ∧ s0 ≠ 0) := by
                      obtain ⟨e1, e2, e3⟩ := HE.out
                      rcases fF with h | ⟨c, d, h, hc0⟩
                      · rw [h] at e1 e2 e3; exact .inl ⟨e3.symm, e1.symm, e2.symm⟩
                      · rw [h] at e1 e2 e3; exact .inr ⟨e3.symm, by rw [← e1]; exact hc0⟩
                    have g0 := cell_at hT2.wnt (i := 0) rfl
                    have g1 := cell_at hT2.wnt (i := 1) rfl
                    have g2 := cell_at hT2.stp (i := 0) rfl
                    have g3 := cell_at hT2.stp (i := 1) rfl
                    have hql : q.hs.length = j := by omega
                    have HP2 : Hid _ := hT2.ends HL.out hql hW2
                    have HFS : Hid _ := fS
                    clear hT2 hW2 HT HE HF Hq HS HW HL hzt hzf fF fS
                    go_upto_region 51 with fail
                    go_cut [243] from 234 to 243 (fun v wx => v = .bool false ∧ wx = wc)
                    case first =>
                      as_aux_lemma =>
                      rcases hcase with ⟨rfl, rfl, rfl⟩ | ⟨rfl, h⟩
                      · go_wp2
                        go_meet
                        case rel => exact ⟨rfl, rfl⟩
                      · have h' : (s0 == 0) = false := by simp [h]
                        go_wp2
                        go_meet
                        case rel => exact ⟨rfl, rfl⟩
                    case rest =>
                      obtain ⟨rfl, rfl⟩ := hcut
                      clear g0 g1 g2 g3 hcase
                      go_wp2_with fail
                      go_loopw [22] (fun v wr => ∃ t : Nat, t ≤ j ∧ v = .int .i64 t ∧ PlaysIn B p b O W N M j q.hs ws' w wr)
                        (fun v _ => j - (intOf v).toNat)
                      case atStart => exact ⟨0, by omega, rfl, HP2.out⟩
                      case round =>
                        obtain ⟨t, ht, rfl, hP⟩ := hrel
                        clear HP2
                        have c0 := cell_at hP.nbox (i := 0) rfl
                        by_cases htj : t < j
                        · as_aux_lemma =>
                          have t1 : (t : Int) < (j : Int) := by omega
                          have htl : t < q.hs.length := by omega
                          have hc256 := (HFS.out t htl).2
                          have cx := cell_at hP.xbox (i := 0) rfl
                          have con := cell_at hP.on (i := t) (by simpa using onRow_get htl)
                          have cne := cell_at hP.nest (i := t) (by simpa using nestRow_get htl)
                          have ON := fun n => on_ok _ _ _ t htl _ (hP.still (w' := wr.drewN n) ⟨rfl, rfl, rfl, Nat.le_refl _, fun _ _ _ => rfl⟩).harts
                          have NE := fun n => nest_ok _ _ _ t htl _ (hP.still (w' := wr.drewN n) ⟨rfl, rfl, rfl, Nat.le_refl _, fun _ _ _ => rfl⟩).harts
                          have DU := fun n => due_ok _ _ _ t htl _ (hP.still (w' := wr.drewN n) ⟨rfl, rfl, rfl, Nat.le_refl _, fun _ _ _ => rfl⟩).harts
                          have cells := fun y hy => cell_at hP.mail (i := t * 8 + y) (by simpa using boxRow_get q.hs t y htl hy)
                          have HP : Hid _ := hP
                          have HDR : Hid (∀ n, PlaysIn B p b O W N M j q.hs ws' w (wr.drewN n)) := fun n => hP.still ⟨rfl, rfl, rfl, Nat.le_refl _, fun _ _ _ => rfl⟩
                          clear hP
                          generalize (hd q.hs t).isOn = bI at *
                          generalize (hd q.hs t).nest = nn at *
                          obtain ⟨c, hcm⟩ : ∃ c, (hd q.hs t).mail = c := ⟨_, rfl⟩
                          rw [hcm] at hc256
                          simp only [hcm] at cells DU
                          have all := anyTo_all hc256
                          rw [← all] at DU
                          have b0 := cells 0 (by omega)
                          have b1 := cells 1 (by omega)
                          have b2 := cells 2 (by omega)
                          have b3 := cells 3 (by omega)
                          have b4 := cells 4 (by omega)
                          have b5 := cells 5 (by omega)
                          have b6 := cells 6 (by omega)
                          have b7 := cells 7 (by omega)
                          rw [Nat.add_zero] at b0
                          have HON : Hid _ := ON
                          have HNE : Hid _ := NE
                          have HDU : Hid _ := DU
                          clear cells ON NE DU hcm all
                          go_wp2_with fail
                          go_loopw [23, 253] (fun x v wx => ∃ y : Nat, y ≤ 8 ∧ v = .int .i64 y ∧ x = .bool (anyTo c y) ∧ wx = wr)
                            (fun _ v _ => 8 - (intOf v).toNat)
                          case atStart => exact ⟨0, by omega, rfl, rfl, rfl⟩
                          case round =>
                            obtain ⟨y, hy, rfl, rfl, rfl⟩ := hrel
                            by_cases hy8 : y < 8
                            · have t2 : (y : Int) < 8 := by omega
                              have ix := index_box c y hy8
                              have asu := anyTo_succ c y
                              cases hb : anyTo c y
                              · rw [hb, Bool.false_or] at asu
                                clear b0 b1 b2 b3 b4 b5 b6 b7
                                go_wp2
                                go_roundw
                                case rel => exact ⟨y + 1, by omega, by go_num, by rw [asu], by simp⟩
                                case measure => simp [intOf]; omega
                              · rw [hb, Bool.true_or] at asu
                                clear b0 b1 b2 b3 b4 b5 b6 b7
                                go_wp2
                                go_roundw
                                case rel => exact ⟨y + 1, by omega, by go_num, by rw [asu], by simp⟩
                                case measure => simp [intOf]; omega
                            · have hyy : y = 8 := by omega
                              subst hyy
                              clear b0 b1 b2 b3 b4 b5 b6 b7
                              have DUo := HDU.out
                              have ONo := HON.out
                              have NEo := HNE.out
                              clear HON HNE HDU
                              generalize anyTo c 8 = dv at DUo ⊢
                              have ON := fun n => Calls.quiet_of_same (ONo n)
                              have NE := fun n => Calls.quiet_of_same (NEo n)
                              have DU := fun n => Calls.quiet_of_same (DUo n)
                              clear ONo NEo DUo
                              cases bI
                              · simp only [Bool.false_and] at DU
                                go_wp2
                                go_quiet (first
                                  | (go_at_call 10; exact ON _)
                                  | (go_at_call 19; exact NE _)
                                  | (go_at_call 18; exact DU _))
                                have HQ : Hid _ := HDR.out nq
                                clear HDR ON NE DU HP
                                go_wp2
                                go_roundw
                                case rel => exact ⟨t + 1, by omega, by go_num, HQ.out⟩
                                case measure => simp [intOf]; omega
                              · simp only [Bool.true_and] at DU
                                cases dv
                                · go_wp2
                                  go_quiet (first
                                    | (go_at_call 10; exact ON _)
                                    | (go_at_call 19; exact NE _)
                                    | (go_at_call 18; exact DU _))
                                  have HQ : Hid _ := HDR.out nq
                                  clear HDR ON NE DU HP
                                  go_wp2
                                  go_roundw
                                  case rel => exact ⟨t + 1, by omega, by go_num, HQ.out⟩
                                  case measure => simp [intOf]; omega
                                · go_wp2
                                  go_quiet (first
                                    | (go_at_call 10; exact ON _)
                                    | (go_at_call 19; exact NE _)
                                    | (go_at_call 18; exact DU _))
                                  have HQ : Hid _ := HDR.out nq
                                  clear HDR ON NE DU HP
                                  go_wp2
                                  go_roundw
                                  case rel => exact ⟨t + 1, by omega, by go_num, HQ.out⟩
                                  case measure => simp [intOf]; omega
                        · have htt : t = j := by omega
                          subst htt
                          have HP : Hid _ := hP
                          clear hP
                          go_wp2
                          go_roundw
                          case rel => exact ⟨r + 1, q.hs, ws', by omega, by go_num, HFS.out, HP.out⟩
                          case measure => simp [intOf]; omega
              · as_aux_lemma =>
                have hrr : r = R := by omega
                subst hrr
                clear hc
                have HP : Hid _ := hP
                clear hP hSane
                rcases (show (len ≤ 50 ∧ r = len) ∨ (50 < len ∧ r = 50) by omega) with ⟨hl, hrl⟩ | ⟨hl, hrl⟩
                · have t1 : ¬ (r : Int) < (len : Int) := by omega
                  clear hrl hRA hRB hl
                  go_wp2
                  go_meet
                  case rel => exact ⟨hs, ws, HP.out⟩
                · have t1 : (r : Int) < (len : Int) := by omega
                  have t2 : ¬ (r : Int) < 50 := by omega
                  clear hrl hRA hRB hl
                  go_wp2
                  go_meet
                  case rel => exact ⟨hs, ws, HP.out⟩
          case rest =>
            as_aux_lemma =>
            obtain ⟨hs, ws, hP⟩ := hcut
            clear HP0 hc hao
            have c0 := cell_at hP.nbox (i := 0) rfl
            have c1 := cell_at hP.xbox (i := 0) rfl
            have NN := n_w _ _ _ _ (hP.still (Kept.refl (fun _ => False) wc).drew).harts
            rw [hP.len] at NN
            have RU := runs_w wc.drew
            have HP : Hid _ := hP
            clear hP
            go_wp2_with fail
            go_region_held3 (fun w' => w'.cell? ⟨B, 0, none⟩ = some (.int .i64 j) ∧ w'.cell? ⟨B + 1, 0, none⟩ = some (.pointer (some ⟨p, 0, none⟩))) (simp [*])
              (first
                | (go_at_call 20; refine NN.mono ?_; rintro e w5 ⟨rfl, rfl⟩)
                | (go_at_call 3; refine RU.mono ?_; rintro e w6 ⟨rfl, k6⟩; have g0 := cell_at (k6.at ((HP.out.still (Kept.refl (fun _ => False) wc).drew).nbox) (by simp)) (i := 0) rfl; have g1 := cell_at (k6.at ((HP.out.still (Kept.refl (fun _ => False) wc).drew).xbox) (by simp)) (i := 0) rfl))
            have HK6 : Hid (Kept (fun _ => False) w w6) := (HP.out.kept.trans (Kept.refl (fun _ => False) wc).drew (fun _ _ e => e)).trans k6 (fun _ _ e => e)
            clear k6 g0 g1 HP RU NN
            go_wp2
            go_ret
            exact ⟨rfl, HK6.out⟩
end Go.Proofs.Ytckbimgoepcoaaa
