/- The statement on any calls; no conditions. -/
import Derived.Test.YtkmfeenooidbhaaHall
import Derived.Test.YtkmfeenooidbhaaAsks
import Derived.Deep.CutBlock
namespace Go.Proofs.Ytkmfeenooidbhaa
open Go.RowKit

set_option maxRecDepth 100000 in
set_option maxHeartbeats 1600000 in
theorem plays_w (n : Int) (ao : Option Addr) (len cap lb off : Nat) (Q : Nat → Q3) (hao : 0 < len → ao = some ⟨lb, off, none⟩) (w : World)
    (hc : ∀ i, i < len → w.cell? ⟨lb, off + i * 3, none⟩ = some (.int .i64 (Q i).who) ∧ w.cell? ⟨lb, off + i * 3 + 1, none⟩ = some (.int .i64 (Q i).r) ∧ w.cell? ⟨lb, off + i * 3 + 2, none⟩ = some (.bool (Q i).b))
    (hw : ∀ i, i < len → (Lit.int .i64 (Q i).r).wf = true) :
    Calls Try.prog 4 #[.int .i64 n, .slice ao len cap] w fun e w' => e = .returned (.bool true) ∧ Kept (fun _ => False) w w' := by
  obtain ⟨B, hB⟩ : ∃ B : Nat, w.heap.size = B := ⟨_, rfl⟩
  obtain ⟨k, hk, hk1, hk5⟩ : ∃ k : Nat, 1 + n % (5 - 1 + 1) = k ∧ 1 ≤ k ∧ k ≤ 5 := ⟨(1 + n % 5).toNat, by omega, by omega, by omega⟩
  have hmm := @run_makeMap Try.prog
  have hmf := makeF
  have HC : Hid _ := hc
  have HW : Hid _ := hw
  clear hc hw
  go_enter Try.func4, Try.ntmps4
  go_wp2_with fail
  refine (within_any n 1 5 (by decide) (by decide) (by decide) _).mono ?_
  rintro e w1 ⟨rfl, rfl⟩
  simp only [hk]
  clear hk
  have NW := new_ok k hk1 (by omega) w1
  rw [hB] at NW
  go_wp2_with fail
  refine NW.mono ?_
  rintro e w2 ⟨rfl, hH, hk2, hs2⟩
  clear NW
  have R0 : Room B 0 _ _ w1 (w2.alloc (.cells #[.pointer (some ⟨B + 1, 0, none⟩)] 22)) := ⟨hH.still ((Kept.refl _ _).alloc _), alloc_at' _ hs2, hk2.alloc _, by omega⟩
  have HL0 : Hid (Hall B 0 (List.replicate k (.slice none 0 0)) (List.replicate k []) (.map []) w1 ((w2.alloc (.cells #[.pointer (some ⟨B + 1, 0, none⟩)] 22)).alloc (.map #[] 0))) := by
    refine ⟨R0.still ((Kept.refl _ _).alloc _), ?_⟩
    have := World.ownsMap_made (H := Unit) (w2.alloc (.cells #[.pointer (some ⟨B + 1, 0, none⟩)] 22)) Try.prog 3 (plainElem Try.prog 3)
    rw [show (w2.alloc (.cells #[.pointer (some ⟨B + 1, 0, none⟩)] 22)).heap.size = B + 3 by simp [hs2]] at this
    exact this
  clear R0 hH hk2
  go_wp2_with fail
  rw [show B + 2 + 1 = B + 3 from rfl]
  go_loopw [8] (fun i wr => ∃ (j : Nat) (vs : List Value) (ls : List (List Int)) (D : Dat), i = .int .i64 j ∧ j ≤ len ∧ j ≤ 60 ∧ vs.length = k ∧ ls.length = k ∧ Hid (Hall B (2 * j) vs ls D w1 wr ∧ Tied D ls ∧ Wf ls)) (fun i _ => 60 - (intOf i).toNat)
  case atStart => exact ⟨0, _, _, _, rfl, Nat.zero_le _, Nat.zero_le _, by simp, by simp, HL0.out, Tied.empty k, fun i x hi hx => by rw [ld_empty] at hx; simp at hx⟩
  case round =>
    obtain ⟨j, vs, ls, D, rfl, hjl, hj60, hvl, hll, HH⟩ := hrel
    clear HL0
    by_cases hlt : j < len ∧ j < 60
    · obtain ⟨hj1, hj2⟩ := hlt
      obtain ⟨c0, c1, c2⟩ := HC.out j hj1
      have hwf : Hid _ := HW.out j hj1
      obtain ⟨who, r, b, hq⟩ : ∃ who r b, Q j = ⟨who, r, b⟩ := ⟨_, _, _, rfl⟩
      simp only [hq] at c0 c1 c2 hwf
      clear hq
      replace c0 := HH.out.1.room.kept.cell c0 (fun x => x)
      replace c1 := HH.out.1.room.kept.cell c1 (fun x => x)
      replace c2 := HH.out.1.room.kept.cell c2 (fun x => x)
      obtain rfl := hao (by omega)
      clear hao HC HW
      have t1 : (j : Int) < (len : Int) := by omega
      have t2 : (j : Int) < 60 := by omega
      obtain ⟨E, hE⟩ : ∃ E : Nat, wr.heap.size = E := ⟨_, rfl⟩
      have hq3 : (wr.alloc (.cells #[.int .i64 who, .int .i64 r, .bool b] 38)).heap[E]? = some (.cells #[.int .i64 who, .int .i64 r, .bool b] 38 (0, 0)) := alloc_at' _ hE
      have HL3 : Hid _ := HH.out.1.still (w' := wr.alloc (.cells #[.int .i64 who, .int .i64 r, .bool b] 38)) ((Kept.refl _ _).alloc _)
      have HT : Hid _ := And.intro HH.out.2.1 (And.intro HH.out.2.2 HH.out.1.room.held.good)
      have A := ask_g B (2 * j) E vs ls who r b w1 _ (by omega) (by omega) HL3.out.room hq3
      clear HH
      go_wp2_with fail
      refine A.mono ?_
      rintro e w4 ⟨rfl, hL⟩
      obtain ⟨vs4, l4, H4, k4⟩ := HL3.out.left hL
      have hq4 := k4.at hq3 (HL3.out.room.held.off hq3 (by decide) (by decide))
      rw [hvl] at l4
      clear A hL HL3 hq3 c0 c1 c2 k4 hvl
      obtain ⟨sa, sb, hsab⟩ := told_agg (playOut b ls who r)
      rw [hsab]
      have HS : Hid _ := hsab
      clear hsab
      obtain ⟨S, hS⟩ : ∃ S : Nat, w4.heap.size = S := ⟨_, rfl⟩
      have HS5 : Hid ((w4.alloc (.cells #[.int .i64 sa, .int .i64 sb] 26)).heap[S]? = some (.cells #[.int .i64 sa, .int .i64 sb] 26 (0, 0))) := alloc_at' _ hS
      have HL5 : Hid _ := H4.still (w' := w4.alloc (.cells #[.int .i64 sa, .int .i64 sb] 26)) ((Kept.refl _ _).alloc _)
      have hq5 : (w4.alloc (.cells #[.int .i64 sa, .int .i64 sb] 26)).heap[E]? = some (.cells #[.int .i64 who, .int .i64 r, .bool b] 38 (0, 0)) := alloc_off hq4
      have LK := look_is HL5.out.map HT.out.1 hwf.out
      have d0 := cell_at hq4 (i := 0) rfl
      have d1 := cell_at hq4 (i := 1) rfl
      have d2 := cell_at hq4 (i := 2) rfl
      have tE : E < S := by have := lt_at hq4; omega
      have HQ5 : Hid _ := hq5
      clear hq4 hq5 H4
      go_wp2_with (at_range; refine wpList_range_own _ rfl _ 36 rfl 3 3 law Try.underlying36 _ (B + 3) _ D rfl HL5.out.map ?_; intro w6 hrg6 hg6 hs6)
      go_frame
      have K6 : Kept (fun _ => False) (w4.alloc (.cells #[.int .i64 sa, .int .i64 sb] 26)) w6 := Kept.grown (Kept.refl _ _) hg6 (fun k e _ => by cases e)
      rw [show (w4.alloc (.cells #[.int .i64 sa, .int .i64 sb] 26)).heap.size = S + 1 by simp [hS]] at hrg6 hs6 ⊢
      have hs5 : (w4.alloc (.cells #[.int .i64 sa, .int .i64 sb] 26)).heap.size = S + 1 := by simp [hS]
      have HG6 : Hid (w6.ranges Try.prog 3 (plainElem Try.prog 3) (B + 3) (S + 1) (2 * j + 1) D (Maps.has D) (Maps.size D)) := hrg6
      have HK6 : Hid _ := K6
      clear d0 d1 d2 LK hg6 hrg6 K6
      generalize w4.alloc (.cells #[.int .i64 sa, .int .i64 sb] 26) = w5 at HL5 HS5 HQ5 HK6 hs5
      go_loopw [14] (fun v wq => ∃ (left : Lit → Bool) (cnt : Nat) (ab : Bool), v = .bool ab ∧ Hid (wq.ranges Try.prog 3 (plainElem Try.prog 3) (B + 3) (S + 1) (2 * j + 1) D left cnt ∧ Abv ls who r left ab ∧ Kept (fun _ => False) w5 wq)) (fun _ wq => wq.rangeLeft (B + 3) (S + 1))
      case atStart => exact ⟨_, _, _, rfl, HG6.out, abv_start HT.out.1 who r, HK6.out⟩
      case round =>
        obtain ⟨left, cnt, ab, rfl, HR⟩ := hrel
        clear HG6 HK6
        go_wp2_with (at_next; refine wpList_next_ranges_ii _ rfl _ rfl 3 3 .i64 .i64 law Try.underlying3 Try.underlying3 (B + 3) (S + 1) (2 * j + 1) D left cnt rfl HR.out.1 ?done ?more)
        case more =>
          as_aux_lemma =>
          intro x c w7 cnt7 hwx hwc hl hat hrg7 hlt7 hg7 hs7 hen
          have HN : Hid _ := abv_step HT.out.1 HT.out.2.2 HR.out.2.1 hl hat
          have K7 : Kept (fun _ => False) w5 w7 := Kept.trans HR.out.2.2 (Kept.grown (X := fun k => k = S + 1) (Kept.refl _ wr) hg7 (fun k e _ => by simpa using e.symm)) (fun k hk e => by omega)
          have d0 := cell_at (K7.at HQ5.out (fun x => x)) (i := 0) rfl
          have d1 := cell_at (K7.at HQ5.out (fun x => x)) (i := 1) rfl
          have HG7 : Hid (w7.ranges Try.prog 3 (plainElem Try.prog 3) (B + 3) (S + 1) (2 * j + 1) D (fun z => left z && !z.sameKey (kt x)) cnt7) := hrg7
          have HK7 : Hid _ := K7
          have HM : Hid (w7.rangeLeft (B + 3) (S + 1) < wr.rangeLeft (B + 3) (S + 1)) := by
            show _ < _
            rw [HG7.out.left_eq, HR.out.1.left_eq]; exact hlt7
          clear hrg7 hg7 hlt7 hl hat hwx hwc K7 hs7
          rcases ab with _ | _
          · go_wp2
            go_roundw
            case rel => exact ⟨_, cnt7, false, rfl, HG7.out, by have := HN.out; rwa [Bool.false_and] at this, HK7.out⟩
            case measure => exact HM.out
          · by_cases hcw : c = who
            · have hd1 : (c == who) = true := by simpa using hcw
              by_cases hxr : x < r
              · go_wp2
                go_roundw
                case rel => exact ⟨_, cnt7, true, rfl, HG7.out, by have := HN.out; rwa [show (true && (decide (c ≠ who) || decide (x < r))) = true by simp [hxr]] at this, HK7.out⟩
                case measure => exact HM.out
              · have hd2 : decide (x < r) = false := by simpa using hxr
                go_wp2
                go_roundw
                case rel => exact ⟨_, cnt7, false, rfl, HG7.out, by have := HN.out; rwa [show (true && (decide (c ≠ who) || decide (x < r))) = false by rw [hd2]; simp [hcw]] at this, HK7.out⟩
                case measure => exact HM.out
            · have hd1 : (c == who) = false := by simpa using hcw
              go_wp2
              go_roundw
              case rel => exact ⟨_, cnt7, true, rfl, HG7.out, by have := HN.out; rwa [show (true && (decide (c ≠ who) || decide (x < r))) = true by simp [hcw]] at this, HK7.out⟩
              case measure => exact HM.out
        case done =>
          intro _ hl0
          have HL9 : Hid _ := HL5.out.still HR.out.2.2
          have HS9 : Hid _ := HR.out.2.2.at HS5.out (fun x => x)
          have HQ9 : Hid _ := HR.out.2.2.at HQ5.out (fun x => x)
          have HAB : Hid (∀ i : Nat, i < ls.length → who = i → ab = decide (top (ld ls i) < r)) := fun i hi e => abv_end HT.out.2.2 hi (e ▸ HR.out.2.1) hl0
          have q0 := cell_at HQ9.out (i := 0) rfl
          have q1 := cell_at HQ9.out (i := 1) rfl
          have q2 := cell_at HQ9.out (i := 2) rfl
          obtain ⟨T, hT⟩ : ∃ T : Nat, wr.heap.size = T := ⟨_, rfl⟩
          have tET : E < T := by have := lt_at HQ9.out; omega
          clear HR hl0 HL5 HS5 HQ5 hs5 tE
          generalize hgb : hd ls r = hb
          generalize hgv : lk ls r = lv
          generalize hgs : (playOut b ls who r).stopped = st
          have HB : Hid _ := hgb
          have HV : Hid _ := hgv
          have HST : Hid _ := hgs
          clear hgb hgv hgs
          go_upto_block 4 with fail
          go_cut [91] from 86 to 136 (fun _ wx => ∃ D' : Dat, Hid (Hall B (2 * j + 1 + 1) vs4 (playTo b ls who r) D' w1 wx ∧ Tied D' (playTo b ls who r) ∧ wx.heap[T]? = some (.cells #[.int .i64 sa, .int .i64 sb] 26 (0, 0)) ∧ wx.heap[S]? = some (.cells #[.int .i64 sa, .int .i64 sb] 26 (0, 0)) ∧ wx.heap[E]? = some (.cells #[.int .i64 who, .int .i64 r, .bool b] 38 (0, 0))))
          case first =>
            as_aux_lemma =>
            rcases play_cases b ls who r with ⟨hA, hout, hto⟩ | ⟨i, hwi, hi, hB⟩
            · have e := HS.out
              rw [hout] at e
              simp only [Out.told, stopV, Value.agg.injEq, Array.mk.injEq, List.cons.injEq, Value.int.injEq, true_and, and_true] at e
              have HE : Hid _ := e
              clear e
              have HF : Hid (∃ D' : Dat, Hid (Hall B (2 * j + 1 + 1) vs4 (playTo b ls who r) D' w1 (wr.alloc (.cells #[.int .i64 sa, .int .i64 sb] 26)) ∧ Tied D' (playTo b ls who r) ∧ (wr.alloc (.cells #[.int .i64 sa, .int .i64 sb] 26)).heap[T]? = some (.cells #[.int .i64 sa, .int .i64 sb] 26 (0, 0)) ∧ (wr.alloc (.cells #[.int .i64 sa, .int .i64 sb] 26)).heap[S]? = some (.cells #[.int .i64 sa, .int .i64 sb] 26 (0, 0)) ∧ (wr.alloc (.cells #[.int .i64 sa, .int .i64 sb] 26)).heap[E]? = some (.cells #[.int .i64 who, .int .i64 r, .bool b] 38 (0, 0)))) :=
                ⟨D, (HL9.out.still ((Kept.refl _ _).alloc _)).more (Nat.le_succ _), hto.symm ▸ HT.out.1, alloc_at' _ hT, alloc_off HS9.out, alloc_off HQ9.out⟩
              rw [hll] at hA
              clear hout hto
              by_cases h0 : who < 0
              · go_wp2
                go_meet
                case rel => obtain ⟨rfl, rfl⟩ := HE.out; exact HF.out
              · have h1 : (k : Int) ≤ who := by omega
                go_wp2
                go_meet
                case rel => obtain ⟨rfl, rfl⟩ := HE.out; exact HF.out
            · have h0 : (0 : Int) ≤ who := by omega
              have h1 : who < (k : Int) := by omega
              have HWI : Hid _ := hwi
              have HI : Hid _ := hi
              clear hwi hi
              rcases hB with ⟨rfl, hr, hout, hto⟩ | ⟨rfl, hr, hout, hto⟩ | ⟨rfl, hr, hout, hto⟩ | ⟨rfl, hr, ho, hout, hto⟩ | ⟨rfl, hr, ho, hout, hto⟩
              · have e := HS.out
                rw [hout] at e
                simp only [Out.told, stopV, Value.agg.injEq, Array.mk.injEq, List.cons.injEq, Value.int.injEq, true_and, and_true] at e
                have HE : Hid _ := e
                clear e
                have HF : Hid (∃ D' : Dat, Hid (Hall B (2 * j + 1 + 1) vs4 (playTo true ls who r) D' w1 (wr.alloc (.cells #[.int .i64 sa, .int .i64 sb] 26)) ∧ Tied D' (playTo true ls who r) ∧ (wr.alloc (.cells #[.int .i64 sa, .int .i64 sb] 26)).heap[T]? = some (.cells #[.int .i64 sa, .int .i64 sb] 26 (0, 0)) ∧ (wr.alloc (.cells #[.int .i64 sa, .int .i64 sb] 26)).heap[S]? = some (.cells #[.int .i64 sa, .int .i64 sb] 26 (0, 0)) ∧ (wr.alloc (.cells #[.int .i64 sa, .int .i64 sb] 26)).heap[E]? = some (.cells #[.int .i64 who, .int .i64 r, .bool true] 38 (0, 0)))) :=
                  ⟨D, (HL9.out.still ((Kept.refl _ _).alloc _)).more (Nat.le_succ _), hto.symm ▸ HT.out.1, alloc_at' _ hT, alloc_off HS9.out, alloc_off HQ9.out⟩
                clear hout hto
                rcases hb with _ | _
                · go_wp2
                  go_meet
                  case rel => obtain ⟨rfl, rfl⟩ := HE.out; exact HF.out
                · have hne : (lv == who) = false := by
                    rcases ownr_is ls r with ⟨e, _⟩ | ⟨m, hm, e, hrm⟩
                    · have := (lk_none e).2; rw [HB.out] at this; cases this
                    · have h2 := (lk_some e).1
                      rw [HV.out] at h2
                      rw [h2, HWI.out]
                      have : (m : Int) ≠ (i : Int) := fun e3 => hr (by rw [show i = m by omega]; exact hrm)
                      simpa using this
                  clear hr
                  go_wp2
                  go_meet
                  case rel => obtain ⟨rfl, rfl⟩ := HE.out; exact HF.out
              · have e := HS.out
                rw [hout] at e
                simp only [Out.told, stopV, Value.agg.injEq, Array.mk.injEq, List.cons.injEq, Value.int.injEq, true_and, and_true] at e
                have HE : Hid _ := e
                clear e
                have hown : ownr ls r = i := ownr_at HT.out.2.2 HI.out hr
                have hbb : hb = true := by rw [← HB.out]; exact (lk_some hown).2
                have hne : (lv == who) = true := by
                  have h2 := (lk_some hown).1
                  rw [HV.out] at h2
                  rw [h2, HWI.out]; simp
                have HTO : Hid _ := hto
                have HRM : Hid _ := hr
                clear hout hto hr hown
                subst hbb
                go_wp2_with (at_delete; refine wpList_delete_own _ rfl _ _ 36 3 rfl 3 law Try.underlying36 _ (B + 3) _ D rfl (HL9.out.map.alloc _) _ _ rfl (keyIs hwf.out) ?_; intro w10 hm10 ht10)
                go_meet
                case rel =>
                  have hZ := HL9.out.still (w' := wr.alloc (.cells #[.int .i64 0, .int .i64 0] 26)) ((Kept.refl _ _).alloc _)
                  obtain ⟨hP, hK⟩ := hZ.put (M := 2 * j + 1 + 1) (hm10.mono (Nat.le_succ _)) ht10 (Nat.le_succ _)
                  have b1 := alloc_at' (w := wr) (.cells #[.int .i64 0, .int .i64 0] 26) hT
                  have b2 := alloc_off (o := .cells #[.int .i64 0, .int .i64 0] 26) HS9.out
                  have b3 := alloc_off (o := .cells #[.int .i64 0, .int .i64 0] 26) HQ9.out
                  have hTied := HT.out.1.drop hZ.tidy HT.out.2.2 HI.out HRM.out
                  rw [← HTO.out] at hTied
                  obtain ⟨rfl, rfl⟩ := HE.out
                  exact ⟨_, hP, hTied, hK.at b1 (cells_off_map hZ.map b1), hK.at b2 (cells_off_map hZ.map b2), hK.at b3 (cells_off_map hZ.map b3)⟩
              · have e := HS.out
                rw [hout] at e
                simp only [Out.told, stopV, Value.agg.injEq, Array.mk.injEq, List.cons.injEq, Value.int.injEq, true_and, and_true] at e
                have HE : Hid _ := e
                clear e
                have HF : Hid (∃ D' : Dat, Hid (Hall B (2 * j + 1 + 1) vs4 (playTo false ls who r) D' w1 (wr.alloc (.cells #[.int .i64 sa, .int .i64 sb] 26)) ∧ Tied D' (playTo false ls who r) ∧ (wr.alloc (.cells #[.int .i64 sa, .int .i64 sb] 26)).heap[T]? = some (.cells #[.int .i64 sa, .int .i64 sb] 26 (0, 0)) ∧ (wr.alloc (.cells #[.int .i64 sa, .int .i64 sb] 26)).heap[S]? = some (.cells #[.int .i64 sa, .int .i64 sb] 26 (0, 0)) ∧ (wr.alloc (.cells #[.int .i64 sa, .int .i64 sb] 26)).heap[E]? = some (.cells #[.int .i64 who, .int .i64 r, .bool false] 38 (0, 0)))) :=
                  ⟨D, (HL9.out.still ((Kept.refl _ _).alloc _)).more (Nat.le_succ _), hto.symm ▸ HT.out.1, alloc_at' _ hT, alloc_off HS9.out, alloc_off HQ9.out⟩
                have ha : ab = false := by rw [HAB.out i HI.out HWI.out]; simpa using hr
                clear hout hto hr
                subst ha
                go_wp2
                go_meet
                case rel => obtain ⟨rfl, rfl⟩ := HE.out; exact HF.out
              · have e := HS.out
                rw [hout] at e
                simp only [Out.told, stopV, Value.agg.injEq, Array.mk.injEq, List.cons.injEq, Value.int.injEq, true_and, and_true] at e
                have HE : Hid _ := e
                clear e
                have HF : Hid (∃ D' : Dat, Hid (Hall B (2 * j + 1 + 1) vs4 (playTo false ls who r) D' w1 (wr.alloc (.cells #[.int .i64 sa, .int .i64 sb] 26)) ∧ Tied D' (playTo false ls who r) ∧ (wr.alloc (.cells #[.int .i64 sa, .int .i64 sb] 26)).heap[T]? = some (.cells #[.int .i64 sa, .int .i64 sb] 26 (0, 0)) ∧ (wr.alloc (.cells #[.int .i64 sa, .int .i64 sb] 26)).heap[S]? = some (.cells #[.int .i64 sa, .int .i64 sb] 26 (0, 0)) ∧ (wr.alloc (.cells #[.int .i64 sa, .int .i64 sb] 26)).heap[E]? = some (.cells #[.int .i64 who, .int .i64 r, .bool false] 38 (0, 0)))) :=
                  ⟨D, (HL9.out.still ((Kept.refl _ _).alloc _)).more (Nat.le_succ _), hto.symm ▸ HT.out.1, alloc_at' _ hT, alloc_off HS9.out, alloc_off HQ9.out⟩
                have ha : ab = true := by rw [HAB.out i HI.out HWI.out]; simpa using hr
                have hbb : hb = true := by
                  rcases ownr_is ls r with ⟨e, _⟩ | ⟨m, hm, e, _⟩
                  · exact absurd e ho
                  · rw [← HB.out]; exact (lk_some e).2
                clear hout hto hr ho
                subst ha hbb
                go_wp2
                go_meet
                case rel => obtain ⟨rfl, rfl⟩ := HE.out; exact HF.out
              · have e := HS.out
                rw [hout] at e
                simp only [Out.told, stopV, Value.agg.injEq, Array.mk.injEq, List.cons.injEq, Value.int.injEq, true_and, and_true] at e
                have HE : Hid _ := e
                clear e
                have ha : ab = true := by rw [HAB.out i HI.out HWI.out]; simpa using hr
                have hbb : hb = false := by rw [← HB.out]; exact (lk_none ho).2
                have HTO : Hid _ := hto
                have HO : Hid _ := ho
                clear hout hto hr ho
                subst ha hbb
                go_wp2_with (at_mapUpdate; refine wpList_mapUpdate_in _ rfl _ _ _ 36 rfl 3 3 law Try.underlying36 _ (B + 3) _ D rfl (HL9.out.map.alloc _) (by unfold maxLen; omega) _ _ _ rfl rfl (keyIs hwf.out) _ [] (plainElem_int Try.underlying3 (wf_key (by omega))) ?_; intro w10 hm10 ht10)
                go_meet
                case rel =>
                  have hZ := HL9.out.still (w' := wr.alloc (.cells #[.int .i64 0, .int .i64 0] 26)) ((Kept.refl _ _).alloc _)
                  obtain ⟨hP, hK⟩ := hZ.put (M := 2 * j + 1 + 1) hm10 ht10 (Nat.le_succ _)
                  have b1 := alloc_at' (w := wr) (.cells #[.int .i64 0, .int .i64 0] 26) hT
                  have b2 := alloc_off (o := .cells #[.int .i64 0, .int .i64 0] 26) HS9.out
                  have b3 := alloc_off (o := .cells #[.int .i64 0, .int .i64 0] 26) HQ9.out
                  have hTied := HT.out.1.take hZ.tidy HI.out HO.out
                  rw [← HTO.out, ← HWI.out] at hTied
                  obtain ⟨rfl, rfl⟩ := HE.out
                  exact ⟨_, hP, hTied, hK.at b1 (cells_off_map hZ.map b1), hK.at b2 (cells_off_map hZ.map b2), hK.at b3 (cells_off_map hZ.map b3)⟩
          case rest =>
            as_aux_lemma =>
            obtain ⟨D', HC⟩ := hcut
            have s0 := cell_at HC.out.2.2.2.1 (i := 0) rfl
            have s1 := cell_at HC.out.2.2.2.1 (i := 1) rfl
            have v0 := cell_at HC.out.2.2.1 (i := 0) rfl
            have v1 := cell_at HC.out.2.2.1 (i := 1) rfl
            clear HL9 HS9 HQ9 q0 q1 q2 HAB
            go_upto_region 29 with fail
            go_cut [146] from 137 to 146 (fun v wx => v = .bool false ∧ wx = wc)
            case first =>
              rcases play_told HS.out HST.out with ⟨rfl, rfl, rfl⟩ | ⟨rfl, hsa⟩
              · clear HC HS HST HT HB HV
                go_wp2
                go_meet
                case rel => exact ⟨rfl, rfl⟩
              · have hsb : (sa == 0) = false := by simpa using hsa
                clear HC HS HST HT HB HV hsa
                go_wp2
                go_meet
                case rel => exact ⟨rfl, rfl⟩
            case rest =>
              as_aux_lemma =>
              obtain ⟨rfl, rfl⟩ := hcut
              have HWF : Hid (Wf (playTo b ls who r)) := HT.out.2.1.play hwf.out b who
              have hl' : (playTo b ls who r).length = k := by rw [playTo_len]; exact hll
              clear HS HST HT HB HV s0 s1 v0 v1
              generalize playTo b ls who r = ls' at HC HWF hl'
              have HL : Hid _ := HC.out.1
              have HTI : Hid _ := HC.out.2.1
              have HQ : Hid _ := HC.out.2.2.2.2
              clear HC
              have q0 := cell_at HQ.out (i := 1) rfl
              have x0 := cell_at HL.out.room.var (i := 0) rfl
              have LK := look_is HL.out.map HTI.out hwf.out
              generalize hgv : lk ls' r = lv2 at LK
              generalize hgb : hd ls' r = hb2 at LK
              have HV : Hid _ := hgv
              have HB : Hid _ := hgb
              clear hgv hgb
              have OW := owner_w B _ vs4 ls' r (by omega) (by omega) _ HL.out.room.held
              go_upto_region 32 with fail
              go_cut [173] from 154 to 173 (fun v wx => v = .bool false ∧ wx = wc)
              case first =>
                rcases ownr_is ls' r with ⟨e, _⟩ | ⟨m, _, e, _⟩
                · rw [e] at OW
                  obtain rfl : hb2 = false := by rw [← HB.out]; exact (lk_none e).2
                  clear HL HTI HQ HB HV HWF e LK
                  go_wp2_with fail
                  refine OW.mono ?_
                  rintro e w11 ⟨rfl, rfl⟩
                  go_wp2
                  go_meet
                  case rel => exact ⟨rfl, rfl⟩
                · rw [e] at OW
                  obtain rfl : hb2 = true := by rw [← HB.out]; exact (lk_some e).2
                  obtain rfl : lv2 = m := by rw [← HV.out]; exact (lk_some e).1
                  clear HL HTI HQ HB HV HWF e LK
                  go_wp2_with fail
                  refine OW.mono ?_
                  rintro e w11 ⟨rfl, rfl⟩
                  go_wp2
                  go_meet
                  case rel => exact ⟨rfl, rfl⟩
              case rest =>
                as_aux_lemma =>
                obtain ⟨rfl, rfl⟩ := hcut
                clear LK HV HB OW q0 x0 HQ
                go_wp2_with fail
                go_loopw [20, 21] (fun sm a wq => ∃ c : Nat, c ≤ k ∧ a = .int .i64 c ∧ sm = .int .i64 (psum ls' c) ∧ Hid (Kept (fun _ => False) wc wq)) (fun _ a _ => k - (intOf a).toNat)
                case atStart => exact ⟨0, Nat.zero_le _, rfl, rfl, Kept.refl _ _⟩
                case round =>
                  obtain ⟨c, hck, rfl, rfl, HK⟩ := hrel
                  by_cases hcl : c < k
                  · skip
                    as_aux_lemma =>
                    have H12 : Hid _ := HL.out.still HK.out
                    have x0 := cell_at H12.out.room.var (i := 0) rfl
                    have LI := list_w B _ vs4 ls' c (by omega) (by omega) _ H12.out.room.held
                    have t3 : (c : Int) < (k : Int) := by omega
                    have hps : psum ls' c ≤ c * (2 * j + 1 + 1) := psum_le ls' _ c (fun i hi => HL.out.room.held.cap i (by omega))
                    have hps2 : psum ls' c ≤ 5 * 122 := Nat.le_trans hps (Nat.mul_le_mul (by omega) (by omega))
                    have hcap : (ld ls' c).length ≤ 2 * j + 1 + 1 := HL.out.room.held.cap c (by omega)
                    clear hps
                    go_wp2_with fail
                    refine LI.mono ?_
                    rintro e w12 ⟨v, rfl, hO⟩
                    obtain ⟨ao, bb, oo, cp, rfl, hao, hcell⟩ := (own_src hO.own).opened
                    have HK2 : Hid (Kept (fun _ => False) wc w12) := HK.out.trans hO.kept (fun _ _ e => e)
                    have H13 : Hid _ := HL.out.still HK2.out
                    have HS1 : Hid (psum ls' (c + 1) = psum ls' c + (ld ls' c).length) := rfl
                    have HG : Hid (Rising (ld ls' c) ∧ ∀ x ∈ ld ls' c, (Lit.int .i64 x).wf = true ∧ lk ls' x = c ∧ hd ls' x = true) :=
                      ⟨HL.out.room.held.good.rise c (by omega), fun x hx => ⟨HWF.out c x (by omega) hx, lk_some (ownr_at HL.out.room.held.good (by omega) hx)⟩⟩
                    have HHO : Hid (∀ r, Calls Try.prog 18 #[.pointer (some ⟨B + 1, 0, none⟩), .int .i64 c, .int .i64 r] w12 fun e w' => e = .returned (.bool (isIn (ld ls' c) r)) ∧ w' = w12) := fun r => holds_w B _ vs4 ls' c (by omega) r (by omega) _ H13.out.room.held
                    clear LI hO x0 H12 HK
                    generalize hgl : ld ls' c = L at *
                    generalize hgm : L.length = m at *
                    clear hgl
                    have HM : Hid (L.length = m) := hgm
                    clear hgm
                    go_wp2_with fail
                    go_loop [188] (fun s => ∃ q : Nat, q ≤ m ∧ s = .int .i64 q) (fun s => m - (intOf s).toNat)
                    case atStart => exact ⟨0, Nat.zero_le _, rfl⟩
                    case round =>
                      obtain ⟨q, hqm, rfl⟩ := hrel
                      by_cases hql : q < m
                      · have c1 := hcell q hql
                        obtain rfl := hao (by omega)
                        have hmem := zd_mem (l := L) (i := q) (by rw [HM.out]; exact hql)
                        obtain ⟨hwx, hlx, hdx⟩ := HG.out.2 _ hmem
                        have LK := look_is H13.out.map HTI.out hwx
                        rw [hlx, hdx] at LK
                        have HO := HHO.out (zd L q)
                        rw [isIn_yes hmem] at HO
                        have x0 := cell_at H13.out.room.var (i := 0) rfl
                        have t4 : (q : Int) < (m : Int) := by omega
                        clear hmem hwx hlx hdx
                        rcases q with _ | p
                        · clear hcell hao
                          generalize zd L 0 = x at *
                          simp only [Nat.add_zero] at c1
                          go_wp2_with fail
                          refine HO.mono ?_
                          rintro e w13 ⟨rfl, rfl⟩
                          go_wp2
                          refine ⟨⟨1, by omega, by go_num⟩, by simp [intOf]; omega⟩
                        · have c2 := hcell p (by omega)
                          have hlt2 := HG.out.1 p (p + 1) (by omega) (by rw [HM.out]; exact hql)
                          clear hcell hao
                          generalize zd L (p + 1) = x at *
                          generalize zd L p = y at *
                          have hd3 : decide (x ≤ y) = false := by simp; omega
                          go_wp2_with fail
                          refine HO.mono ?_
                          rintro e w13 ⟨rfl, rfl⟩
                          go_wp2
                          refine ⟨⟨p + 1 + 1, by omega, by go_num⟩, by simp [intOf]; omega⟩
                      · obtain rfl : q = m := by omega
                        clear hcell hao
                        go_wp2
                        go_roundw
                        case rel => exact ⟨c + 1, by omega, by go_num, by rw [HS1.out]; go_num, HK2.out⟩
                        case measure => simp [intOf]; omega
                  · skip
                    as_aux_lemma =>
                    obtain rfl : c = k := by omega
                    have H14 : Hid _ := HL.out.still HK.out
                    have HSZ : Hid (Maps.size D' = psum ls' c) := by
                      show _ = _
                      rw [HTI.out.size, hl']
                    have hps : psum ls' c ≤ c * (2 * j + 1 + 1) := psum_le ls' _ c (fun i hi => HL.out.room.held.cap i (by omega))
                    have hps2 : psum ls' c ≤ 5 * 122 := Nat.le_trans hps (Nat.mul_le_mul (by omega) (by omega))
                    clear hps
                    have hfin : Hid (Hall B (2 * (j + 1)) vs4 ls' D' w1 wr ∧ Tied D' ls' ∧ Wf ls') := ⟨by rw [show 2 * (j + 1) = 2 * j + 1 + 1 by omega]; exact H14.out, HTI.out, HWF.out⟩
                    clear HL HTI HWF HK
                    generalize psum ls' c = ps at *
                    go_wp2_with (at_len; refine wpList_len_own _ rfl _ 36 rfl 3 3 Try.underlying36 _ (B + 3) _ D' rfl H14.out.map ?_; rw [HSZ.out])
                    go_roundw
                    case rel => exact ⟨j + 1, vs4, ls', D', by go_num, by omega, by omega, l4, hl', hfin.out⟩
                    case measure => simp [intOf]; omega
    · skip
      as_aux_lemma =>
      have HK : Hid _ := HH.out.1.room.kept
      clear HH HC HW
      by_cases hj1 : j < len
      · have hj2 : j = 60 := by omega
        have t1 : (j : Int) < (len : Int) := by omega
        have t2 : ¬ (j : Int) < 60 := by omega
        clear hlt
        go_wp2_with fail
        refine (new_g wr).mono ?_
        rintro e w3 ⟨rfl, k3⟩
        have HK3 : Hid _ := (HK.out.trans k3 (fun _ _ e => e)).alloc (.cells #[.int .i64 3, .int .i64 0] 26)
        clear k3 HK
        simp only [stopV]
        go_wp2_with fail
        refine (runs_w _).mono ?_
        rintro e w8 ⟨rfl, k8⟩
        have HK8 : Hid _ := HK3.out.trans k8 (fun _ _ e => e)
        clear k8 HK3
        go_wp2
        go_ret
        exact ⟨rfl, HK8.out⟩
      · have t1 : ¬ (j : Int) < (len : Int) := by omega
        clear hlt
        go_wp2_with fail
        refine (new_g wr).mono ?_
        rintro e w3 ⟨rfl, k3⟩
        have HK3 : Hid _ := (HK.out.trans k3 (fun _ _ e => e)).alloc (.cells #[.int .i64 3, .int .i64 0] 26)
        clear k3 HK
        simp only [stopV]
        go_wp2_with fail
        refine (runs_w _).mono ?_
        rintro e w8 ⟨rfl, k8⟩
        have HK8 : Hid _ := HK3.out.trans k8 (fun _ _ e => e)
        clear k8 HK3
        go_wp2
        go_ret
        exact ⟨rfl, HK8.out⟩
end Go.Proofs.Ytkmfeenooidbhaa
