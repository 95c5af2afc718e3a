/- The statement on one lock, whoever steps; no conditions. -/
import Derived.Test.YtlfcbijgncpieaaOneF
import Derived.Test.YtlfcbijgncpieaaWithin
import Derived.Deep.CutBlock
import Derived.Deep.RegionHeld3
import Derived.Deep.QuietTactic
import Derived.BigQuiet
namespace Go.Proofs.Ytlfcbijgncpieaa
open Go.RowKit

theorem kept_drewN (w : World) (m : Nat) : Kept (fun _ => False) w (w.drewN m) := by
  induction m with
  | zero => exact Kept.refl _ _
  | succ m ih => exact ih.drew

set_option maxRecDepth 100000 in
set_option maxHeartbeats 1600000 in
theorem one_w (n : Int) (ao : Option Addr) (len cap lb off : Nat) (L : Nat → Int) (hao : 0 < len → ao = some ⟨lb, off, none⟩) (hlc : len ≤ cap) (hm : cap ≤ 9223372036854775807) (w : World)
    (hc : ∀ i, i < len → w.cell? ⟨lb, off + i, none⟩ = some (.int .i64 (L i))) :
    Calls Try.prog 5 #[.int .i64 n, .slice ao len cap] w fun e w' => e = .returned (.bool true) ∧ Kept (fun _ => False) w w' := by
  obtain ⟨i0, hi, hz0, hz1, hz2⟩ := info_parts info_try
  obtain ⟨B, hB⟩ : ∃ B : Nat, w.heap.size = B := ⟨_, rfl⟩
  obtain ⟨N, hN80, hNl, hNA, hNB⟩ : ∃ N : Nat, N ≤ 80 ∧ N ≤ len ∧ (len ≤ 80 → N = len) ∧ (80 < len → N = 80) := ⟨min len 80, by omega, by omega, by omega, by omega⟩
  obtain ⟨k, hk, hk1, hk8⟩ : ∃ k : Nat, 1 + n % (8 - 1 + 1) = k ∧ 1 ≤ k ∧ k ≤ 8 := ⟨(1 + n % 8).toNat, by omega, by omega, by omega⟩
  go_enter Try.func5, Try.ntmps5
  go_wp2_with fail
  refine (within_any n 1 8 (by decide) (by decide) (by decide) _).mono ?_
  rintro e w1 ⟨rfl, rfl⟩
  simp only [hk]
  clear hk
  have NW := new_ok 2 (by omega) w1
  rw [show ((2 : Nat) : Int) = 2 from rfl, hB] at NW
  go_wp2_with fail
  refine NW.mono ?_
  rintro e w2 ⟨rfl, hM, hk2, hs2⟩
  have HY0 : Hid (Yard B 0 0 0 (.slice none 0 0) [] [] w1 w2) := ⟨hM, TriesIn.nil _ _, hk2, hB, fun i hi => by simp at hi⟩
  clear NW hM hk2 hs2
  go_wp2_with fail
  go_loopw [7, 8] (fun v i wr => ∃ (j : Nat) (qs : List Nat), j ≤ k ∧ i = .int .i64 j ∧ qs.length = j ∧ Yard B 0 0 0 v qs (List.replicate j ⟨0, 0, -1⟩) w1 wr) (fun _ i _ => k - (intOf i).toNat)
  case atStart => exact ⟨0, [], by omega, rfl, rfl, HY0.out⟩
  case round =>
    obtain ⟨j, qs, hj, rfl, hql, hY⟩ := hrel
    clear HY0
    by_cases hjk : j < k
    · have t1 : (j : Int) < (k : Int) := by omega
      have HY : Hid _ := hY
      clear hY
      obtain ⟨D, hD⟩ : ∃ D : Nat, wr.heap.size = D := ⟨_, rfl⟩
      go_wp2_with fail
      refine (try_made 0 D wr hD).mono ?_
      rintro e w3 ⟨rfl, hq, k3, s3⟩
      have hY3 := HY.out.still k3
      have hfar : ∀ i, i < qs.length → qd qs i ≠ D := fun i hi e => by have := lt_at (HY.out.try hi); omega
      have hBD : B + 2 ≤ D := by have h1 := lt_at HY.out.mem.mem; have h2 := HY.out.mem.ne; omega
      clear HY
      go_wp2_with (at_builtin; refine wpList_append_lies _ rfl _ _ 32 rfl (B + 2) 24 i0 (.pointer none) 1 8 Try.underlying32 hi hz0 hz1 hz2 rfl (by decide) _ _ _ rfl (hY3.tries.own.alloc _) ⟨D + 1, 0, none⟩ 1 1 [ptr D] rfl rfl ?c1 ?c2 (by decide) ?c3 ?c4 ?c5 _ rfl ?_)
      case c1 => exact fun j u hu => World.news_of_block (cs := #[ptr D]) (alloc_at' _ s3) j u hu
      case c2 => intro u hu; simp at hu; subst hu; rfl
      case c3 => unfold maxLen; omega
      case c4 => omega
      case c5 => simp; omega
      intro g cp w4 hown hgr hat hlt
      have HY4 : Hid (Yard B 0 0 0 (.slice (some ⟨g, 0, none⟩) (j + 1) cp) (qs ++ [D]) (List.replicate j ⟨0, 0, -1⟩ ++ [⟨0, 0, -1⟩]) w1 w4) := by subst hql; exact hY3.push hq (by omega) hfar hown hgr
      clear hY3 hq k3 s3 hown hgr hat hlt hfar
      go_wp2
      go_roundw
      case rel => exact ⟨j + 1, qs ++ [D], by omega, by go_num, by simp [hql], by rw [List.replicate_succ']; exact HY4.out⟩
      case measure => simp [intOf]; omega
    · have hjk' : j = k := by omega
      subst hjk'
      obtain ⟨g, cp, hv, hg, _⟩ := hY.tries.form (by omega)
      rw [hql] at hv
      subst hv
      have HY : Hid _ := hY
      have HG : Hid (Good 0 0 (-1) (List.replicate j ⟨0, 0, -1⟩)) := Good.start j
      have hjj : (0 : Int) ≤ (j : Int) - 1 := by omega
      clear hY hj hjk
      go_upto_block 2 with fail
      go_cut [10, 11] from 34 to 105 (fun _ _ wr => Kept (fun _ => False) w1 wr)
      case first =>
        go_wp2_with fail
        go_loopw [10, 11] (fun lv i wr => ∃ (r nx tn : Nat) (c last : Int) (ts : List T), r ≤ N ∧ i = .int .i64 r ∧ lv = .int .i64 last ∧ nx ≤ r ∧ 0 ≤ c ∧ c ≤ r ∧ Yard B nx tn c (.slice (some ⟨g, 0, none⟩) j cp) qs ts w1 wr ∧ Good nx tn last ts) (fun _ i _ => N - (intOf i).toNat)
        case atStart => exact ⟨0, 0, 0, 0, -1, _, by omega, rfl, rfl, by omega, by omega, by omega, HY.out, HG.out⟩
        case round =>
          obtain ⟨r, nx, tn, c, last, ts, hr, rfl, rfl, hnx, hc0, hc1, hY, hG⟩ := hrel
          clear HY HG
          by_cases hrN : r < N
          · have hrl : (r : Int) < (len : Int) := by omega
            have hr80 : (r : Int) < 80 := by omega
            have hcc := hc r (by omega)
            have d1 := hY.kept.cell hcc (by simp)
            obtain rfl := hao (by omega)
            obtain ⟨a, ha, haj⟩ : ∃ a : Nat, 0 + L r % ((j : Int) - 1 - 0 + 1) = a ∧ a < j := ⟨(L r % j).toNat, by rw [show (j : Int) - 1 - 0 + 1 = j by omega]; have := Int.emod_nonneg (L r) (show (j : Int) ≠ 0 by omega); omega, by have := Int.emod_nonneg (L r) (show (j : Int) ≠ 0 by omega); have := Int.emod_lt_of_pos (L r) (show (0 : Int) < j by omega); omega⟩
            have haj' : (a : Int) < (j : Int) := by omega
            have haq : a < qs.length := by omega
            have dq := hY.tries.cell haq
            have htl : ts.length = j := by rw [hY.tries.len, hql]
            have hq := hY.try haq
            have A := at_w _ _ _ _ _ hq
            have HY : Hid _ := hY
            have HG : Hid _ := hG
            have hqB := hY.low haq
            clear hcc hao hc hY hG
            go_upto_block 4 with fail
            refine (within_any (L r) 0 (j - 1) (by decide) (by omega) (by omega) _).mono ?_
            rintro e w3 ⟨rfl, rfl⟩
            simp only [ha]
            clear ha
            go_upto_block 4 with fail
            refine A.mono ?_
            rintro e w4 ⟨rfl, rfl⟩
            clear A d1 dq
            go_upto_block 4 with fail
            have each := HG.out.each a (by omega)
            obtain ⟨s, hs⟩ : ∃ s, (td ts a).s = s := ⟨_, rfl⟩
            obtain ⟨t, ht⟩ : ∃ t, (td ts a).t = t := ⟨_, rfl⟩
            rw [hs, ht] at hq each
            rw [hs]
            have HS : Hid ((td ts a).s = s ∧ (td ts a).t = t) := And.intro hs ht
            clear hs ht
            by_cases h3 : s = 3
            · subst h3
              clear each hq
              go_wp2
              go_roundw
              case rel => exact ⟨r + 1, nx, tn, c, last, ts, by omega, by go_num, rfl, by omega, by omega, by omega, HY.out, HG.out⟩
              case measure => simp [intOf]; omega
            · have h3' : (s == 3) = false := by simpa using h3
              go_cut [10] from 56 to 72 (fun lv wr => ∃ (nx' tn' : Nat) (c' last' : Int) (ts' : List T), lv = .int .i64 last' ∧ nx' ≤ r + 1 ∧ 0 ≤ c' ∧ c' ≤ r + 1 ∧ Yard B nx' tn' c' (.slice (some ⟨g, 0, none⟩) j cp) qs ts' w1 wr ∧ Good nx' tn' last' ts')
              case first =>
                have hm := HY.out.mem
                have hp : qd qs a ≠ B + 1 := by omega
                have hb : qd qs a ≠ B := by omega
                have htn := HG.out.turn
                rcases each with ⟨rfl, rfl⟩ | ⟨rfl, hx1, hx2⟩ | ⟨rfl, rfl, hx2⟩ | ⟨rfl, _⟩
                · have F := lock_fresh (B + 1) B (qd qs a) nx tn c (-1) (by omega) (by omega) hp hb _ hm hq
                  clear hm hq
                  go_wp2_with fail
                  refine F.mono ?_
                  rintro e w5 ⟨rfl, hm5, hq5, hk5⟩
                  have HY5 : Hid _ := HY.out.step haq hm5 hq5 hk5
                  have HG5 : Hid _ := HG.out.fresh HS.out.1
                  clear F hm5 hq5 hk5 HY HG
                  go_wp2
                  go_meet
                  case rel => exact ⟨_, _, _, _, _, rfl, by omega, by omega, by omega, HY5.out, HG5.out⟩
                · obtain ⟨x, rfl⟩ : ∃ x : Nat, t = x := ⟨t.toNat, by omega⟩
                  by_cases hx : tn = x
                  · subst hx
                    have F := lock_wins (B + 1) B (qd qs a) nx tn c (by omega) hp hb _ hm hq
                    obtain ⟨hl, hG5⟩ := HG.out.wins (j := a) (by omega) HS.out.1 HS.out.2
                    have HG5 : Hid _ := hG5
                    clear hm hq hG5
                    go_wp2_with fail
                    refine F.mono ?_
                    rintro e w5 ⟨rfl, hm5, hq5, hk5⟩
                    have HY5 : Hid _ := HY.out.step haq hm5 hq5 hk5
                    have Z := ticket_w _ _ _ _ _ hq5
                    clear F hm5 hq5 hk5 HY HG
                    subst hl
                    have hl' : (tn : Int) - 1 + 1 = tn := by omega
                    go_wp2_with fail
                    refine Z.mono ?_
                    rintro e w6 ⟨rfl, hw6⟩
                    rw [hw6]
                    go_wp2_with fail
                    refine Z.mono ?_
                    rintro e w7 ⟨rfl, hw7⟩
                    rw [hw7]
                    clear hw6 hw7 Z
                    go_wp2
                    go_meet
                    case rel => exact ⟨_, _, _, _, _, rfl, by omega, by omega, by omega, HY5.out, HG5.out⟩
                  · have F := lock_waits (B + 1) B (qd qs a) nx tn x c hx (by omega) hp _ hm hq
                    have HG5 : Hid _ := HG.out.waits (j := a) x (HY.out.zero a haq) HS.out.1 HS.out.2
                    clear hm hq
                    go_wp2_with fail
                    refine F.mono ?_
                    rintro e w5 ⟨rfl, hm5, hq5, hk5⟩
                    have HY5 : Hid _ := HY.out.step haq hm5 hq5 hk5
                    clear F hm5 hq5 hk5 HY HG
                    go_wp2
                    go_meet
                    case rel => exact ⟨_, _, _, _, _, rfl, by omega, by omega, by omega, HY5.out, HG5.out⟩
                · have F := lock_leave (B + 1) B (qd qs a) nx tn c tn (by omega) (by omega) hp hb _ hm hq
                  obtain ⟨_, _, hG5⟩ := HG.out.leaves (j := a) (by omega) HS.out.1
                  have HG5 : Hid _ := hG5
                  clear hm hq hG5
                  go_wp2_with fail
                  refine F.mono ?_
                  rintro e w5 ⟨rfl, hm5, hq5, hk5⟩
                  have HY5 : Hid _ := HY.out.step haq hm5 hq5 hk5
                  clear F hm5 hq5 hk5 HY HG
                  go_wp2
                  go_meet
                  case rel => exact ⟨_, _, _, _, _, rfl, by omega, by omega, by omega, HY5.out, HG5.out⟩
                · exact absurd rfl h3
              case rest =>
                obtain ⟨nx', tn', c', last', ts', rfl, hnx', hc0', hc1', hY', hG'⟩ := hcut
                have htl' : ts'.length = j := by rw [hY'.tries.len, hql]
                have HY' : Hid _ := hY'
                have HG' : Hid _ := hG'
                clear HY HG HS each hq hY' hG' h3 h3'
                go_wp2_with fail
                go_loopw [13, 75] (fun hv iv wr => ∃ (i h : Nat), i ≤ j ∧ iv = .int .i64 i ∧ hv = .int .i64 h ∧ h ≤ 1 ∧ (h = 1 → ∃ i', i' < i ∧ (td ts' i').s = 2) ∧ Yard B nx' tn' c' (.slice (some ⟨g, 0, none⟩) j cp) qs ts' w1 wr) (fun _ i _ => j - (intOf i).toNat)
                case atStart => exact ⟨0, 0, by omega, rfl, rfl, by omega, fun h => by omega, HY'.out⟩
                case round =>
                  obtain ⟨i, h, hij, rfl, rfl, hh, hh1, hY⟩ := hrel
                  clear HY'
                  by_cases hi' : i < j
                  · have t1 : (i : Int) < (j : Int) := by omega
                    have dq := hY.tries.cell (i := i) (by omega)
                    have A := at_w _ _ _ _ _ (hY.try (j := i) (by omega))
                    have HY : Hid _ := hY
                    have each := HG'.out.each i (by omega)
                    have hh2 : (td ts' i).s = 2 → h = 0 := by
                      intro e2
                      refine Classical.byContradiction fun hne => ?_
                      obtain ⟨i', hi1, hi2⟩ := hh1 (by omega)
                      have h1 : (td ts' i).t = tn' := by rcases each with g | g | g | g <;> omega
                      have := HG'.out.lone (by omega) (by omega) hi2 h1
                      omega
                    have HH : Hid _ := hh1
                    obtain ⟨s, hs⟩ : ∃ s, (td ts' i).s = s := ⟨_, rfl⟩
                    have HS : Hid _ := hs
                    rw [hs] at A hh2
                    clear hY each hh1 hs
                    go_wp2_with fail
                    refine A.mono ?_
                    rintro e w5 ⟨rfl, rfl⟩
                    clear A dq
                    go_upto_if 82 with fail
                    go_cut [13] from 83 to 84 (fun hv wr => ∃ h' : Nat, hv = .int .i64 h' ∧ h' ≤ 1 ∧ (h' = 1 → ∃ i', i' < i + 1 ∧ (td ts' i').s = 2) ∧ wr = w5)
                    case first =>
                      by_cases h2 : s = 2
                      · subst h2
                        have := hh2 rfl
                        subst this
                        clear hh2
                        go_wp2
                        go_meet
                        case rel => exact ⟨1, rfl, by omega, fun _ => ⟨i, by omega, HS.out⟩, rfl⟩
                      · have h2' : (s == 2) = false := by simpa using h2
                        clear hh2
                        go_wp2
                        go_meet
                        case rel => exact ⟨h, rfl, by omega, fun e => by obtain ⟨i', h1, h2⟩ := HH.out e; exact ⟨i', by omega, h2⟩, rfl⟩
                    case rest =>
                      obtain ⟨h', rfl, hh', hh1', rfl⟩ := hcut
                      have HH' : Hid _ := hh1'
                      clear hh1' HH hh2 HS hh
                      go_wp2_with fail
                      go_loopw [16] (fun bv wr => ∃ b : Nat, b ≤ i ∧ bv = .int .i64 b ∧ Yard B nx' tn' c' (.slice (some ⟨g, 0, none⟩) j cp) qs ts' w1 wr) (fun b _ => i - (intOf b).toNat)
                      case atStart => exact ⟨0, by omega, rfl, HY.out⟩
                      case round =>
                        obtain ⟨b, hb, rfl, hY⟩ := hrel
                        clear HY
                        by_cases hbi : b < i
                        · have t2 : (b : Int) < (i : Int) := by omega
                          have t3 : (b : Int) < (j : Int) := by omega
                          have db := hY.tries.cell (i := b) (by omega)
                          have X : ∀ (m y : Nat), y < qs.length → Calls Try.prog 13 #[.pointer (some ⟨qd qs y, 0, none⟩)] (wr.drewN m) fun e w' => e = .returned (.int .i64 (td ts' y).t) ∧ w' = wr.drewN m := fun m y hy => ticket_w _ _ _ _ (wr.drewN m) ((kept_drewN wr m).at (hY.try hy) (by simp))
                          have hne : 0 ≤ (td ts' i).t → ¬ (td ts' i).t = (td ts' b).t := HG'.out.apart i b (by omega) (by omega) (by omega)
                          have HY : Hid _ := hY
                          have hbq : b < qs.length := by omega
                          have hiq : i < qs.length := by omega
                          clear hY
                          by_cases hneg : 0 ≤ (td ts' i).t
                          · have z1 : decide ((0 : Int) ≤ (td ts' i).t) = true := by simpa using hneg
                            have z2 : ((td ts' i).t == (td ts' b).t) = false := by simpa using hne hneg
                            clear hne
                            go_wp2_with fail
                            go_quiet (first | (go_at_call 13; refine Calls.quiet_of_same (X _ _ ?_); assumption))
                            clear X
                            go_wp2
                            go_roundw
                            case rel => exact ⟨b + 1, by omega, by go_num, HY.out.still (kept_drewN wr nq)⟩
                            case measure => simp [intOf]; omega
                          · have z1 : decide ((0 : Int) ≤ (td ts' i).t) = false := by simpa using hneg
                            clear hne
                            go_wp2_with fail
                            go_quiet (first | (go_at_call 13; refine Calls.quiet_of_same (X _ _ ?_); assumption))
                            clear X
                            go_wp2
                            go_roundw
                            case rel => exact ⟨b + 1, by omega, by go_num, HY.out.still (kept_drewN wr nq)⟩
                            case measure => simp [intOf]; omega
                        · have hbb : b = i := by omega
                          subst hbb
                          have HY : Hid _ := hY
                          clear hY
                          go_wp2
                          go_roundw
                          case rel => exact ⟨b + 1, h', by omega, by go_num, rfl, by omega, HH'.out, HY.out⟩
                          case measure => simp [intOf]; omega
                  · have hij' : i = j := by omega
                    subst hij'
                    have HY : Hid _ := hY
                    clear hY
                    have hgt : ¬ (1 : Int) < (h : Int) := by omega
                    clear hi' hh1
                    go_wp2
                    go_roundw
                    case rel => exact ⟨r + 1, nx', tn', c', last', ts', by omega, by go_num, rfl, by omega, by omega, by omega, HY.out, HG'.out⟩
                    case measure => simp [intOf]; omega
          · have hrr : r = N := by omega
            subst hrr
            have HK : Hid _ := hY.kept
            clear hc hY hG hrN hr
            rcases (show (len ≤ 80 ∧ r = len) ∨ (80 < len ∧ r = 80) by omega) with ⟨hl, hrl⟩ | ⟨hl, hrl⟩
            · have t1 : ¬ (r : Int) < (len : Int) := by omega
              clear hrl hNA hNB hl
              go_wp2
              go_meet
              case rel => exact HK.out
            · have t1 : (r : Int) < (len : Int) := by omega
              have t2 : ¬ (r : Int) < 80 := by omega
              clear hrl hNA hNB hl
              go_wp2
              go_meet
              case rel => exact HK.out
      case rest => 
        have HK : Hid _ := hcut
        clear hcut HY HG hc
        go_wp2_with fail
        refine (runs_w _).mono ?_
        rintro e w8 ⟨rfl, k8⟩
        have HK8 : Hid _ := k8
        clear k8
        go_wp2
        go_ret
        exact ⟨rfl, HK.out.trans HK8.out (fun _ _ e => e)⟩
end Go.Proofs.Ytlfcbijgncpieaa
