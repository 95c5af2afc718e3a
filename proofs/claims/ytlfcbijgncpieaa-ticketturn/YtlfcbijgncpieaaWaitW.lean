/- The statement on who waits for whom; no conditions. -/
import Derived.Test.YtlfcbijgncpieaaOneW
namespace Go.Proofs.Ytlfcbijgncpieaa
open Go.RowKit

/-- A try beside the row steps. -/
theorem Yard.beside {B n t n' t' D : Nat} {c c' : Int} {v : Value} {qs : List Nat} {ts : List T} {w0 w w' : World} {a s x : Int} (h : Yard B n t c v qs ts w0 w) (hq : TryIn D a s x w) (hl : B + 2 ≤ D) (hn : ∀ i, i < qs.length → qd qs i ≠ D) (hm : LockIn (B + 1) B n' t' c' w') (hk : Kept (fun k => k = B + 1 ∨ k = B ∨ k = D) w w') : Yard B n' t' c' v qs ts w0 w' := by
  refine ⟨hm, ⟨own_kept h.tries.own hk (fun k e x => ?_), h.tries.len, h.tries.low, fun i hi => hk.at (h.tries.each i hi) (fun x => ?_), h.tries.apart⟩, h.kept.trans hk (fun k hk' e => by have := h.base; omega), h.base, h.zero⟩
  · have := (h.tries.own.lt k e).1
    rcases x with rfl | rfl | rfl
    · omega
    · omega
    · exact row_off h.tries.own hq (by decide) e
  · have := h.tries.low i hi
    have := hn i hi
    omega

/-- Tries whose tickets are their numbers: those below tn are done, those above it wait. -/
structure Queue (tn : Nat) (ts : List T) : Prop where
  tick : ∀ i, i < ts.length → (td ts i).t = i
  done : ∀ i, i < ts.length → i < tn → (td ts i).s = 3
  late : ∀ i, i < ts.length → tn < i → (td ts i).s = 1
  turn : ∀ i, i < ts.length → i = tn → (td ts i).s = 1 ∨ (td ts i).s = 2

theorem Queue.nil : Queue 0 [] := ⟨fun i hi => by simp at hi, fun i hi => by simp at hi, fun i hi => by simp at hi, fun i hi => by simp at hi⟩

theorem Queue.push {ts : List T} (h : Queue 0 ts) : Queue 0 (ts ++ [⟨0, 1, ts.length⟩]) := by
  have hcase : ∀ i, i < (ts ++ [(⟨0, 1, ts.length⟩ : T)]).length → i < ts.length ∨ i = ts.length := fun i hi => by simp at hi; omega
  refine ⟨fun i hi => ?_, fun i hi h0 => by omega, fun i hi h0 => ?_, fun i hi h0 => ?_⟩ <;> rcases hcase i hi with g | rfl
  · rw [td_left _ g]; exact h.tick i g
  · rw [td_last]
  · rw [td_left _ g]; exact h.late i g h0
  · rw [td_last]
  · rw [td_left _ g]; exact h.turn i g h0
  · rw [td_last]; exact .inl rfl

theorem Queue.wins {tn : Nat} {ts : List T} (h : Queue tn ts) : Queue tn (ts.set tn ⟨0, 2, tn⟩) := by
  refine ⟨fun i hi => ?_, fun i hi h0 => ?_, fun i hi h0 => ?_, fun i hi h0 => ?_⟩ <;> rw [List.length_set] at hi <;> rw [td_set hi]
  · by_cases e : tn = i
    · rw [if_pos e]; simp [e]
    · rw [if_neg e]; exact h.tick i hi
  · rw [if_neg (by omega)]; exact h.done i hi h0
  · rw [if_neg (by omega)]; exact h.late i hi h0
  · rw [if_pos h0.symm]; exact .inr rfl

theorem Queue.leaves {tn : Nat} {ts : List T} (h : Queue tn ts) : Queue (tn + 1) (ts.set tn ⟨0, 3, tn⟩) := by
  refine ⟨fun i hi => ?_, fun i hi h0 => ?_, fun i hi h0 => ?_, fun i hi h0 => ?_⟩ <;> rw [List.length_set] at hi <;> rw [td_set hi]
  · by_cases e : tn = i
    · rw [if_pos e]; simp [e]
    · rw [if_neg e]; exact h.tick i hi
  · by_cases e : tn = i
    · rw [if_pos e]
    · rw [if_neg e]; exact h.done i hi (by omega)
  · rw [if_neg (by omega)]; exact h.late i hi (by omega)
  · rw [if_neg (by omega)]; exact .inl (h.late i hi (by omega))

theorem set_same {ts : List T} {j : Nat} {x : T} (hx : td ts j = x) : ts.set j x = ts := by
  subst hx
  apply List.ext_getElem
  · simp
  · intro i h1 h2
    rw [List.getElem_set]
    split
    · rename_i e; subst e; simp [td, h2]
    · rfl

theorem td_eq {ts : List T} {j : Nat} {a s t : Int} (h1 : (td ts j).a = a) (h2 : (td ts j).s = s) (h3 : (td ts j).t = t) : td ts j = ⟨a, s, t⟩ := by
  cases hh : td ts j; simp_all

set_option maxRecDepth 100000 in
set_option maxHeartbeats 1600000 in
theorem wait_w (n me : Int) (ao : Option Addr) (len cap lb off : Nat) (L : Nat → Int) (hao : 0 < len → ao = some ⟨lb, off, none⟩) (hlc : len ≤ cap) (hm : cap ≤ 9223372036854775807) (w : World)
    (hc : ∀ i, i < len → w.cell? ⟨lb, off + i, none⟩ = some (.int .i64 (L i))) :
    Calls Try.prog 7 #[.int .i64 n, .int .i64 me, .slice ao len cap] w fun e w' => e = .returned (.bool true) ∧ Kept (fun _ => False) w w' := by
  obtain ⟨i0, hi, hz0, hz1, hz2⟩ := info_parts info_try
  obtain ⟨B, hB⟩ : ∃ B : Nat, w.heap.size = B := ⟨_, rfl⟩
  obtain ⟨N, hN40, hNl, hNA, hNB⟩ : ∃ N : Nat, N ≤ 40 ∧ N ≤ len ∧ (len ≤ 40 → N = len) ∧ (40 < len → N = 40) := ⟨min len 40, by omega, by omega, by omega, by omega⟩
  obtain ⟨k, hk, hk1, hk8⟩ : ∃ k : Nat, 1 + n % (8 - 1 + 1) = k ∧ 1 ≤ k ∧ k ≤ 8 := ⟨(1 + n % 8).toNat, by omega, by omega, by omega⟩
  go_enter Try.func7, Try.ntmps7
  go_wp2_with fail
  refine (within_any n 1 8 (by decide) (by decide) (by decide) _).mono ?_
  rintro e w1 ⟨rfl, rfl⟩
  simp only [hk]
  clear hk
  have NW := new_ok 2 (by omega) w1
  rw [show ((2 : Nat) : Int) = 2 from rfl, hB] at NW
  go_wp2_with fail
  refine NW.mono ?_
  rintro e w2 ⟨rfl, hM, hk2, hs2⟩
  have HY0 : Hid (Yard B 0 0 0 (.slice none 0 0) [] [] w1 w2) := ⟨hM, TriesIn.nil _ _, hk2, hB, fun i hi => by simp at hi⟩
  clear NW hM hk2 hs2
  go_wp2_with fail
  go_loopw [9, 10] (fun v i wr => ∃ (j : Nat) (qs : List Nat) (ts : List T), j ≤ k ∧ i = .int .i64 j ∧ qs.length = j ∧ Queue 0 ts ∧ Yard B j 0 j v qs ts w1 wr) (fun _ i _ => k - (intOf i).toNat)
  case atStart => exact ⟨0, [], [], by omega, rfl, rfl, Queue.nil, HY0.out⟩
  case round =>
    obtain ⟨j, qs, ts, hj, rfl, hql, hQ, hY⟩ := hrel
    clear HY0
    by_cases hjk : j < k
    · have t1 : (j : Int) < (k : Int) := by omega
      have HY : Hid _ := hY
      have HQ : Hid _ := hQ
      clear hY hQ
      obtain ⟨D, hD⟩ : ∃ D : Nat, wr.heap.size = D := ⟨_, rfl⟩
      go_wp2_with fail
      refine (try_made 0 D wr hD).mono ?_
      rintro e w3 ⟨rfl, hq, k3, s3⟩
      have hY3 := HY.out.still k3
      have hfar : ∀ i, i < qs.length → qd qs i ≠ D := fun i hi e => by have := lt_at (HY.out.try hi); omega
      have hBD : B + 2 ≤ D := by have h1 := lt_at HY.out.mem.mem; have h2 := HY.out.mem.ne; omega
      have F := lock_fresh (B + 1) B D j 0 j (-1) (by omega) (by omega) (by omega) (by omega) _ hY3.mem hq
      clear HY
      go_wp2_with fail
      refine F.mono ?_
      rintro e w4 ⟨rfl, hm4, hq4, hk4⟩
      have hY4 := hY3.beside hq hBD hfar hm4 hk4
      have s4 : D < w4.heap.size := by have := hk4.size; omega
      obtain ⟨E, hE⟩ : ∃ E : Nat, w4.heap.size = E := ⟨_, rfl⟩
      clear F hY3 hq hm4 hk4 k3 s3
      go_wp2_with (at_builtin; refine wpList_append_lies _ rfl _ _ 32 rfl (B + 2) 24 i0 (.pointer none) 1 8 Try.underlying32 hi hz0 hz1 hz2 rfl (by decide) _ _ _ rfl (hY4.tries.own.alloc _) ⟨E, 0, none⟩ 1 1 [ptr D] rfl rfl ?c1 ?c2 (by decide) ?c3 ?c4 ?c5 _ rfl ?_)
      case c1 => exact fun j u hu => World.news_of_block (cs := #[ptr D]) (alloc_at' _ hE) j u hu
      case c2 => intro u hu; simp at hu; subst hu; rfl
      case c3 => unfold maxLen; omega
      case c4 => omega
      case c5 => simp; omega
      intro g cp w5 hown hgr hat hlt
      have htl := hY4.tries.len
      have HY5 : Hid (Yard B (j + 1) 0 (j + 1) (.slice (some ⟨g, 0, none⟩) (j + 1) cp) (qs ++ [D]) (ts ++ [⟨0, 1, ts.length⟩]) w1 w5) := by subst hql; rw [htl]; exact hY4.push hq4 (by omega) hfar hown hgr
      clear hY4 hq4 hown hgr hat hlt hfar htl
      go_wp2
      go_roundw
      case rel => exact ⟨j + 1, qs ++ [D], _, by omega, by go_num, by simp [hql], HQ.out.push, HY5.out⟩
      case measure => simp [intOf]; omega
    · have hjk' : j = k := by omega
      subst hjk'
      obtain ⟨g, cp, hv, hg, _⟩ := hY.tries.form (by omega)
      rw [hql] at hv
      subst hv
      have HY : Hid _ := hY
      have HQ : Hid _ := hQ
      have hjj : (0 : Int) ≤ (j : Int) - 1 := by omega
      clear hY hQ hj hjk
      obtain ⟨a, ha, haj⟩ : ∃ a : Nat, 0 + me % ((j : Int) - 1 - 0 + 1) = a ∧ a < j := ⟨(me % j).toNat, by rw [show (j : Int) - 1 - 0 + 1 = j by omega]; have := Int.emod_nonneg me (show (j : Int) ≠ 0 by omega); omega, by have := Int.emod_nonneg me (show (j : Int) ≠ 0 by omega); have := Int.emod_lt_of_pos me (show (0 : Int) < j by omega); omega⟩
      have haj' : (a : Int) < (j : Int) := by omega
      have haq : a < qs.length := by omega
      go_upto_block 2 with fail
      refine (within_any me 0 (j - 1) (by decide) (by omega) (by omega) _).mono ?_
      rintro e w3 ⟨rfl, rfl⟩
      simp only [ha]
      clear ha
      go_upto_block 2 with fail
      go_cut [13, 14] from 40 to 103 (fun lv _ wr => ∃ (tn : Nat) (c : Int) (ts : List T), lv = .int .i64 tn ∧ tn ≤ a ∧ Queue tn ts ∧ Yard B j tn c (.slice (some ⟨g, 0, none⟩) j cp) qs ts w1 wr)
      case first =>
        go_wp2_with fail
        go_loopw [13, 14] (fun lv i wr => ∃ (r tn : Nat) (c : Int) (ts : List T), r ≤ N ∧ i = .int .i64 r ∧ lv = .int .i64 tn ∧ tn ≤ a ∧ 0 ≤ c ∧ c ≤ j + r ∧ Queue tn ts ∧ Yard B j tn c (.slice (some ⟨g, 0, none⟩) j cp) qs ts w1 wr) (fun _ i _ => N - (intOf i).toNat)
        case atStart => exact ⟨0, 0, j, _, by omega, rfl, rfl, by omega, by omega, by omega, HQ.out, HY.out⟩
        case round =>
          obtain ⟨r, tn, c, ts, hr, rfl, rfl, htn, hc0, hc1, hQ, hY⟩ := hrel
          clear HY HQ
          by_cases hrN : r < N
          · have hrl : (r : Int) < (len : Int) := by omega
            have hr40 : (r : Int) < 40 := by omega
            have hcc := hc r (by omega)
            have d1 := hY.kept.cell hcc (by simp)
            obtain rfl := hao (by omega)
            obtain ⟨x, hx, hxj⟩ : ∃ x : Nat, 0 + L r % ((j : Int) - 1 - 0 + 1) = x ∧ x < j := ⟨(L r % j).toNat, by rw [show (j : Int) - 1 - 0 + 1 = j by omega]; have := Int.emod_nonneg (L r) (show (j : Int) ≠ 0 by omega); omega, by have := Int.emod_nonneg (L r) (show (j : Int) ≠ 0 by omega); have := Int.emod_lt_of_pos (L r) (show (0 : Int) < j by omega); omega⟩
            have hxj' : (x : Int) < (j : Int) := by omega
            have hxq : x < qs.length := by omega
            have dx := hY.tries.cell hxq
            have htl : ts.length = j := by rw [hY.tries.len, hql]
            have hq := hY.try hxq
            have A := at_w _ _ _ _ _ hq
            have hqB := hY.low hxq
            have hp : qd qs x ≠ B + 1 := by omega
            have hb : qd qs x ≠ B := by omega
            have hmm := hY.mem
            have ht := hQ.tick x (by omega)
            rw [ht] at hq
            have hz := hY.zero x hxq
            have HY : Hid _ := hY
            clear hcc hao hc hY
            by_cases hxa : x = a
            · subst hxa
              rcases (show tn < x ∨ tn = x by omega) with hlt | rfl
              · have hs := hQ.late x (by omega) (by omega)
                rw [hs] at hq A
                have F := lock_waits (B + 1) B (qd qs x) j tn x c (by omega) (by omega) hp _ hmm hq
                have HQ : Hid _ := hQ
                have HT : Hid (td ts x = ⟨0, 1, x⟩) := td_eq hz hs ht
                have z1 : ((tn : Int) == (x : Int)) = false := by simp; omega
                clear hQ hs ht hz hmm hq
                go_wp2_with fail
                refine (within_any (L r) 0 (j - 1) (by decide) (by omega) (by omega) _).mono ?_
                rintro e w4 ⟨rfl, rfl⟩
                simp only [hx]
                clear hx
                go_wp2_with fail
                refine A.mono ?_
                rintro e w5 ⟨rfl, rfl⟩
                clear A d1
                go_wp2_with fail
                refine F.mono ?_
                rintro e w6 ⟨rfl, hm6, hq6, hk6⟩
                have HY6 := HY.out.step hxq hm6 hq6 hk6
                rw [set_same HT.out] at HY6
                have HY6 : Hid _ := HY6
                clear F hm6 hq6 hk6 HY dx
                go_wp2
                go_roundw
                case rel => exact ⟨r + 1, tn, c + 1, _, by omega, by go_num, rfl, by omega, by omega, by omega, HQ.out, HY6.out⟩
                case measure => simp [intOf]; omega
              · rcases hQ.turn tn (by omega) rfl with hs | hs
                · rw [hs] at hq A
                  have F := lock_wins (B + 1) B (qd qs tn) j tn c (by omega) hp hb _ hmm hq
                  have HQ : Hid _ := hQ.wins
                  clear hQ hs ht hz hmm hq
                  go_wp2_with fail
                  refine (within_any (L r) 0 (j - 1) (by decide) (by omega) (by omega) _).mono ?_
                  rintro e w4 ⟨rfl, rfl⟩
                  simp only [hx]
                  clear hx
                  go_wp2_with fail
                  refine A.mono ?_
                  rintro e w5 ⟨rfl, rfl⟩
                  clear A d1
                  go_wp2_with fail
                  refine F.mono ?_
                  rintro e w6 ⟨rfl, hm6, hq6, hk6⟩
                  have HY6 := HY.out.step hxq hm6 hq6 hk6
                  have HY6 : Hid _ := HY6
                  clear F hm6 hq6 hk6 HY dx
                  go_wp2
                  go_roundw
                  case rel => exact ⟨r + 1, tn, c + 1, _, by omega, by go_num, rfl, by omega, by omega, by omega, HQ.out, HY6.out⟩
                  case measure => simp [intOf]; omega
                · rw [hs] at hq A
                  have HQ : Hid _ := hQ
                  clear hQ hs ht hz hmm hq
                  go_wp2_with fail
                  refine (within_any (L r) 0 (j - 1) (by decide) (by omega) (by omega) _).mono ?_
                  rintro e w4 ⟨rfl, rfl⟩
                  simp only [hx]
                  clear hx
                  go_wp2_with fail
                  refine A.mono ?_
                  rintro e w5 ⟨rfl, rfl⟩
                  clear A d1
                  clear dx
                  go_wp2
                  go_roundw
                  case rel => exact ⟨r + 1, tn, c, ts, by omega, by go_num, rfl, by omega, by omega, by omega, HQ.out, HY.out⟩
                  case measure => simp [intOf]; omega
            · have z1 : ((x : Int) == (a : Int)) = false := by simp; omega
              have z2 : ¬ (x : Int) = (a : Int) := by omega
              rcases (show x < tn ∨ x = tn ∨ tn < x by omega) with hlt | rfl | hlt
              · have hs := hQ.done x (by omega) hlt
                rw [hs] at hq A
                have HQ : Hid _ := hQ
                clear hQ hs ht hz hmm hq
                go_wp2_with fail
                refine (within_any (L r) 0 (j - 1) (by decide) (by omega) (by omega) _).mono ?_
                rintro e w4 ⟨rfl, rfl⟩
                simp only [hx]
                clear hx
                go_wp2_with fail
                refine A.mono ?_
                rintro e w5 ⟨rfl, rfl⟩
                clear A d1
                clear dx
                go_wp2
                go_roundw
                case rel => exact ⟨r + 1, tn, c, ts, by omega, by go_num, rfl, by omega, by omega, by omega, HQ.out, HY.out⟩
                case measure => simp [intOf]; omega
              · rcases hQ.turn x (by omega) rfl with hs | hs
                · rw [hs] at hq A
                  have F := lock_wins (B + 1) B (qd qs x) j x c (by omega) hp hb _ hmm hq
                  have HQ : Hid _ := hQ.wins
                  clear hQ hs ht hz hmm hq
                  go_wp2_with fail
                  refine (within_any (L r) 0 (j - 1) (by decide) (by omega) (by omega) _).mono ?_
                  rintro e w4 ⟨rfl, rfl⟩
                  simp only [hx]
                  clear hx
                  go_wp2_with fail
                  refine A.mono ?_
                  rintro e w5 ⟨rfl, rfl⟩
                  clear A d1
                  go_wp2_with fail
                  refine F.mono ?_
                  rintro e w6 ⟨rfl, hm6, hq6, hk6⟩
                  have HY6 := HY.out.step hxq hm6 hq6 hk6
                  have HY6 : Hid _ := HY6
                  clear F hm6 hq6 hk6 HY dx
                  go_wp2
                  go_roundw
                  case rel => exact ⟨r + 1, x, c + 1, _, by omega, by go_num, rfl, by omega, by omega, by omega, HQ.out, HY6.out⟩
                  case measure => simp [intOf]; omega
                · rw [hs] at hq A
                  have F := lock_leave (B + 1) B (qd qs x) j x c x (by omega) (by omega) hp hb _ hmm hq
                  have HQ : Hid _ := hQ.leaves
                  have hlt : (x : Int) < (a : Int) := by omega
                  clear hQ hs ht hz hmm hq
                  go_wp2_with fail
                  refine (within_any (L r) 0 (j - 1) (by decide) (by omega) (by omega) _).mono ?_
                  rintro e w4 ⟨rfl, rfl⟩
                  simp only [hx]
                  clear hx
                  go_wp2_with fail
                  refine A.mono ?_
                  rintro e w5 ⟨rfl, rfl⟩
                  clear A d1
                  go_wp2_with fail
                  refine F.mono ?_
                  rintro e w6 ⟨rfl, hm6, hq6, hk6⟩
                  have HY6 := HY.out.step hxq hm6 hq6 hk6
                  have HY6 : Hid _ := HY6
                  clear F hm6 hq6 hk6 HY dx
                  go_wp2
                  go_roundw
                  case rel => exact ⟨r + 1, x + 1, c + 1, _, by omega, by go_num, by go_num, by omega, by omega, by omega, HQ.out, HY6.out⟩
                  case measure => simp [intOf]; omega
              · have hs := hQ.late x (by omega) (by omega)
                rw [hs] at hq A
                have F := lock_waits (B + 1) B (qd qs x) j tn x c (by omega) (by omega) hp _ hmm hq
                have HQ : Hid _ := hQ
                have HT : Hid (td ts x = ⟨0, 1, x⟩) := td_eq hz hs ht
                clear hQ hs ht hz hmm hq
                go_wp2_with fail
                refine (within_any (L r) 0 (j - 1) (by decide) (by omega) (by omega) _).mono ?_
                rintro e w4 ⟨rfl, rfl⟩
                simp only [hx]
                clear hx
                go_wp2_with fail
                refine A.mono ?_
                rintro e w5 ⟨rfl, rfl⟩
                clear A d1
                go_wp2_with fail
                refine F.mono ?_
                rintro e w6 ⟨rfl, hm6, hq6, hk6⟩
                have HY6 := HY.out.step hxq hm6 hq6 hk6
                rw [set_same HT.out] at HY6
                have HY6 : Hid _ := HY6
                clear F hm6 hq6 hk6 HY dx
                go_wp2
                go_roundw
                case rel => exact ⟨r + 1, tn, c + 1, _, by omega, by go_num, rfl, by omega, by omega, by omega, HQ.out, HY6.out⟩
                case measure => simp [intOf]; omega
          · have hrr : r = N := by omega
            subst hrr
            have HQ : Hid _ := hQ
            have HY : Hid _ := hY
            clear hc hY hQ hrN hr
            rcases (show (len ≤ 40 ∧ r = len) ∨ (40 < len ∧ r = 40) by omega) with ⟨hl, hrl⟩ | ⟨hl, hrl⟩
            · have t1 : ¬ (r : Int) < (len : Int) := by omega
              clear hrl hNA hNB hl
              go_wp2
              go_meet
              case rel => exact ⟨tn, c, ts, rfl, htn, HQ.out, HY.out⟩
            · have t1 : (r : Int) < (len : Int) := by omega
              have t2 : ¬ (r : Int) < 40 := by omega
              clear hrl hNA hNB hl
              go_wp2
              go_meet
              case rel => exact ⟨tn, c, ts, rfl, htn, HQ.out, HY.out⟩
      case rest => 
        obtain ⟨tn, c, ts, rfl, htn, hQ, hY⟩ := hcut
        clear HY HQ hc
        have dx := hY.tries.cell haq
        have htl : ts.length = j := by rw [hY.tries.len, hql]
        have A := at_w _ _ _ _ _ (hY.try haq)
        have HK : Hid _ := hY.kept
        have hcase : ((td ts a).s = 1) ∨ ((td ts a).s = 2 ∧ tn = a) := by
          rcases (show tn < a ∨ a = tn by omega) with h | h
          · exact .inl (hQ.late a (by omega) h)
          · rcases hQ.turn a (by omega) h with g | g
            · exact .inl g
            · exact .inr ⟨g, h.symm⟩
        clear hY hQ
        rcases hcase with hs | ⟨hs, rfl⟩
        · rw [hs] at A
          clear hs
          go_wp2_with fail
          refine A.mono ?_
          rintro e w4 ⟨rfl, rfl⟩
          clear A
          go_wp2_with fail
          refine (runs_w _).mono ?_
          rintro e w8 ⟨rfl, k8⟩
          have HK8 : Hid _ := k8
          clear k8
          go_wp2
          go_ret
          exact ⟨rfl, HK.out.trans HK8.out (fun _ _ e => e)⟩
        · rw [hs] at A
          clear hs
          go_wp2_with fail
          refine A.mono ?_
          rintro e w4 ⟨rfl, rfl⟩
          clear A
          go_wp2_with fail
          refine (runs_w _).mono ?_
          rintro e w8 ⟨rfl, k8⟩
          have HK8 : Hid _ := k8
          clear k8
          go_wp2
          go_ret
          exact ⟨rfl, HK.out.trans HK8.out (fun _ _ e => e)⟩
end Go.Proofs.Ytlfcbijgncpieaa
