/- The statement on turns, picked round and round; no conditions. -/
import Derived.Test.YtlfcbijgncpieaaTurnF
namespace Go.Proofs.Ytlfcbijgncpieaa
open Go.RowKit

set_option maxRecDepth 100000 in
set_option maxHeartbeats 1600000 in
theorem turn_law (n : Int) (ao : Option Addr) (len cap lb off : Nat) (L : Nat → Int) (hao : 0 < len → ao = some ⟨lb, off, none⟩) (hlc : len ≤ cap) (hm : cap ≤ 9223372036854775807) (w : World)
    (hc : ∀ i, i < len → w.cell? ⟨lb, off + i, none⟩ = some (.int .i64 (L i))) :
    Calls Try.prog 6 #[.int .i64 n, .slice ao len cap] w fun e w' => e = .returned (.bool true) ∧ Kept (fun _ => False) w w' := by
  obtain ⟨i0, hi, hz0, hz1, hz2⟩ := info_parts info_try
  obtain ⟨B, hB⟩ : ∃ B : Nat, w.heap.size = B := ⟨_, rfl⟩
  obtain ⟨k, hk, hk1, hk8⟩ : ∃ k : Nat, 1 + n % (8 - 1 + 1) = k ∧ 1 ≤ k ∧ k ≤ 8 := ⟨(1 + n % 8).toNat, by omega, by omega, by omega⟩
  go_enter Try.func6, Try.ntmps6
  go_wp2_with fail
  refine (within_any n 1 8 (by decide) (by decide) (by decide) _).mono ?_
  rintro e w1 ⟨rfl, rfl⟩
  simp only [hk]
  clear hk
  have NW := new_ok 2 (by omega) w1
  rw [show ((2 : Nat) : Int) = 2 from rfl, hB] at NW
  go_wp2_with fail
  refine NW.mono ?_
  rintro e w2 ⟨rfl, hM, hk2, hs2⟩
  have HY0 : Hid (Yard B 0 0 0 (.slice none 0 0) [] [] w1 w2) := ⟨hM, TriesIn.nil _ _, hk2, hB, fun i hi => by simp at hi⟩
  clear NW hM hk2 hs2
  go_wp2_with fail
  go_loopw [7, 8, 9] (fun v pv i wr => ∃ (j : Nat) (qs pl : List Nat), j ≤ k ∧ i = .int .i64 j ∧ qs.length = j ∧ Perm j pl ∧ wr.ownsRow (B + 2) 3 1 pv j (ints (zs pl)) ∧ Yard B 0 0 0 v qs (List.replicate j ⟨0, 0, -1⟩) w1 wr) (fun _ _ i _ => k - (intOf i).toNat)
  case atStart => exact ⟨0, [], [], by omega, rfl, rfl, Perm.nil, World.ownsRow_nil _ _ _ _, HY0.out⟩
  case round =>
    obtain ⟨j, qs, pl, hj, rfl, hql, hP, hR, hY⟩ := hrel
    obtain ⟨po, pc, rfl, hjc, hpc, hpo⟩ := row_form hR
    clear HY0
    by_cases hjk : j < k
    · have t1 : (j : Int) < (k : Int) := by omega
      have HY : Hid _ := hY
      have HR : Hid _ := hR
      have HP : Hid _ := hP
      clear hY hR hP
      obtain ⟨D, hD⟩ : ∃ D : Nat, wr.heap.size = D := ⟨_, rfl⟩
      go_wp2_with fail
      refine (try_made 0 D wr hD).mono ?_
      rintro e w3 ⟨rfl, hq, k3, s3⟩
      have hY3 := HY.out.still k3
      have hR3 := own_kept HR.out k3 (by simp)
      have hfar : ∀ i, i < qs.length → qd qs i ≠ D := fun i hi e => by have := lt_at (HY.out.try hi); omega
      have hBD : B + 2 ≤ D := by have h1 := lt_at HY.out.mem.mem; have h2 := HY.out.mem.ne; omega
      clear HY HR
      go_upto_region 14 with (at_builtin; refine wpList_append_lies _ rfl _ _ 32 rfl (B + 2) 24 i0 (.pointer none) 1 8 Try.underlying32 hi hz0 hz1 hz2 rfl (by decide) _ _ _ rfl (hY3.tries.own.alloc _) ⟨D + 1, 0, none⟩ 1 1 [ptr D] rfl rfl ?c1 ?c2 (by decide) ?c3 ?c4 ?c5 _ rfl ?_)
      case c1 => exact fun j u hu => World.news_of_block (cs := #[ptr D]) (alloc_at' _ s3) j u hu
      case c2 => intro u hu; simp at hu; subst hu; rfl
      case c3 => unfold maxLen; omega
      case c4 => omega
      case c5 => simp; omega
      intro g cp w4 hown hgr hat hlt
      have HY4 : Hid (Yard B 0 0 0 (.slice (some ⟨g, 0, none⟩) (j + 1) cp) (qs ++ [D]) (List.replicate (j + 1) ⟨0, 0, -1⟩) w1 w4) := by rw [List.replicate_succ']; subst hql; exact hY3.push hq (by omega) hfar hown hgr
      have HR4 : Hid (w4.ownsRow (B + 2) 3 1 (.slice po j pc) j (ints (zs pl))) := by
        refine own_kept hR3 (Kept.grown (X := fun k => u7.ownBlock = some k) ((Kept.refl _ w3).alloc _) hgr (fun k e _ => e)) (fun k e e2 => ?_)
        obtain ⟨cur, hcur⟩ := row_type hR3 e
        exact row_off hY3.tries.own hcur (by decide) e2
      clear hY3 hR3 hq k3 s3 hown hgr hat hlt hfar
      go_upto_if 38 with fail
      go_cut [11] from 35 to 45 (fun xv wx => ∃ p : Nat, p ≤ j ∧ xv = .int .i64 p ∧ wx = w4)
      case first =>
        by_cases hjl : j < len
        · have t2 : (j : Int) < (len : Int) := by omega
          have d1 := HY4.out.kept.cell (hc j (by omega)) (by simp)
          obtain rfl := hao (by omega)
          clear hao hc
          obtain ⟨p, hp, hpj⟩ : ∃ p : Nat, 0 + L j % ((j : Int) - 0 + 1) = p ∧ p ≤ j := ⟨(L j % (j + 1)).toNat, by rw [show (j : Int) - 0 + 1 = j + 1 by omega]; have := Int.emod_nonneg (L j) (show (j : Int) + 1 ≠ 0 by omega); omega, by have := Int.emod_nonneg (L j) (show (j : Int) + 1 ≠ 0 by omega); have := Int.emod_lt_of_pos (L j) (show (0 : Int) < (j : Int) + 1 by omega); omega⟩
          go_wp2_with fail
          refine (within_any (L j) 0 j (by decide) (by omega) (by omega) _).mono ?_
          rintro e w5 ⟨rfl, hw5⟩
          simp only [hp]
          clear hp
          go_wp2
          go_meet
          case rel => exact ⟨p, hpj, rfl, hw5⟩
        · have t2 : ¬ (j : Int) < (len : Int) := by omega
          go_wp2
          go_meet
          case rel => exact ⟨0, by omega, rfl, rfl⟩
      case rest =>
        obtain ⟨p, hp, rfl, rfl⟩ := hcut
        obtain ⟨E, hE⟩ : ∃ E : Nat, wc.heap.size = E := ⟨_, rfl⟩
        have tp0 : (0 : Int) ≤ (p : Int) := by omega
        have tpj : (p : Int) ≤ (j : Int) := by omega
        have tpc : (p : Int) ≤ (pc : Int) := by omega
        have tjc : (j : Int) ≤ (pc : Int) := by omega
        rcases hpo with ⟨rfl, rfl, rfl⟩ | ⟨pg, rfl⟩
        · have K0 : Kept (fun _ => False) wc wc.drew := (Kept.refl _ wc).drew
          have OA : OwnI wc (.slice (some ⟨E, 0, none⟩) 0 0) [] (wc.alloc (.cells #[] 3)).drew := OwnI.made K0 hE
          have OB : OwnI wc (.slice (some ⟨E, 0, none⟩) 0 0) [] ((wc.alloc (.cells #[] 3)).alloc (.cells #[.int .i64 ((0 : Nat) : Int)] 3)).drew := OA.alloc _
          have OC : OwnI wc (.slice (some ⟨E + 1, 0, none⟩) 0 0) [] ((wc.alloc (.cells #[.int .i64 ((0 : Nat) : Int)] 3)).alloc (.cells #[] 3)).drew := OwnI.made (K0.alloc _) (by simp [hE])
          have SB : SrcI (.slice (some ⟨E + 1, 0, none⟩) 1 1) [((0 : Nat) : Int)] ((wc.alloc (.cells #[] 3)).alloc (.cells #[.int .i64 ((0 : Nat) : Int)] 3)).drew := SrcI.lone (hE ▸ alloc_at1 wc _ _)
          have SC : SrcI (.slice (some ⟨E, 0, none⟩) 1 1) [((0 : Nat) : Int)] ((wc.alloc (.cells #[.int .i64 ((0 : Nat) : Int)] 3)).alloc (.cells #[] 3)).drew := SrcI.lone (hE ▸ alloc_off (alloc_at wc _))
          obtain rfl : p = 0 := by omega
          obtain rfl : pl = [] := List.eq_nil_of_length_eq_zero HP.out.len
          have SL : SrcI (.slice none 0 0) (zs (([] : List Nat).take 0)) wc := .inr ⟨rfl, rfl⟩
          have SR : SrcI (.slice none 0 0) (zs (([] : List Nat).drop 0)) wc := .inr ⟨rfl, rfl⟩
          have L1 : ([] : List Int).length + (zs (([] : List Nat).take 0)).length ≤ 1000 := by have hl := HP.out.len; simp [zs] <;> omega
          have L2 : (zs (([] : List Nat).take 0)).length + [((0 : Nat) : Int)].length ≤ 1000 := by have hl := HP.out.len; simp [zs] <;> omega
          have L3 : (zs (([] : List Nat).take 0) ++ [((0 : Nat) : Int)]).length + (zs (([] : List Nat).drop 0)).length ≤ 1000 := by have hl := HP.out.len; simp [zs] <;> omega
          go_wp2_with fail
          go_region_held3 (fun _ => True) (exact True.intro)
            (first
              | (refine step_old (by rfl) (.tmp 46) (.tmp 49) (by rfl) wc [] (zs (([] : List Nat).take 0)) ?o SL L1 ?_; (case o => first | exact OA | exact OB | exact OC); intro v50 w50 h50 g50; rw [List.nil_append] at h50; first | have hS := SB.grown (row := some E) g50 (by simp) | have hS := SC.grown (row := some (E + 1)) g50 (by simp) | skip)
              | (refine step_app (by rfl) (.tmp 50) (.tmp 52) (by rfl) wc (zs (([] : List Nat).take 0)) [((0 : Nat) : Int)] ?o ?s L2 ?_; (case o => first | exact h50 | exact h50.alloc _); (case s => first | exact hS | exact SrcI.lone (alloc_at w50 _)); intro v53 w53 h53 g53)
              | (refine step_old (by rfl) (.tmp 53) (.tmp 56) (by rfl) wc (zs (([] : List Nat).take 0) ++ [((0 : Nat) : Int)]) (zs (([] : List Nat).drop 0)) h53 SR L3 ?_; intro v57 w57 h57 g57))
          all_goals
            have HP5 : Hid _ := HP.out.ins hp
            have HR5 : Hid _ := row_ins (B := B + 2) HP.out.len hp (by have h1 := lt_at HY4.out.mem.mem; omega) h57
            have HY5 : Hid _ := HY4.out.still h57.kept
            clear g50 g53 g57 h50 h53 h57 OA OB OC SB SC SL SR L1 L2 L3 K0 HY4 HR4 HP
            go_wp2
            go_roundw
            case rel => exact ⟨0 + 1, _, _, by omega, by go_num, by simp [hql], HP5.out, HR5.out, HY5.out⟩
            case measure => simp [intOf]; omega
        · by_cases hpp : pc = p
          · obtain rfl : p = j := by omega
            subst hpp
            have K0 : Kept (fun _ => False) wc wc.drew := (Kept.refl _ wc).drew
            have OA : OwnI wc (.slice (some ⟨E, 0, none⟩) 0 0) [] (wc.alloc (.cells #[] 3)).drew := OwnI.made K0 hE
            have OB : OwnI wc (.slice (some ⟨E, 0, none⟩) 0 0) [] ((wc.alloc (.cells #[] 3)).alloc (.cells #[.int .i64 (pc : Int)] 3)).drew := OA.alloc _
            have OC : OwnI wc (.slice (some ⟨E + 1, 0, none⟩) 0 0) [] ((wc.alloc (.cells #[.int .i64 (pc : Int)] 3)).alloc (.cells #[] 3)).drew := OwnI.made (K0.alloc _) (by simp [hE])
            have SB : SrcI (.slice (some ⟨E + 1, 0, none⟩) 1 1) [(pc : Int)] ((wc.alloc (.cells #[] 3)).alloc (.cells #[.int .i64 (pc : Int)] 3)).drew := SrcI.lone (hE ▸ alloc_at1 wc _ _)
            have SC : SrcI (.slice (some ⟨E, 0, none⟩) 1 1) [(pc : Int)] ((wc.alloc (.cells #[.int .i64 (pc : Int)] 3)).alloc (.cells #[] 3)).drew := SrcI.lone (hE ▸ alloc_off (alloc_at wc _))
            have hplen : Hid (pl.length = pc) := HP.out.len
            have SL : SrcI (.slice (some ⟨pg, 0, none⟩) pc pc) (zs (pl.take pc)) wc := by
              have hplen := hplen.out
              have := SrcI.part HR4.out 0 pc pc (by omega)
              simpa [zs, List.map_take] using this
            have SR : SrcI (.slice (some ⟨pg, 0, none⟩) 0 0) (zs (pl.drop pc)) wc := by
              have hplen := hplen.out
              have := SrcI.part HR4.out 0 0 0 (by omega)
              have e : pl.drop pc = [] := List.drop_eq_nil_of_le (by omega)
              rw [e]
              simpa [zs] using this
            have L1 : ([] : List Int).length + (zs (pl.take pc)).length ≤ 1000 := by have hl := HP.out.len; simp [zs] <;> omega
            have L2 : (zs (pl.take pc)).length + [(pc : Int)].length ≤ 1000 := by have hl := HP.out.len; simp [zs] <;> omega
            have L3 : (zs (pl.take pc) ++ [(pc : Int)]).length + (zs (pl.drop pc)).length ≤ 1000 := by have hl := HP.out.len; simp [zs] <;> omega
            go_wp2_with fail
            go_region_held3 (fun _ => True) (exact True.intro)
              (first
                | (refine step_old (by rfl) (.tmp 46) (.tmp 49) (by rfl) wc [] (zs (pl.take pc)) ?o SL L1 ?_; (case o => first | exact OA | exact OB | exact OC); intro v50 w50 h50 g50; rw [List.nil_append] at h50; first | have hS := SB.grown (row := some E) g50 (by simp) | have hS := SC.grown (row := some (E + 1)) g50 (by simp) | skip)
                | (refine step_app (by rfl) (.tmp 50) (.tmp 52) (by rfl) wc (zs (pl.take pc)) [(pc : Int)] ?o ?s L2 ?_; (case o => first | exact h50 | exact h50.alloc _); (case s => first | exact hS | exact SrcI.lone (alloc_at w50 _)); intro v53 w53 h53 g53)
                | (refine step_old (by rfl) (.tmp 53) (.tmp 56) (by rfl) wc (zs (pl.take pc) ++ [(pc : Int)]) (zs (pl.drop pc)) h53 SR L3 ?_; intro v57 w57 h57 g57))
            all_goals
              have HP5 : Hid _ := HP.out.ins hp
              have HR5 : Hid _ := row_ins (B := B + 2) HP.out.len hp (by have h1 := lt_at HY4.out.mem.mem; omega) h57
              have HY5 : Hid _ := HY4.out.still h57.kept
              clear g50 g53 g57 h50 h53 h57 OA OB OC SB SC SL SR L1 L2 L3 K0 HY4 HR4 HP
              go_wp2
              go_roundw
              case rel => exact ⟨pc + 1, _, _, by omega, by go_num, by simp [hql], HP5.out, HR5.out, HY5.out⟩
              case measure => simp [intOf]; omega
          · have K0 : Kept (fun _ => False) wc wc.drew := (Kept.refl _ wc).drew
            have OA : OwnI wc (.slice (some ⟨E, 0, none⟩) 0 0) [] (wc.alloc (.cells #[] 3)).drew := OwnI.made K0 hE
            have OB : OwnI wc (.slice (some ⟨E, 0, none⟩) 0 0) [] ((wc.alloc (.cells #[] 3)).alloc (.cells #[.int .i64 (j : Int)] 3)).drew := OA.alloc _
            have OC : OwnI wc (.slice (some ⟨E + 1, 0, none⟩) 0 0) [] ((wc.alloc (.cells #[.int .i64 (j : Int)] 3)).alloc (.cells #[] 3)).drew := OwnI.made (K0.alloc _) (by simp [hE])
            have SB : SrcI (.slice (some ⟨E + 1, 0, none⟩) 1 1) [(j : Int)] ((wc.alloc (.cells #[] 3)).alloc (.cells #[.int .i64 (j : Int)] 3)).drew := SrcI.lone (hE ▸ alloc_at1 wc _ _)
            have SC : SrcI (.slice (some ⟨E, 0, none⟩) 1 1) [(j : Int)] ((wc.alloc (.cells #[.int .i64 (j : Int)] 3)).alloc (.cells #[] 3)).drew := SrcI.lone (hE ▸ alloc_off (alloc_at wc _))
            have hplen : Hid (pl.length = j) := HP.out.len
            have SL : SrcI (.slice (some ⟨pg, 0, none⟩) p pc) (zs (pl.take p)) wc := by
              have hplen := hplen.out
              have := SrcI.part HR4.out 0 p pc (by omega)
              simpa [zs, List.map_take] using this
            have SR : SrcI (.slice (some ⟨pg, p, none⟩) (j - p) (pc - p)) (zs (pl.drop p)) wc := by
              have hplen := hplen.out
              have := SrcI.part HR4.out p (j - p) (pc - p) (by omega)
              rw [List.take_of_length_le (by simp [zs]; omega)] at this
              simpa [zs, List.map_drop] using this
            have L1 : ([] : List Int).length + (zs (pl.take p)).length ≤ 1000 := by have hl := HP.out.len; simp [zs] <;> omega
            have L2 : (zs (pl.take p)).length + [(j : Int)].length ≤ 1000 := by have hl := HP.out.len; simp [zs] <;> omega
            have L3 : (zs (pl.take p) ++ [(j : Int)]).length + (zs (pl.drop p)).length ≤ 1000 := by have hl := HP.out.len; simp [zs] <;> omega
            go_wp2_with fail
            go_region_held3 (fun _ => True) (exact True.intro)
              (first
                | (refine step_old (by rfl) (.tmp 46) (.tmp 49) (by rfl) wc [] (zs (pl.take p)) ?o SL L1 ?_; (case o => first | exact OA | exact OB | exact OC); intro v50 w50 h50 g50; rw [List.nil_append] at h50; first | have hS := SB.grown (row := some E) g50 (by simp) | have hS := SC.grown (row := some (E + 1)) g50 (by simp) | skip)
                | (refine step_app (by rfl) (.tmp 50) (.tmp 52) (by rfl) wc (zs (pl.take p)) [(j : Int)] ?o ?s L2 ?_; (case o => first | exact h50 | exact h50.alloc _); (case s => first | exact hS | exact SrcI.lone (alloc_at w50 _)); intro v53 w53 h53 g53)
                | (refine step_old (by rfl) (.tmp 53) (.tmp 56) (by rfl) wc (zs (pl.take p) ++ [(j : Int)]) (zs (pl.drop p)) h53 SR L3 ?_; intro v57 w57 h57 g57))
            all_goals
              have HP5 : Hid _ := HP.out.ins hp
              have HR5 : Hid _ := row_ins (B := B + 2) HP.out.len hp (by have h1 := lt_at HY4.out.mem.mem; omega) h57
              have HY5 : Hid _ := HY4.out.still h57.kept
              clear g50 g53 g57 h50 h53 h57 OA OB OC SB SC SL SR L1 L2 L3 K0 HY4 HR4 HP
              go_wp2
              go_roundw
              case rel => exact ⟨j + 1, _, _, by omega, by go_num, by simp [hql], HP5.out, HR5.out, HY5.out⟩
              case measure => simp [intOf]; omega
    · have hjk' : j = k := by omega
      subst hjk'
      obtain ⟨g, cp, hv, hg, _⟩ := hY.tries.form (by omega)
      rw [hql] at hv
      subst hv
      rcases hpo with ⟨_, h0, _⟩ | ⟨pg, rfl⟩
      · exact absurd h0 (by omega)
      have HY : Hid _ := hY
      have HR : Hid _ := hR
      have HP : Hid _ := hP
      clear hY hR hP hc hao hj hjk
      go_wp2_with fail
      go_loopw [60] (fun i wr => ∃ (q : Nat) (ts : List T), q ≤ j ∧ i = .int .i64 q ∧ Lay j pl (took q) ts ∧ wr.ownsRow (B + 2) 3 1 (.slice (some ⟨pg, 0, none⟩) j pc) j (ints (zs pl)) ∧ Yard B q 0 q (.slice (some ⟨g, 0, none⟩) j cp) qs ts w1 wr) (fun i _ => j - (intOf i).toNat)
      case atStart => exact ⟨0, _, by omega, rfl, fun p hp => by rw [td_rep (HP.out.at hp)]; simp [took], HR.out, HY.out⟩
      case round =>
        obtain ⟨q, ts, hq, rfl, hL, hR, hY⟩ := hrel
        clear HY HR
        have hplen : pl.length = j := HP.out.len
        by_cases hqj : q < j
        · have t1 : (q : Int) < (j : Int) := by omega
          have d1 := row_cell hR (p := q) (by omega)
          have hyj : qd pl q < j := HP.out.at hqj
          have hyj' : ((qd pl q : Nat) : Int) < (j : Int) := by omega
          have hyq : qd pl q < qs.length := by omega
          have d2 := hY.tries.cell hyq
          have hB2 := hY.low hyq
          have htl : ts.length = j := by rw [hY.tries.len, hql]
          have ht := hY.try hyq
          rw [hL q hqj, show took q q = ⟨0, 0, -1⟩ by simp [took]] at ht
          have F := lock_fresh (B + 1) B _ q 0 q (-1) (by omega) (by omega) (by omega) (by omega) _ hY.mem ht
          have HL : Hid _ := hL.put (g := took (q + 1)) HP.out htl hqj ⟨0, 1, q⟩ (fun p _ => took_step)
          have HY : Hid _ := hY
          have HR : Hid _ := hR
          clear hY hR hL ht hplen
          generalize hy : qd pl q = y at *
          go_wp2_with fail
          refine F.mono ?_
          rintro e w6 ⟨rfl, hm6, hq6, hk6⟩
          have HY6 : Hid _ := HY.out.step hyq hm6 hq6 hk6
          have HR6 : Hid _ := row_step HY.out HR.out hyq hk6
          clear F hm6 hq6 hk6 HY HR d1 d2
          go_wp2
          go_roundw
          case rel => exact ⟨q + 1, _, by omega, by go_num, HL.out, HR6.out, HY6.out⟩
          case measure => simp [intOf]; omega
        · have hqj' : q = j := by omega
          subst hqj'
          have HL : Hid (Lay q pl (stt (tnOf q 0 0) (hOf q 0 0)) ts) := by rw [tnOf_start, hOf_start]; exact hL.same (fun p hp => took_all hp)
          have HY : Hid _ := hY
          have HR : Hid _ := hR
          clear hY hR hL hq hqj hplen
          go_wp2_with fail
          go_loopw [14, 15] (fun dv i wr => ∃ (r : Nat) (c : Int) (ts : List T), r ≤ 2 * q + 1 ∧ i = .int .i64 r ∧ dv = .int .i64 (tnOf q r 0) ∧ 0 ≤ c ∧ c ≤ 8 + 8 * r ∧ Lay q pl (stt (tnOf q r 0) (hOf q r 0)) ts ∧ wr.ownsRow (B + 2) 3 1 (.slice (some ⟨pg, 0, none⟩) q pc) q (ints (zs pl)) ∧ Yard B q (tnOf q r 0) c (.slice (some ⟨g, 0, none⟩) q cp) qs ts w1 wr) (fun _ i _ => 2 * q + 1 - (intOf i).toNat)
          case atStart => exact ⟨0, q, ts, by omega, rfl, by rw [tnOf_start]; rfl, by omega, by omega, HL.out, HR.out, by rw [tnOf_start]; exact HY.out⟩
          case round =>
            obtain ⟨r, c, ts, hr, rfl, rfl, hc0, hc1, hL, hR, hY⟩ := hrel
            clear HY HR HL
            have tq : IntKind.i64.wrap (2 * (q : Int)) = 2 * (q : Int) := by rw [IntKind.wrap_i64]; omega
            have HL : Hid _ := hL
            have HY : Hid _ := hY
            have HR : Hid _ := hR
            clear hL hY hR
            by_cases hrq : r < 2 * q + 1
            · have t1 : (r : Int) < 2 * (q : Int) + 1 := by omega
              go_wp2_with fail
              go_loopw [14, 80] (fun dv i wr => ∃ (p : Nat) (c : Int) (ts : List T), p ≤ q ∧ i = .int .i64 p ∧ dv = .int .i64 (tnOf q r p) ∧ 0 ≤ c ∧ c ≤ 8 + 8 * r + p ∧ Lay q pl (stt (tnOf q r p) (hOf q r p)) ts ∧ wr.ownsRow (B + 2) 3 1 (.slice (some ⟨pg, 0, none⟩) q pc) q (ints (zs pl)) ∧ Yard B q (tnOf q r p) c (.slice (some ⟨g, 0, none⟩) q cp) qs ts w1 wr) (fun _ i _ => q - (intOf i).toNat)
              case atStart => exact ⟨0, c, ts, by omega, rfl, rfl, by omega, by omega, HL.out, HR.out, HY.out⟩
              case round =>
                obtain ⟨p, c, ts, hp, rfl, rfl, hc0, hc1, hL, hR, hY⟩ := hrel
                clear HY HR HL
                have hplen : pl.length = q := HP.out.len
                by_cases hpq : p < q
                · have t2 : (p : Int) < (q : Int) := by omega
                  have d1 := row_cell hR (p := p) (by omega)
                  have hyj : qd pl p < q := HP.out.at hpq
                  have hyj' : ((qd pl p : Nat) : Int) < (q : Int) := by omega
                  have hyq : qd pl p < qs.length := by omega
                  have d2 := hY.tries.cell hyq
                  have hB2 := hY.low hyq
                  have htl : ts.length = q := by rw [hY.tries.len, hql]
                  have ht := hY.try hyq
                  have hm := hY.mem
                  have hp1 : qd qs (qd pl p) ≠ B + 1 := by omega
                  have hp2 : qd qs (qd pl p) ≠ B := by omega
                  have htn := @tnOf_le q r p
                  have hf := hL p hpq
                  rw [hf] at ht
                  have hput : ∀ (x : T) (g' : Nat → T), (∀ s, s < q → g' s = if s = p then x else stt (tnOf q r p) (hOf q r p) s) → Lay q pl g' (ts.set (qd pl p) x) := fun x g' h => hL.put HP.out htl hpq x h
                  have HL : Hid _ := hL
                  have HU : Hid _ := hput
                  have HY : Hid _ := hY
                  have HR : Hid _ := hR
                  have HF : Hid _ := hf
                  have hcs := @pick_cases q r p hpq
                  generalize htn0 : tnOf q r p = tn at *
                  generalize hh0 : hOf q r p = hb at *
                  generalize hy : qd pl p = y at *
                  clear hL hY hR hplen hput hf htn0 hh0 hy
                  rcases hcs with ⟨h1, h2, h3⟩ | ⟨h1, h2, h3, h4⟩ | ⟨h1, h2, h3, h4⟩ | ⟨h1, h2, h3⟩
                  · rw [stt_done h1] at ht
                    have A := at_w _ _ _ _ _ ht
                    clear hm ht
                    go_wp2_with fail
                    refine A.mono ?_
                    rintro e w5 ⟨rfl, rfl⟩
                    clear A d1 d2
                    go_wp2
                    go_roundw
                    case rel => exact ⟨p + 1, c, ts, by omega, by go_num, by rw [h2], by omega, by omega, by rw [h2, h3]; exact HL.out, HR.out, by rw [h2]; exact HY.out⟩
                    case measure => simp [intOf]; omega
                  · subst h1 h2
                    rw [stt_holds] at ht
                    have A := at_w _ _ _ _ _ ht
                    have F := lock_leave (B + 1) B _ q p c p (by omega) (by omega) hp1 hp2 _ hm ht
                    have HU2 : Hid _ := HU.out ⟨0, 3, p⟩ (stt (p + 1) false) (fun s _ => stt_leave p s)
                    clear hm ht HU
                    go_wp2_with fail
                    refine A.mono ?_
                    rintro e w5 ⟨rfl, rfl⟩
                    clear A
                    go_wp2_with fail
                    refine F.mono ?_
                    rintro e w6 ⟨rfl, hm6, hq6, hk6⟩
                    have HY6 : Hid _ := HY.out.step hyq hm6 hq6 hk6
                    have HR6 : Hid _ := row_step HY.out HR.out hyq hk6
                    clear F hm6 hq6 hk6 HY HR d1 d2
                    go_wp2
                    go_roundw
                    case rel => exact ⟨p + 1, c + 1, _, by omega, by go_num, by rw [h3]; go_num, by omega, by omega, by rw [h3, h4]; exact HU2.out, HR6.out, by rw [h3]; exact HY6.out⟩
                    case measure => simp [intOf]; omega
                  · subst h1 h2
                    rw [stt_next] at ht
                    have A := at_w _ _ _ _ _ ht
                    have F := lock_wins (B + 1) B _ q p c (by omega) hp1 hp2 _ hm ht
                    have HU2 : Hid _ := HU.out ⟨0, 2, p⟩ (stt p true) (fun s _ => stt_win p s)
                    clear hm ht HU
                    go_wp2_with fail
                    refine A.mono ?_
                    rintro e w5 ⟨rfl, rfl⟩
                    clear A
                    go_wp2_with fail
                    refine F.mono ?_
                    rintro e w6 ⟨rfl, hm6, hq6, hk6⟩
                    have HY6 : Hid _ := HY.out.step hyq hm6 hq6 hk6
                    have HR6 : Hid _ := row_step HY.out HR.out hyq hk6
                    clear F hm6 hq6 hk6 HY HR d1 d2
                    go_wp2
                    go_roundw
                    case rel => exact ⟨p + 1, c + 1, _, by omega, by go_num, by rw [h3], by omega, by omega, by rw [h3, h4]; exact HU2.out, HR6.out, by rw [h3]; exact HY6.out⟩
                    case measure => simp [intOf]; omega
                  · rw [stt_late h1] at ht
                    have A := at_w _ _ _ _ _ ht
                    have F := lock_waits (B + 1) B _ q tn p c (by omega) (by omega) hp1 _ hm ht
                    clear hm ht HU
                    go_wp2_with fail
                    refine A.mono ?_
                    rintro e w5 ⟨rfl, rfl⟩
                    clear A
                    go_wp2_with fail
                    refine F.mono ?_
                    rintro e w6 ⟨rfl, hm6, hq6, hk6⟩
                    have hY6 := HY.out.step hyq hm6 hq6 hk6
                    rw [set_same (HF.out.trans (stt_late h1))] at hY6
                    have HY6 : Hid _ := hY6
                    have HR6 : Hid _ := row_step HY.out HR.out hyq hk6
                    clear F hm6 hq6 hk6 HY HR hY6 d1 d2
                    go_wp2
                    go_roundw
                    case rel => exact ⟨p + 1, c + 1, ts, by omega, by go_num, by rw [h2], by omega, by omega, by rw [h2, h3]; exact HL.out, HR6.out, by rw [h2]; exact HY6.out⟩
                    case measure => simp [intOf]; omega
                · have hpq' : p = q := by omega
                  subst hpq'
                  obtain ⟨e1, e2⟩ := @round_on p r
                  have HL : Hid _ := hL
                  have HY : Hid _ := hY
                  have HR : Hid _ := hR
                  have HE : Hid (tnOf p (r + 1) 0 = tnOf p r p ∧ hOf p (r + 1) 0 = hOf p r p) := And.intro e1 e2
                  clear hL hY hR hplen e1 e2
                  go_wp2
                  go_roundw
                  case rel => exact ⟨r + 1, c, ts, by omega, by go_num, by rw [HE.out.1], by omega, by omega, by rw [HE.out.1, HE.out.2]; exact HL.out, HR.out, by rw [HE.out.1]; exact HY.out⟩
                  case measure => simp [intOf]; omega
            · have hrq' : r = 2 * q + 1 := by omega
              have t1 : ¬ (r : Int) < 2 * (q : Int) + 1 := by omega
              have e1 := tnOf_end (j := q) (r := r) (by omega) 0
              simp only [e1]
              have HK : Hid _ := HY.out.kept
              clear HL HY HR e1
              go_wp2_with fail
              refine (runs_w _).mono ?_
              rintro e w8 ⟨rfl, k8⟩
              have HK8 : Hid _ := k8
              clear k8
              go_wp2
              go_ret
              exact ⟨rfl, HK.out.trans HK8.out (fun _ _ e => e)⟩
end Go.Proofs.Ytlfcbijgncpieaa
