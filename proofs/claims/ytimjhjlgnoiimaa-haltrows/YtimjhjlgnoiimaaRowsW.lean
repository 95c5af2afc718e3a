/- The statement on deeds in a row; no conditions. -/
import Derived.Test.YtimjhjlgnoiimaaFs
namespace Go.Proofs.Ytimjhjlgnoiimaa
open Go.RowKit

theorem info_func : (Try.prog.info? 1).map (fun i => (i.zero, i.size, i.bytes)) = some (some .nilFunc, 1, 8) := by kernel_rfl

set_option maxRecDepth 100000 in
set_option maxHeartbeats 800000 in
theorem haltRows_w (ao : Option Addr) (len cap b off : Nat) (K A : Nat → Int) (hao : 0 < len → ao = some ⟨b, off, none⟩) (hnil : ao = none → len = 0 ∧ cap = 0) (hlc : len ≤ cap) (hm : cap ≤ 9223372036854775807) (w : World)
    (hc : ∀ i, i < len → w.cell? ⟨b, off + i * 2, none⟩ = some (.int .i64 (K i)) ∧ w.cell? ⟨b, off + i * 2 + 1, none⟩ = some (.int .i64 (A i))) :
    Calls Try.prog 4 #[.slice ao len cap] w fun e w' => e = .returned (.bool true) ∧ Kept (fun _ => False) w w' := by
  have hmf := makeF
  obtain ⟨i0, hi, hz0, hz1, hz2⟩ := info_parts info_func
  obtain ⟨N, hN12, hNl, hNA, hNB⟩ : ∃ N : Nat, N ≤ 12 ∧ N ≤ len ∧ (len ≤ 12 → N = len) ∧ (12 < len → N = 12) := ⟨min len 12, by omega, by omega, by omega, by omega⟩
  go_enter Try.func4, Try.ntmps4
  go_wp2_with fail
  all_goals
    go_loopw [4, 5, 7] (fun fs want i wr => ∃ (k want' : Nat) (ps : List (Nat × Nat)) (s0 s1 : Int), ps.length = k ∧ k ≤ N ∧ i = .int .i64 k ∧ want = .int .i64 want' ∧ want' ≤ N ∧ FsInv 19 K A w.heap.size ps fs wr ∧
        wr.heap[w.heap.size + 1]? = some (.cells #[.int .i64 s0, .int .i64 s1] 23 (0, 0)) ∧ FirstStop (fun j => outOf (K j) (A j)) N k want' s0 s1 ∧ Kept (fun _ => False) w wr ∧ (∀ x, fs.ownBlock = some x → w.heap.size ≤ x))
      (fun _ _ i _ => N - (intOf i).toNat)
    case atStart =>
      have hN : N = len ∨ N = 12 := by omega
      refine ⟨0, N, [], 0, 0, rfl, by omega, rfl, ?_, Nat.le_refl _, ⟨World.ownsRow_nil _ _ _ _, by simp, alloc_off (alloc_at _ _)⟩, alloc_at1 _ _ _, .inl ⟨by simp, rfl, rfl, rfl⟩, ((Kept.refl _ w).alloc _).alloc _, by intro x e; simp [Value.ownBlock] at e⟩
      first
        | (rw [hNA (by omega)])
        | (rw [hNB (by omega)]; rfl)
    case round =>
      obtain ⟨k, want, ps, s0, s1, hps, hk, rfl, rfl, hwN, hI, hF1, hFS, hK, hB⟩ := hrel
      have HI : Hid _ := hI
      have HF : Hid _ := hF1
      have HS : Hid (FirstStop (fun j => outOf (K j) (A j)) N k want s0 s1) := hFS
      have HK : Hid _ := hK
      have HP : Hid _ := hps
      have HB : Hid _ := hB
      clear hB
      by_cases hkN : k < N
      · have hkl : (k : Int) < (len : Int) := by omega
        have hk12 : (k : Int) < 12 := by omega
        obtain ⟨hc0, hc1⟩ := hc k (by omega)
        have d0 := hK.cell hc0 (by simp)
        have d1 := hK.cell hc1 (by simp)
        obtain rfl := hao (by omega)
        have hI2 := hI.kept0 (((Kept.refl _ wr).alloc (.cells #[.int .i64 (K k), .int .i64 (A k)] 35)).alloc (.cells #[.int .i64 k] 3))
        clear hI hF1 hFS hK hps hc0 hc1 hao hnil hc
        go_wp2_with (at_builtin; refine append_new _ rfl _ _ 33 rfl 1 i0 .nilFunc 8 Try.underlying33 hi hz0 hz1 hz2 rfl _ _ _ rfl (hI2.own.alloc _) ⟨wr.heap.size + 1 + 1, 0, none⟩ 1 (mkF 19 w.heap.size (wr.heap.size, wr.heap.size + 1)) rfl ?c1 rfl ?c3 ?c4 ?_)
        case c1 => exact cell_at (alloc_at' _ (by simp)) (i := 0) rfl
        case c3 => unfold maxLen; have := HP.out; omega
        case c4 => have := HP.out; omega
        intro g cp w1 hown hgr hg
        obtain ⟨I1, hof, hd, K1, hgw⟩ := fs_step HI.out HP.out HB.out HK.out hown hgr (by rcases hg with h | h; exact .inl h; exact .inr (by omega))
        have f1 := hof (by decide) HF.out
        clear hown hgr hg hI2 hof HI HB HK HF d0 d1
        have d0 := cell_at hd (i := 0) rfl
        have d1 := cell_at hd (i := 1) rfl
        have HI : Hid _ := I1
        have HK : Hid _ := K1
        have HF : Hid _ := f1
        clear I1 K1 f1 hd
        go_wp2_with fail
        refine (stops_w (K k) (A k) w1).mono ?_
        rintro e w2 ⟨rfl, k2⟩
        have I2 := HI.out.kept0 k2
        have K2 := HK.out.trans k2 (fun _ _ h => h)
        have f2 := k2.at HF.out (by simp)
        clear HI HK HF d0 d1 k2
        obtain ⟨a0, a1, hab⟩ := told_agg (outOf (K k) (A k))
        simp only [hab]
        have HA : Hid _ := hab
        clear hab
        have HI : Hid _ := I2
        have HK : Hid _ := K2
        have HF : Hid _ := f2
        have c0 := cell_at f2 (i := 0) rfl
        have c1 := cell_at f2 (i := 1) rfl
        have q0 := free_at f2 0
        have q1 := free_at f2 1
        have l0 := lt_at f2
        clear I2 K2 f2
        cases hst : (outOf (K k) (A k)).stopped with
        | true =>
          have HT : Hid _ := hst
          clear hst
          by_cases hwk : k < want
          · go_wp2
            go_region
            all_goals (try go_wp2)
            go_roundw
            case rel =>
              have hne : ∀ n, n = w.heap.size + 1 → ∀ c, w2.heap[n]? ≠ some (.cells c 1 (0, 0)) ∧ w2.heap[n]? ≠ some (.cells c 35 (0, 0)) ∧ w2.heap[n]? ≠ some (.cells c 3 (0, 0)) ∧ w2.heap[n]? ≠ some (.cells c 27 (0, 0)) := by
                rintro n rfl c
                rw [show w2.heap[w.heap.size + 1]? = _ from HF.out]
                simp
              have k3 : Kept (fun n => n = w.heap.size + 1) w2 (((w2.setCell ⟨w.heap.size + 1, 0, none⟩ (.int .i64 a0)).setCell ⟨w.heap.size + 1, 1, none⟩ (.int .i64 a1)).alloc (.cells #[.int .i64 a0, .int .i64 a1] 23)).drew := by
                refine Kept.drew (Kept.alloc (Kept.setCell (Kept.setCell (Kept.refl _ _) ?_ _) ?_ _) _) <;> (intro _; rfl)
              refine ⟨k + 1, k, _, a0, a1, ?_, by omega, by go_num, rfl, by omega, HI.out.kept k3 hne, ?_, ?_, HK.out.trans k3 (fun n hn e => by omega), ?_⟩
              · simp [HP.out]
              · exact alloc_off (set_at (set_at HF.out 0 (.int .i64 a0)) 1 (.int .i64 a1))
              · rcases HS.out with ⟨h1, h2, h3, h4⟩ | ⟨h1, h2, h3, h4⟩
                · exact .inr ⟨h1, by omega, HT.out, HA.out⟩
                · omega
              · intro x e
                have : g = x := by simpa [Value.ownBlock] using e
                omega
            case measure => simp [intOf]; omega
          · go_wp2
            go_roundw
            case rel =>
              refine ⟨k + 1, want, _, s0, s1, ?_, by omega, by go_num, rfl, hwN, HI.out.kept0 ((Kept.refl _ _).alloc _), alloc_off HF.out, ?_, HK.out.alloc _, ?_⟩
              · simp [HP.out]
              · rcases HS.out with ⟨h1, h2, h3, h4⟩ | ⟨h1, h2, h3, h4⟩
                · omega
                · exact .inr ⟨h1, by omega, h3, h4⟩
              · intro x e
                have : g = x := by simpa [Value.ownBlock] using e
                omega
            case measure => simp [intOf]; omega
        | false =>
          have HT : Hid _ := hst
          clear hst
          go_wp2
          go_roundw
          case rel =>
            refine ⟨k + 1, want, _, s0, s1, ?_, by omega, by go_num, rfl, hwN, HI.out.kept0 ((Kept.refl _ _).alloc _), alloc_off HF.out, ?_, HK.out.alloc _, ?_⟩
            · simp [HP.out]
            · rcases HS.out with ⟨h1, h2, h3, h4⟩ | ⟨h1, h2, h3, h4⟩
              · refine .inl ⟨fun j hj => ?_, h2, h3, h4⟩
                by_cases e : j = k
                · subst e; exact HT.out
                · exact h1 j (by omega)
              · exact .inr ⟨h1, by omega, h3, h4⟩
            · intro x e
              have : g = x := by simpa [Value.ownBlock] using e
              omega
          case measure => simp [intOf]; omega
      · have hkN' : k = N := by omega
        subst hkN'
        have hkx : ¬ ((k : Int) < (len : Int) ∧ (k : Int) < 12) := by omega
        obtain ⟨ao', cp', rfl⟩ := hI.form
        clear hI hF1 hFS hK hps hao hnil hc HB
        go_wp2_with fail
        have hp : ps.length = k := HP.out
        clear HP hNA hNB hkx hk hkN
        refine (run_deeds _ rows_fn K A w.heap.size ps _ wr HI.out (by omega)).mono ?_
        rintro e w1 ⟨m, hm1, hm2, hm3, rfl, hA⟩
        rw [hp] at hm1 hm3 hA ⊢
        obtain ⟨e1, e2⟩ := first_unique HS.out hm1 hm2 hm3
        subst e1
        rw [e2]
        simp only [stopV]
        have HM : Hid _ := hm2
        have f1 := hA.1.at HF.out (by simp [Value.ownBlock])
        have K1 : Kept (fun _ => False) w w1 := HK.out.trans hA.1 (by
          intro x hx e
          simp [Value.ownBlock] at e
          omega)
        clear hm2 hm3 e2 HS HI HF HK
        obtain ⟨hA1, v', sv, hA2⟩ := hA
        clear hA1 hA2
        obtain ⟨av, g, cv, rfl, hav, hcv⟩ := sv.form
        have hT : ([] ++ firsts (min (m + 1) k)).length = min (m + 1) k := by simp [firsts_length]
        have hsb := sv.box
        rw [hT] at hsb hav
        have hcv' : ∀ i : Nat, i < min (m + 1) k → w1.cell? ⟨g, i, none⟩ = some (.int .i64 i) := fun i hi => by
          rw [hcv i (by omega), firsts_get]
        clear hcv sv hT
        obtain ⟨T, hTT⟩ : ∃ T, T = min (m + 1) k := ⟨_, rfl⟩
        rw [← hTT] at hsb hav hcv'
        have c0 := cell_at f1 (i := 0) rfl
        have c1 := cell_at f1 (i := 1) rfl
        have c2 := cell_at hsb (i := 0) rfl
        have l0 := lt_at f1
        have l1 := lt_at hsb
        have HC : Hid _ := hcv'
        have HV : Hid _ := hav
        have HK : Hid _ := K1
        clear f1 K1 hsb hcv' hav
        rcases Nat.lt_or_ge m k with hmk | hmk
        · have hT1 : T = m + 1 := by omega
          clear hTT
          subst hT1
          have hmk' : ((m : Int) + 1) ≤ (k : Int) := by omega
          go_wp2_with fail
          go_loop [83] (fun x => ∃ i : Nat, i ≤ m + 1 ∧ x = .int .i64 i) (fun x => m + 1 - (intOf x).toNat)
          case atStart => exact ⟨0, Nat.zero_le _, rfl⟩
          case round =>
            obtain ⟨i, hiT, rfl⟩ := hrel
            by_cases hlt : i < m + 1
            · obtain ⟨rfl, hgl⟩ := HV.out (by omega)
              have ci := HC.out i hlt
              have hlt' : (i : Int) < ((m + 1 : Nat) : Int) := by omega
              go_wp2
              go_round
              case rel => exact ⟨i + 1, by omega, by go_num⟩
              case measure => simp [intOf]; omega
            · have hlt' : ¬ (i : Int) < ((m + 1 : Nat) : Int) := by omega
              go_wp2_with fail
              refine (guard_nil _).mono ?_
              rintro e w2 ⟨rfl, k2⟩
              have K2 := (HK.out.alloc (.cells #[.int .i64 s0, .int .i64 s1] 23)).trans k2 (fun _ _ h => h)
              have HK2 : Hid _ := K2
              clear k2 K2
              simp only [stopV]
              go_wp2_with fail
              refine (runs_w _).mono ?_
              rintro e w3 ⟨rfl, k3⟩
              have K3 := (HK2.out.alloc (.cells #[.int .i64 0, .int .i64 0] 23)).trans k3 (fun _ _ h => h)
              have HK3 : Hid _ := K3
              clear k3 K3
              go_wp2
              go_ret
              exact ⟨rfl, HK3.out⟩
        · have hT1 : T = k := by omega
          have hT2 : m = k := by omega
          clear hTT
          subst hT1
          subst hT2
          go_wp2_with fail
          go_loop [83] (fun x => ∃ i : Nat, i ≤ m ∧ x = .int .i64 i) (fun x => m - (intOf x).toNat)
          case atStart => exact ⟨0, Nat.zero_le _, rfl⟩
          case round =>
            obtain ⟨i, hiT, rfl⟩ := hrel
            by_cases hlt : i < m
            · obtain ⟨rfl, hgl⟩ := HV.out (by omega)
              have ci := HC.out i hlt
              have hlt' : (i : Int) < (m : Int) := by omega
              go_wp2
              go_round
              case rel => exact ⟨i + 1, by omega, by go_num⟩
              case measure => simp [intOf]; omega
            · have hlt' : ¬ (i : Int) < (m : Int) := by omega
              go_wp2_with fail
              refine (guard_nil _).mono ?_
              rintro e w2 ⟨rfl, k2⟩
              have K2 := (HK.out.alloc (.cells #[.int .i64 s0, .int .i64 s1] 23)).trans k2 (fun _ _ h => h)
              have HK2 : Hid _ := K2
              clear k2 K2
              simp only [stopV]
              go_wp2_with fail
              refine (runs_w _).mono ?_
              rintro e w3 ⟨rfl, k3⟩
              have K3 := (HK2.out.alloc (.cells #[.int .i64 0, .int .i64 0] 23)).trans k3 (fun _ _ h => h)
              have HK3 : Hid _ := K3
              clear k3 K3
              go_wp2
              go_ret
              exact ⟨rfl, HK3.out⟩
end Go.Proofs.Ytimjhjlgnoiimaa
