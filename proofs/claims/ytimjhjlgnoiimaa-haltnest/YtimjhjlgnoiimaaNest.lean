/- The statement on rows within rows; no conditions. -/
import Derived.Test.YtimjhjlgnoiimaaNestW
namespace Go.Proofs.Ytimjhjlgnoiimaa
open Go.RowKit

/-- The first of the deeds c .. N - 1 that stops. -/
def FirstFrom (o : Nat → Out) (N c want : Nat) (s0 s1 : Int) : Prop :=
  ((∀ j, c ≤ j → j < N → (o j).stopped = false) ∧ want = N ∧ s0 = 0 ∧ s1 = 0) ∨
  (c ≤ want ∧ want < N ∧ (∀ j, c ≤ j → j < want → (o j).stopped = false) ∧ (o want).stopped = true ∧ (o want).told = stopV s0 s1)

theorem FirstFrom.whole {o : Nat → Out} {N want : Nat} {s0 s1 : Int} (h : FirstFrom o N 0 want s0 s1) : FirstStop o N N want s0 s1 := by
  rcases h with ⟨a, b, c, d⟩ | ⟨_, b, c, d, e⟩
  · exact .inl ⟨fun j hj => a j (Nat.zero_le _) hj, b, c, d⟩
  · exact .inr ⟨fun j hj => c j (Nat.zero_le _) hj, b, d, e⟩

set_option maxRecDepth 100000 in
set_option maxHeartbeats 1600000 in
theorem haltNest_w (ao ao2 : Option Addr) (len cap b off len2 cap2 b2 off2 : Nat) (K A K2 A2 : Nat → Int) (hlc : len ≤ cap) (hm : cap ≤ 9223372036854775807) (w : World)
    (hc : Deeds ao len b off K A w) (hc2 : Deeds ao2 len2 b2 off2 K2 A2 w) :
    Calls Try.prog 7 #[.slice ao len cap, .slice ao2 len2 cap2] w fun e w' => e = .returned (.bool true) ∧ Kept (fun _ => False) w w' := by
  have hmf := makeF
  obtain ⟨N, hNN, hN6, hNl, hNA, hNB⟩ : ∃ N : Nat, N = min len 6 ∧ N ≤ 6 ∧ N ≤ len ∧ (len ≤ 6 → N = len) ∧ (6 < len → N = 6) := ⟨min len 6, rfl, by omega, by omega, by omega, by omega⟩
  have HN : Hid _ := hNN
  have HC : Hid _ := hc
  have HC2 : Hid _ := hc2
  clear hNN hc hc2
  go_enter Try.func7, Try.ntmps7
  go_wp2_with fail
  have K7 : Kept (fun _ => False) w _ := (((((((Kept.refl (fun _ => False) w).alloc (.cells #[.slice ao len cap] 32)).alloc (.cells #[.slice ao2 len2 cap2] 32)).alloc (.cells #[.slice none 0 0] 27)).alloc (.cells #[.int .i64 0] 3)).alloc (.cells #[.int .i64 0] 3)).alloc (.cells #[.int .i64 0, .int .i64 0] 23)).alloc
    (.cells #[nestF w.heap.size (w.heap.size + 1 + 1) (w.heap.size + 1 + 1 + 1) (w.heap.size + 1 + 1 + 1 + 1 + 1) (w.heap.size + 1 + 1 + 1 + 1) 0, nestF w.heap.size (w.heap.size + 1 + 1) (w.heap.size + 1 + 1 + 1) (w.heap.size + 1 + 1 + 1 + 1 + 1) (w.heap.size + 1 + 1 + 1 + 1) 1] 1)
  refine (nest_outer ao len cap b off K A w.heap.size (w.heap.size + 1 + 1) (w.heap.size + 1 + 1 + 1) (w.heap.size + 1 + 1 + 1 + 1 + 1) (w.heap.size + 1 + 1 + 1 + 1) (w.heap.size + 1 + 1 + 1 + 1 + 1 + 1) N HN.out _ (HC.out.kept K7 (by simp))
    (alloc_off (alloc_off (alloc_off (alloc_off (alloc_off (alloc_off (alloc_at _ _))))))) (alloc_off (alloc_off (alloc_off (alloc_off (alloc_at' _ (by simp)))))) (alloc_off (alloc_off (alloc_off (alloc_at' _ (by simp)))))
    (alloc_off (alloc_at' _ (by simp))) (alloc_off (alloc_off (alloc_at' _ (by simp)))) (by omega) (alloc_at' _ (by simp))).mono ?_
  rintro e w1 ⟨rfl, m, s0, s1, v', a1, a2, a3, a4, a5, a6, a7, a8, a9, a10⟩
  have hsz : w.heap.size + 1 + 1 + 1 + 1 + 1 + 1 + 1 ≤ w1.heap.size := by have := a10.size; simpa using this
  have L1 := a10.at (alloc_off (alloc_off (alloc_off (alloc_off (alloc_off (alloc_off (alloc_at w (.cells #[.slice ao len cap] 32)))))))) (by omega)
  have M1 := a10.at (alloc_off (alloc_off (alloc_off (alloc_off (alloc_off (alloc_at1 w (.cells #[.slice ao len cap] 32) (.cells #[.slice ao2 len2 cap2] 32))))))) (by omega)
  have K1 : Kept (fun _ => False) w w1 := K7.trans a10 (fun k hk h => by omega)
  have hrow : ∀ k, v'.ownBlock = some k → w.heap.size + 1 + 1 + 1 + 1 + 1 + 1 + 1 ≤ k := fun k e => by have := a9 k e; simpa using this
  clear a9 a10 K7
  have HA : Hid (_ ∧ _ ∧ _ ∧ _) := ⟨a1, a2, a3, a4⟩
  have HX : Hid (_ ∧ _ ∧ _ ∧ _ ∧ _ ∧ _) := ⟨a5, a6, a7, a8, M1, hrow⟩
  have HK : Hid _ := K1
  have HL : Hid _ := L1
  have c0 := cell_at L1 (i := 0) rfl
  have l0 : w.heap.size < w1.heap.size := by omega
  clear a1 a2 a3 a4 a5 a6 a7 a8 M1 hrow K1 L1
  go_wp2_with fail
  all_goals
    go_loopw [11, 13] (fun want i wr => ∃ (c want' : Nat) (t0 t1 : Int), c ≤ N ∧ want' ≤ N ∧ i = .int .i64 ((c : Int) - 1) ∧ want = .int .i64 want' ∧ wr.heap[w1.heap.size + 1]? = some (.cells #[.int .i64 t0, .int .i64 t1] 23 (0, 0)) ∧
        FirstFrom (fun j => outOf (K j) (A j)) N c want' t0 t1 ∧ Kept (fun x => x = w1.heap.size + 1) ((w1.alloc (.cells #[.int .i64 0, .int .i64 0] 23)).alloc (.cells #[.int .i64 0, .int .i64 0] 23)) wr)
      (fun _ i _ => (intOf i + 1).toNat)
    case atStart =>
      have hN : N = len ∨ N = 6 := by omega
      refine ⟨N, N, 0, 0, Nat.le_refl _, Nat.le_refl _, ?_, ?_, alloc_at1 _ _ _, .inl ⟨fun j h1 h2 => by omega, rfl, rfl, rfl⟩, Kept.refl _ _⟩
      · first
          | (rw [hNA (by omega)])
          | (rw [hNB (by omega)]; rfl)
      · first
          | (rw [hNA (by omega)])
          | (rw [hNB (by omega)]; rfl)
    case round =>
      obtain ⟨c, want, t0, t1, hcN, hwN, rfl, rfl, hT, hFF, hKr⟩ := hrel
      have HF : Hid (FirstFrom (fun j => outOf (K j) (A j)) N c want t0 t1) := hFF
      have HT : Hid _ := hT
      have HR : Hid _ := hKr
      have cl := hKr.cell (((Kept.refl (fun _ => False) w1).alloc _).alloc _ |>.cell c0 (by simp)) (by simp; omega)
      clear hFF hT hKr
      cases c with
      | zero =>
        obtain ⟨a1, a2, a3, a4⟩ := HA.out
        obtain ⟨a5, a6, a7, a8, M1, hrow⟩ := HX.out
        obtain ⟨e1, e2⟩ := first_unique HF.out.whole a1 a2 a3
        subst e1
        have e3 := a4.symm.trans e2
        simp [stopV] at e3
        obtain ⟨rfl, rfl⟩ := e3
        have KW : Kept (fun _ => False) w1 ((w1.alloc (.cells #[.int .i64 0, .int .i64 0] 23)).alloc (.cells #[.int .i64 0, .int .i64 0] 23)) := ((Kept.refl _ w1).alloc _).alloc _
        have Z := HR.out.at (alloc_off (alloc_at w1 _)) (by omega)
        have b5 := HR.out.at (KW.at a5 (by simp)) (by omega)
        have b6 := HR.out.at (KW.at a6 (by simp)) (by omega)
        have b7 := HR.out.at (KW.at a7 (by simp)) (by omega)
        have bM := HR.out.at (KW.at M1 (by simp)) (by omega)
        have bs : Seen (w.heap.size + 1 + 1) v' (firsts (min (m + 1) N)) wr := (a8.kept KW (by simp) (by simp)).kept HR.out (by omega) (fun k e h => by have := a8.row_lt e; omega)
        have D2 : Deeds ao2 len2 b2 off2 K2 A2 wr := ((HC2.out.kept HK.out (by simp)).kept KW (by simp)).kept HR.out (fun h0 e => by have := HC2.out.lt h0; omega)
        have KR : Kept (fun _ => False) w wr := ((HK.out.trans KW (fun _ _ h => h)).trans HR.out (fun k hk e => by omega))
        have bT := HT.out
        clear a1 a2 a3 a4 a5 a6 a7 a8 M1 e2 HA HX HF HR HT HC HC2 HK HL c0 cl KW
        have x0 := cell_at Z (i := 0) rfl
        have x1 := cell_at Z (i := 1) rfl
        have x2 := cell_at b5 (i := 0) rfl
        have x3 := cell_at b6 (i := 0) rfl
        have x4 := cell_at b6 (i := 1) rfl
        have x5 := cell_at b7 (i := 0) rfl
        have x6 := cell_at bT (i := 0) rfl
        have x7 := cell_at bT (i := 1) rfl
        have x8 := cell_at bM (i := 0) rfl
        have HD : Hid (_ ∧ _ ∧ _ ∧ _) := ⟨D2, bM, bs, hrow⟩
        have HK : Hid _ := KR
        clear Z b5 b6 b7 bM bs D2 KR bT hrow
        by_cases hpos : 0 < len2
        · have hpos' : (0 : Int) < (len2 : Int) := by omega
          go_wp2_with fail
          obtain ⟨D2, bM, bs, hrow⟩ := HD.out
          refine (one_guard ao2 len2 cap2 b2 off2 K2 A2 (w.heap.size + 1) (w.heap.size + 1 + 1) hpos v' _ wr D2 bM bs (by simp [firsts_length]; omega)).mono ?_
          rintro e w4 ⟨rfl, hA⟩
          have K4 : Kept (fun _ => False) w w4 := HK.out.trans hA.1 (by
            rintro k hk (e | e)
            · omega
            · have := hrow k e; omega)
          have HK4 : Hid _ := K4
          clear K4 hA D2 bM bs hrow HD HK x0 x1 x2 x3 x4 x5 x6 x7 x8
          go_wp2_with fail
          refine (runs_w _).mono ?_
          rintro e w5 ⟨rfl, k5⟩
          have HK5 : Hid (Kept (fun _ => False) w w5) := (HK4.out.alloc _).trans k5 (fun _ _ h => h)
          clear k5
          go_wp2
          go_ret
          exact ⟨rfl, HK5.out⟩
        · have hpos' : ¬ (0 : Int) < (len2 : Int) := by omega
          go_wp2_with fail
          refine (runs_w _).mono ?_
          rintro e w5 ⟨rfl, k5⟩
          have HK5 : Hid (Kept (fun _ => False) w w5) := HK.out.trans k5 (fun _ _ h => h)
          clear k5
          go_wp2
          go_ret
          exact ⟨rfl, HK5.out⟩
      | succ c =>
        simp only [show ((c + 1 : Nat) : Int) - 1 = (c : Int) from by omega]
        have hD : Deeds ao len b off K A wr := ((HC.out.kept HK.out (by simp)).kept (((Kept.refl (fun _ => False) w1).alloc _).alloc _) (by simp)).kept HR.out (fun h0 e => by have := HC.out.lt h0; omega)
        obtain ⟨d0, d1⟩ := hD.cells c (by omega)
        obtain rfl := hD.addr (by omega)
        have hcl : (c : Int) < (len : Int) := by omega
        clear hD
        go_wp2_with fail
        refine (stops_w (K c) (A c) _).mono ?_
        rintro e w2 ⟨rfl, k2⟩
        have f2 := k2.at HT.out (by simp)
        have R2 := HR.out.trans k2 (fun _ _ h => h.elim)
        obtain ⟨x0, x1, hab⟩ := told_agg (outOf (K c) (A c))
        simp only [hab]
        have HB : Hid _ := hab
        have HT2 : Hid _ := f2
        have HR2 : Hid _ := R2
        have e0 := cell_at f2 (i := 0) rfl
        have e1 := cell_at f2 (i := 1) rfl
        have q0 := free_at f2 0
        have q1 := free_at f2 1
        have l2 := lt_at f2
        clear f2 R2 k2 hab HT HR cl d0 d1 c0
        cases hst : (outOf (K c) (A c)).stopped with
        | true =>
          have HS : Hid _ := hst
          clear hst
          go_wp2
          go_region
          all_goals (try go_wp2)
          go_roundw
          case rel =>
            have k3 : Kept (fun n => n = w1.heap.size + 1) w2 (((w2.setCell ⟨w1.heap.size + 1, 0, none⟩ (.int .i64 x0)).setCell ⟨w1.heap.size + 1, 1, none⟩ (.int .i64 x1)).alloc (.cells #[.int .i64 x0, .int .i64 x1] 23)).drew := by
              refine Kept.drew (Kept.alloc (Kept.setCell (Kept.setCell (Kept.refl _ _) ?_ _) ?_ _) _) <;> (intro _; rfl)
            refine ⟨c, c, x0, x1, by omega, by omega, rfl, rfl, ?_, ?_, HR2.out.trans k3 (fun n _ h => h)⟩
            · exact alloc_off (set_at (set_at HT2.out 0 (.int .i64 x0)) 1 (.int .i64 x1))
            · exact .inr ⟨Nat.le_refl _, by omega, fun j h1 h2 => by omega, HS.out, HB.out⟩
          case measure => first | (simp [intOf]; done) | (simp [intOf]; omega)
        | false =>
          have HS : Hid _ := hst
          clear hst
          go_wp2
          go_roundw
          case rel =>
            refine ⟨c, want, t0, t1, by omega, hwN, rfl, rfl, alloc_off HT2.out, ?_, HR2.out.alloc _⟩
            rcases HF.out with ⟨h1, h2, h3, h4⟩ | ⟨h1, h2, h3, h4, h5⟩
            · refine .inl ⟨fun j hj hj' => ?_, h2, h3, h4⟩
              by_cases e : j = c
              · subst e; exact HS.out
              · exact h1 j (by omega) hj'
            · refine .inr ⟨by omega, h2, fun j hj hj' => ?_, h4, h5⟩
              by_cases e : j = c
              · subst e; exact HS.out
              · exact h3 j (by omega) hj'
          case measure => first | (simp [intOf]; done) | (simp [intOf]; omega)
end Go.Proofs.Ytimjhjlgnoiimaa
