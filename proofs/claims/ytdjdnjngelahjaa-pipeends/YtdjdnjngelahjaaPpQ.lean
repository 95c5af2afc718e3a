
/- What the reference's pipes do when they are called: PipeWrite; no conditions but lengths. -/
import Derived.Test.YtdjdnjngelahjaaPpR
namespace Go.Proofs.Ytdjdnjngelahjaa
open Go.RowKit
set_option maxRecDepth 100000
set_option linter.unusedSimpArgs false

set_option maxHeartbeats 1000000 in
theorem rpwr_w {q R W p B : Nat} {f : StF} {g : VwF} {w : World} (h : RBoth q R W p B f g w) (i : Int) (d : ByteArray) (hsz : (pipV f g i).s.size ≤ 200) : Calls Try.prog 18 #[.pointer (some ⟨q, 0, none⟩), .int .i64 i, .string d] w
    fun e w' => e = .returned (pwrV (pwrA f g i d) (pwrK f g i d)) ∧ RBoth q R W p B f (pwrT f g i d) w' ∧ Kept (RW R W) w w' := by
  obtain ⟨lq, lR, lW, lp, lB⟩ := h.lt
  cases hP : isP f g i with
  | false =>
    have HE : Hid (pwrV (pwrA f g i d) (pwrK f g i d) = .tuple #[.int .i64 (-1), .int .i64 1] ∧ pwrT f g i d = isPT g i) := by
      unfold pwrA pwrK pwrT; rw [hP]; exact ⟨rfl, rfl⟩
    go_enter Try.func18, Try.ntmps18
    go_wp2_with fail
    refine (rpis_w h i).mono ?_
    rintro e w1 ⟨rfl, hv1, hk1⟩
    rw [hP]
    clear h
    go_wp2_with fail
    exact bodyPost_ret (v := .tuple #[.int .i64 (-1), .int .i64 1]) (by simp [results, Try.results18, go_sem]) rfl ⟨by rw [HE.out.1], by rw [HE.out.2]; exact hv1, hk1⟩
  | true =>
    have HE : Hid (pwrA f g i d = (if 0 < (pipV f g i).n0 then (if d.size = 0 then 0 else ((pwrN (pipV f g i) d : Nat) : Int)) else -1) ∧ pwrK f g i d = (if 0 < (pipV f g i).n0 then (if d.size = 0 ∨ (pipV f g i).s.size < 16 then 0 else 2) else 1) ∧
        pwrT f g i d = (if pwrGo (pipV f g i) d = true then vputT (seeT g i) (8, i) (withS (pipV f g i) (moreS (pipV f g i) d)) else seeT g i)) := by
      unfold pwrA pwrK pwrT; rw [hP, if_pos rfl, if_pos rfl, if_pos rfl]; exact ⟨rfl, rfl, rfl⟩
    have hpv : vgetF f (isPT g i) (8, i) = pipV f g i := pip_isPT (f := f) (g := g) i i
    go_enter Try.func18, Try.ntmps18
    go_wp2_with fail
    refine (rpis_w h i).mono ?_
    rintro e w1 ⟨rfl, hv1, hk1⟩
    rw [hP]
    clear h
    go_wp2_with fail
    refine (rpkey_w i _).mono ?_
    rintro e w2 ⟨rfl, hk2⟩
    have K2 : Kept (RW R W) w w2 := hk1.trans hk2 (fun _ _ e => e.elim)
    go_wp2_with fail
    refine (rg_w (hv1.still hk2) 8 i).mono ?_
    rintro e w3 ⟨rfl, hv3, hk3⟩
    rw [hpv]
    clear hpv hk1 hk2 hv1
    generalize pipV f g i = x at *
    have K3 : Kept (RW R W) w w3 := K2.trans hk3 (fun _ _ e => e)
    have hv3 : RBoth q R W p B f (seeT g i) w3 := hv3
    clear K2 hk3
    obtain ⟨F, hF⟩ : ∃ F : Nat, w3.heap.size = F := ⟨_, rfl⟩
    have lF : w.heap.size ≤ F := by have := K3.size; omega
    have nRW : ¬ RW R W F := by unfold RW; omega
    have hF4 : (w3.alloc (.cells (vc x).toArray 61)).heap[F]? = some (.cells (vc x).toArray 61 (0, 0)) := alloc_at' _ hF
    have hv4 := hv3.still ((Kept.refl _ w3).alloc (.cells (vc x).toArray 61))
    have K4 : Kept (RW R W) w (w3.alloc (.cells (vc x).toArray 61)) := K3.alloc _
    clear hv3 K3
    have c16 : (w3.alloc (.cells (vc x).toArray 61)).cell? ⟨F, 16, none⟩ = some (.string x.s) := cell_at hF4 rfl
    have c0 : (w3.alloc (.cells (vc x).toArray 61)).cell? ⟨F, 0, none⟩ = some (.int .i64 x.n0) := cell_at hF4 rfl
    by_cases hn0 : x.n0 ≤ 0
    · have HR : Hid (pwrV (pwrA f g i d) (pwrK f g i d) = .tuple #[.int .i64 (-1), .int .i64 1] ∧ pwrT f g i d = seeT g i) := by
        have hgo : ¬ pwrGo x d = true := by unfold pwrGo; simp only [Bool.and_eq_true, decide_eq_true_eq]; omega
        refine ⟨?_, by rw [HE.out.2.2, if_neg hgo]⟩
        rw [HE.out.1, HE.out.2.1, if_neg (by omega), if_neg (by omega)]; rfl
      clear HE
      go_wp2_with (first | (refine list_wnew rfl wide_V _ _ rfl F rfl (vc x) rfl _ rfl hF rfl (vc_one _) ?_))
      exact bodyPost_ret (v := .tuple #[.int .i64 (-1), .int .i64 1]) (by simp [results, Try.results18, go_sem]) rfl ⟨by rw [HR.out.1], by rw [HR.out.2]; exact hv4, K4⟩
    · have hn1 : 0 < x.n0 := by omega
      by_cases hz : d.size = 0
      · have hz2 : ((d.size : Int) == 0) = true := by rw [hz]; rfl
        have HR : Hid (pwrV (pwrA f g i d) (pwrK f g i d) = .tuple #[.int .i64 0, .int .i64 0] ∧ pwrT f g i d = seeT g i) := by
          have hgo : ¬ pwrGo x d = true := by unfold pwrGo; simp only [Bool.and_eq_true, decide_eq_true_eq]; omega
          refine ⟨?_, by rw [HE.out.2.2, if_neg hgo]⟩
          rw [HE.out.1, HE.out.2.1, if_pos hn1, if_pos hn1, if_pos hz, if_pos (.inl hz)]; rfl
        clear HE hz
        go_wp2_with (first | (refine list_wnew rfl wide_V _ _ rfl F rfl (vc x) rfl _ rfl hF rfl (vc_one _) ?_))
        exact bodyPost_ret (v := .tuple #[.int .i64 0, .int .i64 0]) (by simp [results, Try.results18, go_sem]) rfl ⟨by rw [HR.out.1], by rw [HR.out.2]; exact hv4, K4⟩
      · have hz2 : ((d.size : Int) == 0) = false := by simp [hz]
        by_cases hr : 16 ≤ x.s.size
        · have HR : Hid (pwrV (pwrA f g i d) (pwrK f g i d) = .tuple #[.int .i64 0, .int .i64 2] ∧ pwrT f g i d = seeT g i) := by
            have hgo : ¬ pwrGo x d = true := by unfold pwrGo; simp only [Bool.and_eq_true, decide_eq_true_eq]; omega
            refine ⟨?_, by rw [HE.out.2.2, if_neg hgo]⟩
            have e0 : pwrN x d = 0 := by unfold pwrN; omega
            rw [HE.out.1, HE.out.2.1, if_pos hn1, if_pos hn1, if_neg hz, if_neg (by omega), e0]; rfl
          have hr1 : (16 : Int) - (x.s.size : Int) ≤ 0 := by omega
          clear HE hz
          go_wp2_with (first | (refine list_wnew rfl wide_V _ _ rfl F rfl (vc x) rfl _ rfl hF rfl (vc_one _) ?_))
          exact bodyPost_ret (v := .tuple #[.int .i64 0, .int .i64 2]) (by simp [results, Try.results18, go_sem]) rfl ⟨by rw [HR.out.1], by rw [HR.out.2]; exact hv4, K4⟩
        · obtain ⟨m, hm⟩ : ∃ m : Nat, m = pwrN x d := ⟨_, rfl⟩
          have hm2 : m = min (16 - x.s.size) d.size := hm
          obtain ⟨z, hzz⟩ : ∃ z, d.extract 0 m = z := ⟨_, rfl⟩
          have hzs : z.size = m := by rw [← hzz, extract_bs, bs_size, List.length_take, List.length_drop, bl_len]; omega
          obtain ⟨r, hrr⟩ : ∃ r, x.s ++ z = r := ⟨_, rfl⟩
          have hr1 : ¬ (16 : Int) - (x.s.size : Int) ≤ 0 := by omega
          have hmx : (m : Int) ≤ d.size := by omega
          have hds : z.size ≤ 1000000 := by omega
          have HR : Hid (pwrV (pwrA f g i d) (pwrK f g i d) = .tuple #[.int .i64 (m : Int), .int .i64 0] ∧ pwrT f g i d = vputT (seeT g i) (8, i) (withS x r)) := by
            have hgo : pwrGo x d = true := by unfold pwrGo; simp only [Bool.and_eq_true, decide_eq_true_eq]; omega
            refine ⟨?_, by rw [HE.out.2.2, if_pos hgo, ← more_ext hm, hzz, hrr]⟩
            rw [HE.out.1, HE.out.2.1, if_pos hn1, if_pos hn1, if_neg hz, if_pos (by omega), ← hm]; rfl
          have hmin : (if 16 - (x.s.size : Int) < (d.size : Int) then 16 - (x.s.size : Int) else (d.size : Int)) = m := by split <;> omega
          clear HE hm hm2
          go_wp2_with (first | (refine list_wnew rfl wide_V _ _ rfl F rfl (vc x) rfl _ rfl hF rfl (vc_one _) ?_))
          generalize w3.alloc (.cells (vc x).toArray 61) = w4 at *
          clear hF c0
          have f16 := free_at hF4 16
          go_cut [8] from 39 to 45 (fun v wc => v = .pointer (some ⟨F, 0, none⟩) ∧ Hid (Kept (fun n => n = F) w4 wc ∧ wc.heap[F]? = some (.cells (vc (withS x r)).toArray 61 (0, 0))))
          case first =>
            go_region
            all_goals
              go_wp2
              go_meet
              case rel => exact And.intro rfl (And.intro (by refine Kept.drew (Kept.setCell (Kept.refl _ _) ?_ _); intro _; rfl) (by show (w4.setCell _ _).heap[F]? = _; rw [set_at hF4]; rfl))
          case rest =>
            obtain ⟨rfl, HC⟩ := hcut
            have hFy := HC.out.2
            have hvw : RBoth q R W p B f (seeT g i) wc := hv4.kept HC.out.1 (by omega) (by omega) (by omega) (by omega) (by omega)
            have hKw : Kept (RW R W) w wc := K4.trans HC.out.1 (fun k h1 h2 => by omega)
            clear hF4 c16 f16 HC hv4 K4 hmin hmx hrr hzz hzs hds hz hz2 hr hr1 hn1 hn0
            obtain ⟨y, hy⟩ : ∃ y, withS x r = y := ⟨_, rfl⟩
            rw [hy] at HR hFy
            clear hy
            have KS : ∀ w', Kept (RW R W) wc w' → True := fun _ _ => trivial
            have KV : ∀ w', Kept (RW R W) wc w' → w'.rangeAt F 0 (vc y) := fun w' hk' => range_kept (whole_range hFy) hk' nRW
            go_wp2_with fail
            refine wp_region_held_drew (S := fun w' => Kept (RW R W) wc w') (by kernel_rfl) ((Kept.refl _ _).drew) (fun hHeld => ?_)
            refine h_take 0 (some 46) (Op.move (Operand.tmp 0)) 27 ?v1 rfl rfl (by kernel_rfl) (by kernel_rfl) (by kernel_rfl) (fun _ _ _ h => h) ?hy1 hHeld ?_
            case hy1 => (intro _ _ _ w hSw; have hcs := KS _ hSw; go_simp; try with_reducible rfl)
            simp only [Act.put, List.setIfInBounds_toArray, List.set_cons_zero, List.set_cons_succ]
            refine h_take 1 (some 47) (Op.move (Operand.tmp 1)) 3 ?v2 rfl rfl (by kernel_rfl) (by kernel_rfl) (by kernel_rfl) (fun _ _ _ h => h) ?hy2 hHeld ?_
            case hy2 => (intro _ _ _ w hSw; have hcs := KS _ hSw; go_simp; try with_reducible rfl)
            simp only [Act.put, List.setIfInBounds_toArray, List.set_cons_zero, List.set_cons_succ]
            refine h_take 3 (some 49) (Op.load 61 (Operand.tmp 8)) 61 (vv y) rfl rfl (by kernel_rfl) (by kernel_rfl) (by kernel_rfl) (fun _ _ _ h => h) (fun _ _ _ w hSw => exec_load rfl (load_wide wide_V (KV w hSw) rfl)) hHeld ?_
            simp only [Act.put, List.setIfInBounds_toArray, List.set_cons_zero, List.set_cons_succ]
            refine h_step 2 (some 48) (Op.call { callee := Callee.value (Operand.func 37), args := #[Operand.tmp 47], argTypes := #[3] }) 58 rfl rfl (by kernel_rfl) (fun _ _ _ K hK => ?_)
            go_simp
            refine (rpkey_w i _).mono ?_
            rintro e w7 ⟨rfl, hk7⟩
            replace hk7 : Kept (fun _ => False) wc w7 := (Kept.refl _ wc).drew.thru hk7
            go_wp2_with fail
            refine hK.out _ _ (hk7.mono (fun _ _ e => e.elim)) (fun hHeld => ?_)
            clear hK K
            try simp only [Act.put, List.setIfInBounds_toArray, List.set_cons_zero, List.set_cons_succ]
            refine h_step 4 (some 50) (Op.call { callee := Callee.value (Operand.func 36), args := #[Operand.tmp 46, Operand.tmp 48, Operand.tmp 49], argTypes := #[27, 58, 61] }) 0 rfl rfl (by kernel_rfl) (fun _ _ _ K hK => ?_)
            go_simp
            refine (rp_w (hvw.still hk7) 8 i y).mono ?_
            rintro e w8 ⟨rfl, hv8, hk8⟩
            replace hk8 : Kept (RW R W) wc w8 := (hk7.mono (fun _ _ e => e.elim)).trans hk8 (fun _ _ e => e)
            go_wp2_with fail
            refine hK.out _ _ (hk8) (fun hHeld => ?_)
            clear hK K
            try simp only [Act.put, List.setIfInBounds_toArray, List.set_cons_zero, List.set_cons_succ]
            refine wpAnyH_done (by kernel_rfl) ?_ _
            have HZ : Hid (RBoth q R W p B f (pwrT f g i d) w8 ∧ Kept (RW R W) w w8) := ⟨by rw [HR.out.2]; exact hv8, hKw.trans hk8 (fun _ _ e => e)⟩
            clear hHeld KS KV hk7 hvw hk8 hv8 hFy hKw
            go_wp2_with fail
            exact bodyPost_ret (v := .tuple #[.int .i64 (m : Int), .int .i64 0]) (by simp [results, Try.results18, go_sem]) rfl ⟨by rw [HR.out.1], HZ.out⟩
end Go.Proofs.Ytdjdnjngelahjaa
