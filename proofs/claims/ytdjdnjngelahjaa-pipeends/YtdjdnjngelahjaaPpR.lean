
/- What the reference's pipes do when they are called: IsPipe, NewPipe, PipeRead; no conditions but lengths. -/
import Derived.Test.YtdjdnjngelahjaaPpD
namespace Go.Proofs.Ytdjdnjngelahjaa
open Go.RowKit
set_option maxRecDepth 100000
set_option linter.unusedSimpArgs false

theorem rpkey_w (i : Int) (w : World) : Calls Try.prog 37 #[.int .i64 i] w fun e w' => e = .returned (.agg #[.int .i64 8, .int .i64 i]) ∧ Kept (fun _ => False) w w' := by
  go_enter Try.func37, Try.ntmps37
  go_wp2
  exact bodyPost_ret (results_cell_row Try.results37 _ _ w.heap.size _ _ _ _ rfl (alloc_at _ _) Try.underlying58 rfl wide_K.size) rfl ⟨rfl, (Kept.refl _ _).alloc _⟩

theorem rpis_w {q R W p B : Nat} {f : StF} {g : VwF} {w : World} (h : RBoth q R W p B f g w) (i : Int) : Calls Try.prog 21 #[.pointer (some ⟨q, 0, none⟩), .int .i64 i] w
    fun e w' => e = .returned (.bool (isP f g i)) ∧ RBoth q R W p B f (isPT g i) w' ∧ Kept (RW R W) w w' := by
  by_cases hr : 0 ≤ i ∧ i < 4
  · have HV : Hid (isP f g i = hasB (vgetF f g (7, 0)).n0 i ∧ isPT g i = vgetT g (7, 0)) := isP_in hr
    obtain ⟨r1, r2⟩ := hr
    have i64 : i ≤ 64 := by omega
    go_enter Try.func21, Try.ntmps21
    go_wp2_with fail
    refine (rg_w h 7 0).mono ?_
    rintro e w2 ⟨rfl, hv2, hk2⟩
    have HZ : Hid (RBoth q R W p B f (isPT g i) w2 ∧ Kept (RW R W) w w2) := ⟨by rw [HV.out.2]; exact hv2, hk2⟩
    have hf := field_arr (vgetF f g (7, 0)) w2
    have hx := index_n0 (vgetF f g (7, 0)) w2
    clear hv2 hk2 h
    generalize vgetF f g (7, 0) = x at *
    have hb := and_one (x.n0 / 2 ^ i.toNat)
    cases hbit : hasB x.n0 i with
    | true =>
      have h1 : x.n0 / 2 ^ i.toNat % 2 = 1 := by simpa [hasB] using hbit
      rw [h1] at hb
      have HE : Hid (isP f g i = true) := by show _ = _; rw [HV.out.1]; exact hbit
      clear hbit h1 HV
      go_wp2_with fail
      go_ret
      exact ⟨by rw [HE.out]; rfl, HZ.out⟩
    | false =>
      have h1 : x.n0 / 2 ^ i.toNat % 2 = 0 := by
        have : ¬ x.n0 / 2 ^ i.toNat % 2 = 1 := by simpa [hasB] using hbit
        omega
      rw [h1] at hb
      have HE : Hid (isP f g i = false) := by show _ = _; rw [HV.out.1]; exact hbit
      clear hbit h1 HV
      go_wp2_with fail
      go_ret
      exact ⟨by rw [HE.out]; rfl, HZ.out⟩
  · have HV : Hid (isP f g i = false ∧ isPT g i = g) := isP_out hr
    have HZ : Hid (RBoth q R W p B f (isPT g i) w ∧ Kept (RW R W) w w) := ⟨by rw [HV.out.2]; exact h, Kept.refl _ _⟩
    clear h
    by_cases r1 : 0 ≤ i
    · have r2 : ¬ i < 4 := by omega
      clear hr
      go_enter Try.func21, Try.ntmps21
      go_wp2
      go_ret
      exact ⟨by rw [HV.out.1]; rfl, HZ.out⟩
    · clear hr
      go_enter Try.func21, Try.ntmps21
      go_wp2
      go_ret
      exact ⟨by rw [HV.out.1]; rfl, HZ.out⟩

set_option maxHeartbeats 2000000 in
theorem rpal_w {q R W p B : Nat} {f : StF} {g : VwF} {w : World} (h : RBoth q R W p B f g w) : Calls Try.prog 14 #[.pointer (some ⟨q, 0, none⟩)] w
    fun e w' => e = .returned (palV (palA f g)) ∧ RBoth q R W p B f (palT f g) w' ∧ Kept (RW R W) w w' := by
  obtain ⟨lq, lR, lW, lp, lB⟩ := h.lt
  obtain ⟨K0, hK0⟩ : ∃ K0 : Nat, w.heap.size = K0 := ⟨_, rfl⟩
  have hkk : ∀ w', Kept (fun _ => False) w w' → Kept (RW R W) w w' := fun w' hk => hk.mono (fun _ _ e => e.elim)
  go_enter Try.func14, Try.ntmps14
  go_wp2_with fail
  obtain ⟨w1, h1⟩ : ∃ w1, w.alloc (.cells #[.int .i64 7, .int .i64 0] 58) = w1 := ⟨_, rfl⟩
  have hk1 : Kept (fun _ => False) w w1 := by subst h1; exact (Kept.refl _ _).alloc _
  have hKy : w1.heap[K0]? = some (.cells #[.int .i64 7, .int .i64 0] 58 (0, 0)) := by subst h1; exact alloc_at' _ hK0
  rw [h1]
  clear h1
  refine (rg_w (h.still hk1) 7 0).mono ?_
  rintro e w2 ⟨rfl, hv2, hk2⟩
  have k2 : Kept (RW R W) w w2 := (hkk _ hk1).trans hk2 (fun _ _ e => e)
  have hKy2 := hk2.at hKy (by unfold RW; omega)
  have HA : Hid (palA f g = freeP (vgetF f g (7, 0)).n0 ∧ palT f g = if palA f g < 4 then vputT (vputT (vgetT g (7, 0)) (7, 0) (withN (vgetF f g (7, 0)) (orN (vgetF f g (7, 0)).n0 (palA f g)))) (8, palA f g) newP else vgetT g (7, 0)) := ⟨rfl, rfl⟩
  generalize vgetF f g (7, 0) = x at *
  obtain ⟨F, hF⟩ : ∃ F : Nat, w2.heap.size = F := ⟨_, rfl⟩
  have lF : K0 < F := by have := lt_at hKy2; omega
  have hv3 : RBoth q R W p B f (vgetT g (7, 0)) (w2.alloc (.cells (vc x).toArray 61)) := hv2.still ((Kept.refl _ _).alloc _)
  have k3 : Kept (RW R W) w (w2.alloc (.cells (vc x).toArray 61)) := k2.alloc _
  have hF3 : (w2.alloc (.cells (vc x).toArray 61)).heap[F]? = some (.cells (vc x).toArray 61 (0, 0)) := alloc_at' _ hF
  have hKy3 : (w2.alloc (.cells (vc x).toArray 61)).heap[K0]? = some (.cells #[.int .i64 7, .int .i64 0] 58 (0, 0)) := alloc_off hKy2
  clear h hk1 hk2 hv2 k2 hKy hKy2
  go_wp2_with (first | (refine list_wnew rfl wide_V _ _ rfl F rfl (vc x) rfl _ rfl hF rfl (vc_one _) ?_))
  generalize w2.alloc (.cells (vc x).toArray 61) = w3 at *
  clear hF
  have c0 : w3.cell? ⟨F, 0, none⟩ = some (.int .i64 x.n0) := cell_at hF3 rfl
  go_loopw [6] (fun v wr => ∃ i : Int, v = .int .i64 i ∧ 0 ≤ i ∧ i ≤ 4 ∧ wr = w3 ∧ Hid (∀ j, 0 ≤ j → j < i → hasB x.n0 j = true)) (fun v _ => (4 - intOf v).toNat)
  case atStart => exact ⟨0, rfl, by omega, by omega, rfl, fun j h1 h2 => by omega⟩
  case round =>
    obtain ⟨i, rfl, hi1, hi2, hwr, HB⟩ := hrel
    subst hwr
    by_cases hlt : i < 4
    · have i0 : 0 ≤ i := by omega
      have i64 : i ≤ 64 := by omega
      have hb := and_one (x.n0 / 2 ^ i.toNat)
      cases hbit : hasB x.n0 i with
      | true =>
        have h1 : x.n0 / 2 ^ i.toNat % 2 = 1 := by simpa [hasB] using hbit
        rw [h1] at hb
        have HB2 : Hid (∀ j, 0 ≤ j → j < i + 1 → hasB x.n0 j = true) := fun j h1 h2 => by
          by_cases e : j = i
          · rw [e]; exact hbit
          · exact HB.out j h1 (by omega)
        clear hbit h1
        go_wp2_with fail
        go_roundw
        case rel => exact ⟨i + 1, rfl, by omega, by omega, trivial, HB2.out⟩
        case measure => simp [intOf]; omega
      | false =>
        have h1 : x.n0 / 2 ^ i.toNat % 2 = 0 := by
          have : ¬ x.n0 / 2 ^ i.toNat % 2 = 1 := by simpa [hasB] using hbit
          omega
        rw [h1] at hb
        have HE : Hid (palA f g = i) := by show _ = _; rw [HA.out.1]; exact freeP_at hi1 hlt HB.out hbit
        have hpw := pw_wrap i0 (by omega : i < 16)
        have f0 := free_at hF3 0
        clear hbit h1
        go_wp2_with fail
        go_cut [5] from 23 to 30 (fun v wc => v = .pointer (some ⟨F, 0, none⟩) ∧ Hid (Kept (fun n => n = F) wr wc ∧ wc.heap[F]? = some (.cells (vc (withN x (orN x.n0 i))).toArray 61 (0, 0))))
        case first =>
          go_region
          all_goals
            go_wp2
            go_meet
            case rel => exact And.intro rfl (And.intro (by refine Kept.drew (Kept.setCell (Kept.refl _ _) ?_ _); intro _; rfl) (by show (wr.setCell _ _).heap[F]? = _; rw [set_at hF3]; rfl))
        case rest =>
          obtain ⟨rfl, HC⟩ := hcut
          have hFy := HC.out.2
          have hvw : RBoth q R W p B f (vgetT g (7, 0)) wc := hv3.kept HC.out.1 (by omega) (by omega) (by omega) (by omega) (by omega)
          have hKw : Kept (RW R W) w wc := k3.trans HC.out.1 (fun k h1 h2 => by omega)
          have hKyw := HC.out.1.at hKy3 (show ¬ K0 = F by omega)
          clear hF3 c0 f0 HC k3 hv3 hb hpw HB hKy3
          obtain ⟨y, hy⟩ : ∃ y, withN x (orN x.n0 i) = y := ⟨_, rfl⟩
          rw [hy] at hFy
          have HY : Hid (palT f g = vputT (vputT (vgetT g (7, 0)) (7, 0) y) (8, i) newP) := by
            show _ = _
            rw [HA.out.2, HE.out, if_pos hlt, hy]
          clear hy HA
          have k0 := cell_at hKyw (i := 0) rfl
          have k1 := cell_at hKyw (i := 1) rfl
          have hr := whole_range hFy
          go_wp2_with (first | (refine list_wload rfl wide_V _ rfl F 0 rfl (vc y) hr rfl ?_))
          refine (rp_w hvw 7 0 y).mono ?_
          rintro e w6 ⟨rfl, hv6, hk6⟩
          have hK6 : Kept (RW R W) w w6 := hKw.trans hk6 (fun _ _ e => e)
          clear hvw hKw hk6 hFy hKyw k0 k1 hr
          obtain ⟨G, hG⟩ : ∃ G : Nat, w6.heap.size = G := ⟨_, rfl⟩
          have lw : w.heap.size ≤ G := by have := hK6.size; omega
          obtain ⟨w7, h7⟩ : ∃ w7, w6.alloc (.cells (vc zeroV).toArray 61) = w7 := ⟨_, rfl⟩
          have b7 : w7.heap[G]? = some (.cells (vc zeroV).toArray 61 (0, 0)) := by subst h7; exact alloc_at' _ hG
          have k7 : Kept (fun _ => False) w6 w7 := by subst h7; exact (Kept.refl _ _).alloc _
          have c0 : w7.cell? ⟨G, 0, none⟩ = some (.int .i64 0) := cell_at b7 rfl
          have f0 := free_at b7 0
          have b8 := set_at b7 0 (.int .i64 1)
          have c1 : (w7.setCell ⟨G, 0, none⟩ (.int .i64 1)).cell? ⟨G, 1, none⟩ = some (.int .i64 0) := cell_at b8 rfl
          have f1 := free_at b8 1
          have b9 : ((w7.setCell ⟨G, 0, none⟩ (.int .i64 1)).setCell ⟨G, 1, none⟩ (.int .i64 1)).heap[G]? = some (.cells (vc newP).toArray 61 (0, 0)) := by rw [set_at b8]; rfl
          have k8 : Kept (fun _ => False) w6 ((w7.setCell ⟨G, 0, none⟩ (.int .i64 1)).setCell ⟨G, 1, none⟩ (.int .i64 1)) := Kept.setCell (Kept.setCell k7 (fun e => by simp at e; omega) _) (fun e => by simp at e; omega) _
          clear b8
          go_wp2_with (first | (refine list_wnew rfl wide_V _ _ rfl G rfl (vc zeroV) rfl _ rfl hG rfl (vc_one _) ?_))
          generalize (w7.setCell ⟨G, 0, none⟩ (.int .i64 1)).setCell ⟨G, 1, none⟩ (.int .i64 1) = w8 at *
          clear c0 f0 c1 f1 b7 k7 h7 hG
          have hv8 := hv6.still k8
          have hK8 := hK6.trans k8 (fun _ _ e => e.elim)
          clear hv6 hK6 k8
          have gR : G ≠ R ∧ G ≠ W := by omega
          have KS : ∀ w', Kept (RW R W) w8 w' → True := fun _ _ => trivial
          have KV : ∀ w', Kept (RW R W) w8 w' → w'.rangeAt G 0 (vc newP) := fun w' hk' => range_kept (whole_range b9) hk' (by unfold RW; omega)
          refine wp_region_held_drew (S := fun w' => Kept (RW R W) w8 w') (by kernel_rfl) ((Kept.refl _ _).drew) (fun hHeld => ?_)
          refine h_take 0 (some 40) (Op.move (Operand.tmp 0)) 27 ?v1 rfl rfl (by kernel_rfl) (by kernel_rfl) (by kernel_rfl) (fun _ _ _ h => h) ?hy1 hHeld ?_
          case hy1 => (intro _ _ _ w hSw; have hcs := KS _ hSw; go_simp; try with_reducible rfl)
          simp only [Act.put, List.setIfInBounds_toArray, List.set_cons_zero, List.set_cons_succ]
          refine h_take 1 (some 41) (Op.move (Operand.tmp 6)) 3 ?v2 rfl rfl (by kernel_rfl) (by kernel_rfl) (by kernel_rfl) (fun _ _ _ h => h) ?hy2 hHeld ?_
          case hy2 => (intro _ _ _ w hSw; have hcs := KS _ hSw; go_simp; try with_reducible rfl)
          simp only [Act.put, List.setIfInBounds_toArray, List.set_cons_zero, List.set_cons_succ]
          refine h_take 3 (some 43) (Op.load 61 (Operand.tmp 7)) 61 (vv newP) rfl rfl (by kernel_rfl) (by kernel_rfl) (by kernel_rfl) (fun _ _ _ h => h) (fun _ _ _ w hSw => exec_load rfl (load_wide wide_V (KV w hSw) rfl)) hHeld ?_
          simp only [Act.put, List.setIfInBounds_toArray, List.set_cons_zero, List.set_cons_succ]
          refine h_step 2 (some 42) (Op.call { callee := Callee.value (Operand.func 37), args := #[Operand.tmp 41], argTypes := #[3] }) 58 rfl rfl (by kernel_rfl) (fun _ _ _ K hK => ?_)
          go_simp
          refine (rpkey_w i _).mono ?_
          rintro e w9 ⟨rfl, hk9⟩
          replace hk9 : Kept (fun _ => False) w8 w9 := (Kept.refl _ w8).drew.thru hk9
          go_wp2_with fail
          refine hK.out _ _ (hk9.mono (fun _ _ e => e.elim)) (fun hHeld => ?_)
          clear hK K
          try simp only [Act.put, List.setIfInBounds_toArray, List.set_cons_zero, List.set_cons_succ]
          refine h_step 4 (some 44) (Op.call { callee := Callee.value (Operand.func 36), args := #[Operand.tmp 40, Operand.tmp 42, Operand.tmp 43], argTypes := #[27, 58, 61] }) 0 rfl rfl (by kernel_rfl) (fun _ _ _ K hK => ?_)
          go_simp
          refine (rp_w (hv8.still hk9) 8 i newP).mono ?_
          rintro e wz ⟨rfl, hvz, hkz⟩
          replace hkz : Kept (RW R W) w8 wz := (hk9.mono (fun _ _ e => e.elim)).trans hkz (fun _ _ e => e)
          go_wp2_with fail
          refine hK.out _ _ (hkz) (fun hHeld => ?_)
          clear hK K
          try simp only [Act.put, List.setIfInBounds_toArray, List.set_cons_zero, List.set_cons_succ]
          refine wpAnyH_done (by kernel_rfl) ?_ _
          have hKz : Kept (RW R W) w wz := hK8.trans hkz (fun _ _ e => e)
          have HZ : Hid (RBoth q R W p B f (palT f g) wz) := by show RBoth _ _ _ _ _ _ _ _; rw [HY.out]; exact hvz
          have HR : Hid (palV (palA f g) = .tuple #[.int .i64 i, .bool true]) := by
            show _ = _
            rw [HE.out]; unfold palV; rw [if_pos hlt]; simp [hlt]
          clear hHeld KS KV hk9 hv8 hK8 hkz hvz b9 HE
          go_wp2_with fail
          exact bodyPost_ret (v := .tuple #[.int .i64 i, .bool true]) (by simp [results, Try.results14, go_sem]) rfl ⟨by rw [HR.out], HZ.out, hKz⟩
    · obtain rfl : i = 4 := by omega
      have HE : Hid (palA f g = 4) := by show _ = _; rw [HA.out.1]; exact freeP_none HB.out
      have HR : Hid (palV (palA f g) = .tuple #[.int .i64 0, .bool false]) := by show _ = _; rw [HE.out]; rfl
      have HZ : Hid (RBoth q R W p B f (palT f g) wr ∧ Kept (RW R W) w wr) := by
        refine ⟨?_, k3⟩
        rw [HA.out.2, HE.out]
        exact hv3
      clear HA HE HB k3 hv3
      go_wp2_with fail
      exact bodyPost_ret (v := .tuple #[.int .i64 0, .bool false]) (by simp [results, Try.results14, go_sem]) rfl ⟨by rw [HR.out], HZ.out⟩

set_option maxHeartbeats 1000000 in
theorem rprd_w {q R W p B : Nat} {f : StF} {g : VwF} {w : World} (h : RBoth q R W p B f g w) (i n : Int) (hsz : (pipV f g i).s.size ≤ 200) : Calls Try.prog 15 #[.pointer (some ⟨q, 0, none⟩), .int .i64 i, .int .i64 n] w
    fun e w' => e = .returned (prdV (prdS f g i n) (prdK f g i n)) ∧ RBoth q R W p B f (prdT f g i n) w' ∧ Kept (RW R W) w w' := by
  obtain ⟨lq, lR, lW, lp, lB⟩ := h.lt
  cases hok : prdOk f g i n with
  | false =>
    have HE : Hid (prdV (prdS f g i n) (prdK f g i n) = .tuple #[.string ⟨#[]⟩, .int .i64 1] ∧ prdT f g i n = isPT g i) := by
      unfold prdS prdK prdT; rw [hok]; exact ⟨rfl, rfl⟩
    cases hP : isP f g i with
    | false =>
      clear hok
      go_enter Try.func15, Try.ntmps15
      go_wp2_with fail
      refine (rpis_w h i).mono ?_
      rintro e w1 ⟨rfl, hv1, hk1⟩
      rw [hP]
      clear h
      go_wp2_with fail
      exact bodyPost_ret (v := .tuple #[.string ⟨#[]⟩, .int .i64 1]) (by simp [results, Try.results15, go_sem]) rfl ⟨by rw [HE.out.1], by rw [HE.out.2]; exact hv1, hk1⟩
    | true =>
      have hn : n < 0 := by
        unfold prdOk at hok; rw [hP] at hok; simpa using hok
      clear hok
      go_enter Try.func15, Try.ntmps15
      go_wp2_with fail
      refine (rpis_w h i).mono ?_
      rintro e w1 ⟨rfl, hv1, hk1⟩
      rw [hP]
      clear h
      go_wp2_with fail
      exact bodyPost_ret (v := .tuple #[.string ⟨#[]⟩, .int .i64 1]) (by simp [results, Try.results15, go_sem]) rfl ⟨by rw [HE.out.1], by rw [HE.out.2]; exact hv1, hk1⟩
  | true =>
    have hP : isP f g i = true ∧ 0 ≤ n := by unfold prdOk at hok; simpa using hok
    obtain ⟨hP, hn⟩ := hP
    obtain ⟨k, rfl⟩ : ∃ k : Nat, n = k := ⟨n.toNat, by omega⟩
    have HE : Hid (prdS f g i k = bs ((bl (pipV f g i).s).take k) ∧ prdK f g i k = (if (k : Int) = 0 ∨ (pipV f g i).s.size ≠ 0 ∨ (pipV f g i).n1 ≤ 0 then 0 else 2) ∧
        prdT f g i k = (if (k : Int) ≠ 0 ∧ (pipV f g i).s.size ≠ 0 then vputT (seeT g i) (8, i) (withS (pipV f g i) (bs ((bl (pipV f g i).s).drop k))) else seeT g i)) := by
      unfold prdS prdK prdT; rw [hok, if_pos rfl, if_pos rfl, if_pos rfl]; exact ⟨rfl, rfl, rfl⟩
    have hpv : vgetF f (isPT g i) (8, i) = pipV f g i := pip_isPT (f := f) (g := g) i i
    clear hok
    go_enter Try.func15, Try.ntmps15
    go_wp2_with fail
    refine (rpis_w h i).mono ?_
    rintro e w1 ⟨rfl, hv1, hk1⟩
    rw [hP]
    clear h
    go_wp2_with fail
    refine (rpkey_w i _).mono ?_
    rintro e w2 ⟨rfl, hk2⟩
    have K2 : Kept (RW R W) w w2 := hk1.trans hk2 (fun _ _ e => e.elim)
    go_wp2_with fail
    refine (rg_w (hv1.still hk2) 8 i).mono ?_
    rintro e w3 ⟨rfl, hv3, hk3⟩
    rw [hpv]
    clear hpv hk1 hk2 hv1
    generalize pipV f g i = x at *
    have K3 : Kept (RW R W) w w3 := K2.trans hk3 (fun _ _ e => e)
    have hv3 : RBoth q R W p B f (seeT g i) w3 := hv3
    clear K2 hk3
    obtain ⟨F, hF⟩ : ∃ F : Nat, w3.heap.size = F := ⟨_, rfl⟩
    have lF : w.heap.size ≤ F := by have := K3.size; omega
    have nRW : ¬ RW R W F := by unfold RW; omega
    have hF4 : (w3.alloc (.cells (vc x).toArray 61)).heap[F]? = some (.cells (vc x).toArray 61 (0, 0)) := alloc_at' _ hF
    have hv4 := hv3.still ((Kept.refl _ w3).alloc (.cells (vc x).toArray 61))
    have K4 : Kept (RW R W) w (w3.alloc (.cells (vc x).toArray 61)) := K3.alloc _
    clear hv3 K3
    have c16 : (w3.alloc (.cells (vc x).toArray 61)).cell? ⟨F, 16, none⟩ = some (.string x.s) := cell_at hF4 rfl
    have c1 : (w3.alloc (.cells (vc x).toArray 61)).cell? ⟨F, 1, none⟩ = some (.int .i64 x.n1) := cell_at hF4 rfl
    have f16 := free_at hF4 16
    by_cases hk0 : k = 0
    · subst hk0
      have HR : Hid (prdV (prdS f g i ((0 : Nat) : Int)) (prdK f g i ((0 : Nat) : Int)) = .tuple #[.string ⟨#[]⟩, .int .i64 0] ∧ prdT f g i ((0 : Nat) : Int) = seeT g i) := by
        refine ⟨?_, by rw [HE.out.2.2, if_neg (by omega)]⟩
        rw [HE.out.1, HE.out.2.1, if_pos (.inl rfl)]; rfl
      clear HE
      go_wp2_with (first | (refine list_wnew rfl wide_V _ _ rfl F rfl (vc x) rfl _ rfl hF rfl (vc_one _) ?_))
      exact bodyPost_ret (v := .tuple #[.string ⟨#[]⟩, .int .i64 0]) (by simp [results, Try.results15, go_sem]) rfl ⟨by rw [HR.out.1], by rw [HR.out.2]; exact hv4, K4⟩
    · have hk1 : ¬ (k : Int) = 0 := by omega
      by_cases hz : x.s.size = 0
      · have hz1 : (x.s = ⟨#[]⟩) := empty_of hz
        have hz3 : ¬ 0 < x.s.size := by omega
        by_cases hn1 : x.n1 ≤ 0
        · have HR : Hid (prdV (prdS f g i k) (prdK f g i k) = .tuple #[.string ⟨#[]⟩, .int .i64 0] ∧ prdT f g i k = seeT g i) := by
            refine ⟨?_, by rw [HE.out.2.2, if_neg (by omega)]⟩
            rw [HE.out.1, HE.out.2.1, if_pos (.inr (.inr hn1)), hz1]
            show prdV (bs (List.take k [])) 0 = _
            rw [List.take_nil]; rfl
          clear HE hz hz1
          go_wp2_with (first | (refine list_wnew rfl wide_V _ _ rfl F rfl (vc x) rfl _ rfl hF rfl (vc_one _) ?_))
          exact bodyPost_ret (v := .tuple #[.string ⟨#[]⟩, .int .i64 0]) (by simp [results, Try.results15, go_sem]) rfl ⟨by rw [HR.out.1], by rw [HR.out.2]; exact hv4, K4⟩
        · have HR : Hid (prdV (prdS f g i k) (prdK f g i k) = .tuple #[.string ⟨#[]⟩, .int .i64 2] ∧ prdT f g i k = seeT g i) := by
            refine ⟨?_, by rw [HE.out.2.2, if_neg (by omega)]⟩
            rw [HE.out.1, HE.out.2.1, if_neg (by omega), hz1]
            show prdV (bs (List.take k [])) 2 = _
            rw [List.take_nil]; rfl
          clear HE hz hz1
          go_wp2_with (first | (refine list_wnew rfl wide_V _ _ rfl F rfl (vc x) rfl _ rfl hF rfl (vc_one _) ?_))
          exact bodyPost_ret (v := .tuple #[.string ⟨#[]⟩, .int .i64 2]) (by simp [results, Try.results15, go_sem]) rfl ⟨by rw [HR.out.1], by rw [HR.out.2]; exact hv4, K4⟩
      · have hz3 : 0 < x.s.size := by omega
        obtain ⟨m, hm⟩ : ∃ m : Nat, m = min k x.s.size := ⟨_, rfl⟩
        obtain ⟨d, hd⟩ : ∃ d, x.s.extract 0 m = d := ⟨_, rfl⟩
        obtain ⟨r, hr⟩ : ∃ r, x.s.extract m x.s.size = r := ⟨_, rfl⟩
        have hmx : (m : Int) ≤ x.s.size := by omega
        have hdm : d.size = m := by rw [← hd, take_ext hm, bs_size, List.length_take, bl_len]; omega
        have HR : Hid (prdV (prdS f g i k) (prdK f g i k) = .tuple #[.string d, .int .i64 0] ∧ prdT f g i k = vputT (seeT g i) (8, i) (withS x r)) := by
          rw [HE.out.1, HE.out.2.1, HE.out.2.2, if_pos (.inr (.inl hz)), if_pos ⟨hk1, hz⟩, ← take_ext hm, ← drop_ext hm, hd, hr]
          exact ⟨rfl, rfl⟩
        have hb7 : ((w3.alloc (.cells (vc x).toArray 61)).setCell ⟨F, 16, none⟩ (.string r)).heap[F]? = some (.cells (vc (withS x r)).toArray 61 (0, 0)) := by rw [set_at hF4]; rfl
        have hmin : (if x.s.size < k then (x.s.size : Int) else (k : Int)) = m := by split <;> omega
        clear HE hm
        go_upto_region 7 with (first | (refine list_wnew rfl wide_V _ _ rfl F rfl (vc x) rfl _ rfl hF rfl (vc_one _) ?_))
        generalize w3.alloc (.cells (vc x).toArray 61) = w4 at *
        go_wp2_with fail
        have k6 : Kept (fun n => n = F) w4 (w4.setCell ⟨F, 16, none⟩ (.string r)) := by refine Kept.setCell (Kept.refl _ _) ?_ _; intro _; rfl
        generalize w4.setCell ⟨F, 16, none⟩ (.string r) = w6 at *
        have hv6 := hv4.kept k6 (by omega) (by omega) (by omega) (by omega) (by omega)
        have K6 : Kept (RW R W) w w6 := K4.trans k6 (fun k h1 h2 => by unfold RW; omega)
        clear c16 c1 f16 hv4 K4 k6 hmin hmx hr hd hdm hz3 hz hk0 hk1 hF4
        obtain ⟨y, hy⟩ : ∃ y, withS x r = y := ⟨_, rfl⟩
        rw [hy] at HR hb7
        clear hy
        have KS : ∀ w', Kept (RW R W) w6 w' → True := fun _ _ => trivial
        have KV : ∀ w', Kept (RW R W) w6 w' → w'.rangeAt F 0 (vc y) := fun w' hk' => range_kept (whole_range hb7) hk' nRW
        refine wp_region_held_drew (S := fun w' => Kept (RW R W) w6 w') (by kernel_rfl) ((Kept.refl _ _).drew) (fun hHeld => ?_)
        refine h_take 0 (some 44) (Op.move (Operand.tmp 0)) 27 ?v3 rfl rfl (by kernel_rfl) (by kernel_rfl) (by kernel_rfl) (fun _ _ _ h => h) ?hy3 hHeld ?_
        case hy3 => (intro _ _ _ w hSw; have hcs := KS _ hSw; go_simp; try with_reducible rfl)
        simp only [Act.put, List.setIfInBounds_toArray, List.set_cons_zero, List.set_cons_succ]
        refine h_take 1 (some 45) (Op.move (Operand.tmp 1)) 3 ?v4 rfl rfl (by kernel_rfl) (by kernel_rfl) (by kernel_rfl) (fun _ _ _ h => h) ?hy4 hHeld ?_
        case hy4 => (intro _ _ _ w hSw; have hcs := KS _ hSw; go_simp; try with_reducible rfl)
        simp only [Act.put, List.setIfInBounds_toArray, List.set_cons_zero, List.set_cons_succ]
        refine h_take 3 (some 47) (Op.load 61 (Operand.tmp 8)) 61 (vv y) rfl rfl (by kernel_rfl) (by kernel_rfl) (by kernel_rfl) (fun _ _ _ h => h) (fun _ _ _ w hSw => exec_load rfl (load_wide wide_V (KV w hSw) rfl)) hHeld ?_
        simp only [Act.put, List.setIfInBounds_toArray, List.set_cons_zero, List.set_cons_succ]
        refine h_step 2 (some 46) (Op.call { callee := Callee.value (Operand.func 37), args := #[Operand.tmp 45], argTypes := #[3] }) 58 rfl rfl (by kernel_rfl) (fun _ _ _ K hK => ?_)
        go_simp
        refine (rpkey_w i _).mono ?_
        rintro e w7 ⟨rfl, hk7⟩
        replace hk7 : Kept (fun _ => False) w6 w7 := (Kept.refl _ w6).drew.thru hk7
        go_wp2_with fail
        refine hK.out _ _ (hk7.mono (fun _ _ e => e.elim)) (fun hHeld => ?_)
        clear hK K
        try simp only [Act.put, List.setIfInBounds_toArray, List.set_cons_zero, List.set_cons_succ]
        refine h_step 4 (some 48) (Op.call { callee := Callee.value (Operand.func 36), args := #[Operand.tmp 44, Operand.tmp 46, Operand.tmp 47], argTypes := #[27, 58, 61] }) 0 rfl rfl (by kernel_rfl) (fun _ _ _ K hK => ?_)
        go_simp
        refine (rp_w (hv6.still hk7) 8 i y).mono ?_
        rintro e w8 ⟨rfl, hv8, hk8⟩
        replace hk8 : Kept (RW R W) w6 w8 := (hk7.mono (fun _ _ e => e.elim)).trans hk8 (fun _ _ e => e)
        go_wp2_with fail
        refine hK.out _ _ (hk8) (fun hHeld => ?_)
        clear hK K
        try simp only [Act.put, List.setIfInBounds_toArray, List.set_cons_zero, List.set_cons_succ]
        refine wpAnyH_done (by kernel_rfl) ?_ _
        have HZ : Hid (RBoth q R W p B f (prdT f g i k) w8 ∧ Kept (RW R W) w w8) := ⟨by rw [HR.out.2]; exact hv8, K6.trans hk8 (fun _ _ e => e)⟩
        clear hHeld KS KV hk7 hv6 hk8 hv8 hb7 K6
        go_wp2_with fail
        exact bodyPost_ret (v := .tuple #[.string d, .int .i64 0]) (by simp [results, Try.results15, go_sem]) rfl ⟨by rw [HR.out.1], HZ.out⟩
end Go.Proofs.Ytdjdnjngelahjaa
