
/- What the code's pipes do when they are called: Read; no conditions but lengths. -/
import Derived.Test.YtdjdnjngelahjaaPpA
namespace Go.Proofs.Ytdjdnjngelahjaa
open Go.RowKit
set_option maxRecDepth 100000
set_option linter.unusedSimpArgs false

theorem take_ext {s : ByteArray} {m k : Nat} (h : m = min k s.size) : s.extract 0 m = bs ((bl s).take k) := by
  rw [extract_bs]
  congr 1
  rw [List.drop_zero, Nat.sub_zero, List.take_eq_take_iff, bl_len]
  omega
theorem drop_ext {s : ByteArray} {m k : Nat} (h : m = min k s.size) : s.extract m s.size = bs ((bl s).drop k) := by
  rw [extract_bs]
  congr 1
  have e : List.take (s.size - m) (List.drop m (bl s)) = List.drop m (bl s) := List.take_of_length_le (by rw [List.length_drop, bl_len]; omega)
  rw [e]
  by_cases c : k ≤ s.size
  · rw [show m = k by omega]
  · rw [List.drop_eq_nil_of_le (by rw [bl_len]; omega), List.drop_eq_nil_of_le (by rw [bl_len]; omega)]
theorem empty_of {s : ByteArray} (h : s.size = 0) : s = ⟨#[]⟩ := ByteArray.ext (Array.eq_empty_of_size_eq_zero h)
theorem ne_text {s : ByteArray} (h : s.size ≠ 0) : s.toList.isEmpty = false := by
  rw [toList_bl]
  cases e : bl s with
  | nil => exact absurd (by rw [← bl_len, e]; rfl) h
  | cons _ _ => rfl
theorem no_text {s : ByteArray} (h : s.size = 0) : s.toList.isEmpty = true := by
  have e : bl s = [] := List.eq_nil_of_length_eq_zero (by rw [bl_len]; exact h)
  rw [toList_bl, e]; rfl

set_option maxHeartbeats 1000000 in
theorem prd_w (q N p B : Nat) (f : StF) (g : VwF) (i n : Int) (w : World) (h : ViewIn q N p g w) (hs : StoreIn p B f w) (hNB : N ≠ B) (hsz : (pipV f g i).s.size ≤ 200) : Calls Try.prog 11 #[.pointer (some ⟨q, 0, none⟩), .int .i64 i, .int .i64 n] w
    fun e w' => e = .returned (prdV (prdS f g i n) (prdK f g i n)) ∧ ViewIn q N p (prdT f g i n) w' ∧ Kept (fun n => n = N) w w' := by
  have hN : N < w.heap.size := h.map.lt
  have hq : q < w.heap.size := lt_at h.cell
  have hpN : p ≠ N := h.map.off hs.cell
  have hsk : ∀ w', Kept (fun n => n = N) w w' → StoreIn p B f w' := fun w' hk => hs.kept hk hpN (fun e => hNB e.symm)
  cases hok : prdOk f g i n with
  | false =>
    have HE : Hid (prdV (prdS f g i n) (prdK f g i n) = .tuple #[.string ⟨#[]⟩, .int .i64 1] ∧ prdT f g i n = isPT g i) := by
      unfold prdS prdK prdT; rw [hok]; exact ⟨rfl, rfl⟩
    cases hP : isP f g i with
    | false =>
      clear hok
      go_enter Try.func11, Try.ntmps11
      go_wp2_with fail
      refine (pis_w q N p B f g i w h hs hNB).mono ?_
      rintro e w1 ⟨rfl, hv1, hk1⟩
      rw [hP]
      clear h hs
      go_wp2_with fail
      exact bodyPost_ret (v := .tuple #[.string ⟨#[]⟩, .int .i64 1]) (by simp [results, Try.results11, go_sem]) rfl ⟨by rw [HE.out.1], by rw [HE.out.2]; exact hv1, hk1⟩
    | true =>
      have hn : n < 0 := by
        unfold prdOk at hok; rw [hP] at hok; simpa using hok
      clear hok
      go_enter Try.func11, Try.ntmps11
      go_wp2_with fail
      refine (pis_w q N p B f g i w h hs hNB).mono ?_
      rintro e w1 ⟨rfl, hv1, hk1⟩
      rw [hP]
      clear h hs
      go_wp2_with fail
      exact bodyPost_ret (v := .tuple #[.string ⟨#[]⟩, .int .i64 1]) (by simp [results, Try.results11, go_sem]) rfl ⟨by rw [HE.out.1], by rw [HE.out.2]; exact hv1, hk1⟩
  | true =>
    have hP : isP f g i = true ∧ 0 ≤ n := by unfold prdOk at hok; simpa using hok
    obtain ⟨hP, hn⟩ := hP
    obtain ⟨k, rfl⟩ : ∃ k : Nat, n = k := ⟨n.toNat, by omega⟩
    have HE : Hid (prdS f g i k = bs ((bl (pipV f g i).s).take k) ∧ prdK f g i k = (if (k : Int) = 0 ∨ (pipV f g i).s.size ≠ 0 ∨ (pipV f g i).n1 ≤ 0 then 0 else 2) ∧
        prdT f g i k = (if (k : Int) ≠ 0 ∧ (pipV f g i).s.size ≠ 0 then vputT (seeT g i) (8, i) (withS (pipV f g i) (bs ((bl (pipV f g i).s).drop k))) else seeT g i)) := by
      unfold prdS prdK prdT; rw [hok, if_pos rfl, if_pos rfl, if_pos rfl]; exact ⟨rfl, rfl, rfl⟩
    have hpv : vgetF f (isPT g i) (8, i) = pipV f g i := pip_isPT (f := f) (g := g) i i
    clear hok
    go_enter Try.func11, Try.ntmps11
    go_wp2_with fail
    refine (pis_w q N p B f g i w h hs hNB).mono ?_
    rintro e w1 ⟨rfl, hv1, hk1⟩
    rw [hP]
    clear h hs
    go_wp2_with fail
    refine (pobject_w i _).mono ?_
    rintro e w2 ⟨rfl, hk2⟩
    have K2 : Kept (fun n => n = N) w w2 := hk1.trans hk2 (fun _ _ e => e.elim)
    go_wp2_with fail
    refine (vget_w q N p B f (isPT g i) 8 i w2 (hv1.still hk2) (hsk _ K2) hNB).mono ?_
    rintro e w3 ⟨rfl, hv3, hk3⟩
    rw [hpv]
    clear hpv hk1 hk2 hv1
    generalize pipV f g i = x at *
    have K3 : Kept (fun n => n = N) w w3 := K2.trans hk3 (fun _ _ e => e)
    have hv3 : ViewIn q N p (seeT g i) w3 := hv3
    clear K2 hk3 hsk
    obtain ⟨F, hF⟩ : ∃ F : Nat, w3.heap.size = F := ⟨_, rfl⟩
    have lF : w.heap.size ≤ F := by have := K3.size; omega
    have hF4 : (w3.alloc (.cells (vc x).toArray 61)).heap[F]? = some (.cells (vc x).toArray 61 (0, 0)) := alloc_at' _ hF
    have hv4 := hv3.still ((Kept.refl _ w3).alloc (.cells (vc x).toArray 61))
    have K4 : Kept (fun n => n = N) w (w3.alloc (.cells (vc x).toArray 61)) := K3.alloc _
    clear hv3 K3
    have c16 : (w3.alloc (.cells (vc x).toArray 61)).cell? ⟨F, 16, none⟩ = some (.string x.s) := cell_at hF4 rfl
    have c1 : (w3.alloc (.cells (vc x).toArray 61)).cell? ⟨F, 1, none⟩ = some (.int .i64 x.n1) := cell_at hF4 rfl
    have f16 := free_at hF4 16
    by_cases hk0 : k = 0
    · subst hk0
      have HR : Hid (prdV (prdS f g i ((0 : Nat) : Int)) (prdK f g i ((0 : Nat) : Int)) = .tuple #[.string ⟨#[]⟩, .int .i64 0] ∧ prdT f g i ((0 : Nat) : Int) = seeT g i) := by
        refine ⟨?_, by rw [HE.out.2.2, if_neg (by omega)]⟩
        rw [HE.out.1, HE.out.2.1, if_pos (.inl rfl)]; rfl
      clear HE
      go_wp2_with (first | (refine list_wnew rfl wide_V _ _ rfl F rfl (vc x) rfl _ rfl hF rfl (vc_one _) ?_))
      exact bodyPost_ret (v := .tuple #[.string ⟨#[]⟩, .int .i64 0]) (by simp [results, Try.results11, go_sem]) rfl ⟨by rw [HR.out.1], by rw [HR.out.2]; exact hv4, K4⟩
    · have hk1 : ¬ (k : Int) = 0 := by omega
      by_cases hz : x.s.size = 0
      · have hz1 : (x.s = ⟨#[]⟩) := empty_of hz
        have hz2 := no_text hz
        by_cases hn1 : x.n1 ≤ 0
        · have HR : Hid (prdV (prdS f g i k) (prdK f g i k) = .tuple #[.string ⟨#[]⟩, .int .i64 0] ∧ prdT f g i k = seeT g i) := by
            refine ⟨?_, by rw [HE.out.2.2, if_neg (by omega)]⟩
            rw [HE.out.1, HE.out.2.1, if_pos (.inr (.inr hn1)), hz1]
            show prdV (bs (List.take k [])) 0 = _
            rw [List.take_nil]; rfl
          clear HE hz hz1
          go_wp2_with (first | (refine list_wnew rfl wide_V _ _ rfl F rfl (vc x) rfl _ rfl hF rfl (vc_one _) ?_))
          exact bodyPost_ret (v := .tuple #[.string ⟨#[]⟩, .int .i64 0]) (by simp [results, Try.results11, go_sem]) rfl ⟨by rw [HR.out.1], by rw [HR.out.2]; exact hv4, K4⟩
        · have HR : Hid (prdV (prdS f g i k) (prdK f g i k) = .tuple #[.string ⟨#[]⟩, .int .i64 2] ∧ prdT f g i k = seeT g i) := by
            refine ⟨?_, by rw [HE.out.2.2, if_neg (by omega)]⟩
            rw [HE.out.1, HE.out.2.1, if_neg (by omega), hz1]
            show prdV (bs (List.take k [])) 2 = _
            rw [List.take_nil]; rfl
          clear HE hz hz1
          go_wp2_with (first | (refine list_wnew rfl wide_V _ _ rfl F rfl (vc x) rfl _ rfl hF rfl (vc_one _) ?_))
          exact bodyPost_ret (v := .tuple #[.string ⟨#[]⟩, .int .i64 2]) (by simp [results, Try.results11, go_sem]) rfl ⟨by rw [HR.out.1], by rw [HR.out.2]; exact hv4, K4⟩
      · have hz1 := ne_text hz
        obtain ⟨m, hm⟩ : ∃ m : Nat, m = min k x.s.size := ⟨_, rfl⟩
        obtain ⟨d, hd⟩ : ∃ d, x.s.extract 0 m = d := ⟨_, rfl⟩
        obtain ⟨r, hr⟩ : ∃ r, x.s.extract m x.s.size = r := ⟨_, rfl⟩
        have hmx : (m : Int) ≤ x.s.size := by omega
        have hds : d.size ≤ 1000000 := by rw [← hd, take_ext hm, bs_size, List.length_take, bl_len]; omega
        have HR : Hid (prdV (prdS f g i k) (prdK f g i k) = .tuple #[.string d, .int .i64 0] ∧ prdT f g i k = vputT (seeT g i) (8, i) (withS x r)) := by
          rw [HE.out.1, HE.out.2.1, HE.out.2.2, if_pos (.inr (.inl hz)), if_pos ⟨hk1, hz⟩, ← take_ext hm, ← drop_ext hm, hd, hr]
          exact ⟨rfl, rfl⟩
        have hb6 : ∀ (w' : World), Kept (fun _ => False) (w3.alloc (.cells (vc x).toArray 61)) w' → (w'.setCell ⟨F, 16, none⟩ (.string r)).heap[F]? = some (.cells (vc (withS x r)).toArray 61 (0, 0)) := fun w' hk' => by
          rw [set_at (hk'.at hF4 (fun x => x))]; rfl
        have hmin : (if x.s.size < k then (x.s.size : Int) else (k : Int)) = m := by split <;> omega
        clear HE hm
        go_wp2_with (first | (refine list_wnew rfl wide_V _ _ rfl F rfl (vc x) rfl _ rfl hF rfl (vc_one _) ?_))
        generalize w3.alloc (.cells (vc x).toArray 61) = w4 at *
        refine (clone_w _ hds _).mono ?_
        rintro e w5 ⟨rfl, hk5⟩
        have hb7 := hb6 w5 hk5
        have c5 := hk5.cell c16 (fun x => x)
        have f5 := free_at (hk5.at hF4 (fun x => x)) 16
        have hv5 := hv4.still hk5
        have K5 := K4.trans hk5 (fun _ _ e => e.elim)
        clear hb6 hv4 K4 c16 c1 f16 hF4
        go_wp2_with fail
        have k6 : Kept (fun n => n = F) w5 (w5.setCell ⟨F, 16, none⟩ (.string r)) := by refine Kept.setCell (Kept.refl _ _) ?_ _; intro _; rfl
        generalize w5.setCell ⟨F, 16, none⟩ (.string r) = w6 at *
        have hv6 := hv5.kept k6 (by omega) (by omega)
        have K6 : Kept (fun n => n = N) w w6 := K5.trans k6 (fun k h1 h2 => by omega)
        clear c5 f5 hk5 hv5 K5 k6 hmin hmx hr hd hz1 hz hk0 hk1
        obtain ⟨y, hy⟩ : ∃ y, withS x r = y := ⟨_, rfl⟩
        rw [hy] at HR hb7
        clear hy
        have KS : ∀ w', Kept (fun n => n = N) w6 w' → True := fun _ _ => trivial
        have KV : ∀ w', Kept (fun n => n = N) w6 w' → w'.rangeAt F 0 (vc y) := fun w' hk' => range_kept (whole_range hb7) hk' (by omega)
        refine wp_region_held_drew (S := fun w' => Kept (fun n => n = N) w6 w') (by kernel_rfl) ((Kept.refl _ _).drew) (fun hHeld => ?_)
        refine h_take 0 (some 44) (Op.move (Operand.tmp 0)) 25 ?v1 rfl rfl (by kernel_rfl) (by kernel_rfl) (by kernel_rfl) (fun _ _ _ h => h) ?hy1 hHeld ?_
        case hy1 => (intro _ _ _ w hSw; have hcs := KS _ hSw; go_simp; try with_reducible rfl)
        simp only [Act.put, List.setIfInBounds_toArray, List.set_cons_zero, List.set_cons_succ]
        refine h_take 1 (some 45) (Op.move (Operand.tmp 1)) 3 ?v2 rfl rfl (by kernel_rfl) (by kernel_rfl) (by kernel_rfl) (fun _ _ _ h => h) ?hy2 hHeld ?_
        case hy2 => (intro _ _ _ w hSw; have hcs := KS _ hSw; go_simp; try with_reducible rfl)
        simp only [Act.put, List.setIfInBounds_toArray, List.set_cons_zero, List.set_cons_succ]
        refine h_take 3 (some 47) (Op.load 61 (Operand.tmp 8)) 61 (vv y) rfl rfl (by kernel_rfl) (by kernel_rfl) (by kernel_rfl) (fun _ _ _ h => h) (fun _ _ _ w hSw => exec_load rfl (load_wide wide_V (KV w hSw) rfl)) hHeld ?_
        simp only [Act.put, List.setIfInBounds_toArray, List.set_cons_zero, List.set_cons_succ]
        refine h_step 2 (some 46) (Op.call { callee := Callee.value (Operand.func 32), args := #[Operand.tmp 45], argTypes := #[3] }) 58 rfl rfl (by kernel_rfl) (fun _ _ _ K hK => ?_)
        go_simp
        refine (pobject_w i _).mono ?_
        rintro e w7 ⟨rfl, hk7⟩
        replace hk7 : Kept (fun _ => False) w6 w7 := (Kept.refl _ w6).drew.thru hk7
        go_wp2_with fail
        refine hK.out _ _ (hk7.mono (fun _ _ e => e.elim)) (fun hHeld => ?_)
        clear hK K
        try simp only [Act.put, List.setIfInBounds_toArray, List.set_cons_zero, List.set_cons_succ]
        refine h_step 4 (some 48) (Op.call { callee := Callee.value (Operand.func 31), args := #[Operand.tmp 44, Operand.tmp 46, Operand.tmp 47], argTypes := #[25, 58, 61] }) 0 rfl rfl (by kernel_rfl) (fun _ _ _ K hK => ?_)
        go_simp
        refine (vput_w q N p (seeT g i) 8 i y w7 (hv6.still hk7)).mono ?_
        rintro e w8 ⟨rfl, hv8, hk8⟩
        replace hk8 : Kept (fun n => n = N) w6 w8 := (hk7.mono (fun _ _ e => e.elim)).trans hk8 (fun _ _ e => e)
        go_wp2_with fail
        refine hK.out _ _ (hk8) (fun hHeld => ?_)
        clear hK K
        try simp only [Act.put, List.setIfInBounds_toArray, List.set_cons_zero, List.set_cons_succ]
        refine wpAnyH_done (by kernel_rfl) ?_ _
        have HZ : Hid (ViewIn q N p (prdT f g i k) w8 ∧ Kept (fun n => n = N) w w8) := ⟨by rw [HR.out.2]; exact hv8, K6.trans hk8 (fun _ _ e => e)⟩
        clear hHeld KS KV hk7 hv6 hk8 hv8 hb7 K6
        go_wp2_with fail
        exact bodyPost_ret (v := .tuple #[.string d, .int .i64 0]) (by simp [results, Try.results11, go_sem]) rfl ⟨by rw [HR.out.1], HZ.out⟩
end Go.Proofs.Ytdjdnjngelahjaa
