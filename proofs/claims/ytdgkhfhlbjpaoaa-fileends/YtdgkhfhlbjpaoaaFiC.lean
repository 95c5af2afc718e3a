
/- What the code's open files do when they are called, third part: the console, Read, Write, Stat; no conditions but lengths. -/
import Derived.Test.YtdgkhfhlbjpaoaaFiB
namespace Go.Proofs.Ytdgkhfhlbjpaoaa
open Go.RowKit
set_option maxRecDepth 100000
set_option linter.unusedSimpArgs false

def rdV (R : RdO) : Value := .tuple #[.string R.s, .int .i64 R.k]
def wrV (R : WrO) : Value := .tuple #[.int .i64 R.a, .int .i64 R.k]

set_option maxHeartbeats 1000000 in
theorem cord_w (q N p B : Nat) (f : StF) (g : VwF) (n : Int) (w : World) (h : ViewIn q N p g w) (hs : StoreIn p B f w) (hNB : N ≠ B) (hsz : (conV f g).s.size ≤ 200) : Calls Try.prog 54 #[.pointer (some ⟨q, 0, none⟩), .int .i64 n] w
    fun e w' => e = .returned (rdV (coR f g n)) ∧ ViewIn q N p (coR f g n).g w' ∧ Kept (fun n => n = N) w w' := by
  have hN : N < w.heap.size := h.map.lt
  have hq : q < w.heap.size := lt_at h.cell
  have HE : Hid (coR f g n = if 0 < n then (if (conV f g).s.size ≠ 0 then ⟨bs ((bl (conV f g).s).take n.toNat), 0, vputT (vgetT g (11, 0)) (11, 0) (withS (conV f g) (bs ((bl (conV f g).s).drop n.toNat)))⟩ else ⟨ByteArray.empty, 2, vgetT g (11, 0)⟩)
    else ⟨ByteArray.empty, 0, vgetT g (11, 0)⟩) := rfl
  go_enter Try.func54, Try.ntmps54
  go_wp2_with fail
  refine (fcons_w _).mono ?_
  rintro e w2 ⟨rfl, hk2⟩
  have K2 : Kept (fun n => n = N) w w2 := hk2.mono (fun _ _ e => e.elim)
  go_wp2_with fail
  refine (vget_w q N p B f g 11 0 w2 (h.still hk2) (hs.still hk2) hNB).mono ?_
  rintro e w3 ⟨rfl, hv3, hk3⟩
  have K3 : Kept (fun n => n = N) w w3 := K2.trans hk3 (fun _ _ e => e)
  clear K2 hk3 hk2 h hs
  rw [show vgetF f g (11, 0) = conV f g from rfl]
  generalize conV f g = x at *
  obtain ⟨F, hF⟩ : ∃ F : Nat, w3.heap.size = F := ⟨_, rfl⟩
  have lF : w.heap.size ≤ F := by have := K3.size; omega
  have hF4 : (w3.alloc (.cells (vc x).toArray 51)).heap[F]? = some (.cells (vc x).toArray 51 (0, 0)) := alloc_at' _ hF
  have hv4 := hv3.still ((Kept.refl _ w3).alloc (.cells (vc x).toArray 51))
  have K4 : Kept (fun n => n = N) w (w3.alloc (.cells (vc x).toArray 51)) := K3.alloc _
  clear hv3 K3
  have c16 : (w3.alloc (.cells (vc x).toArray 51)).cell? ⟨F, 16, none⟩ = some (.string x.s) := cell_at hF4 rfl
  have f16 := free_at hF4 16
  by_cases hn : 0 < n
  · obtain ⟨k, rfl⟩ : ∃ k : Nat, n = k := ⟨n.toNat, by omega⟩
    have hk1 : ¬ (k : Int) ≤ 0 := by omega
    by_cases hz : x.s.size = 0
    · have hz2 := no_text hz
      have HR : Hid (coR f g k = ⟨ByteArray.empty, 2, vgetT g (11, 0)⟩) := by show _ = _; rw [HE.out, if_pos hn, if_neg (by omega)]
      clear HE hz
      go_wp2_with (first | (refine list_wnew rfl wide_V _ _ rfl F rfl (vc x) rfl _ rfl hF rfl (vc_one _) ?_))
      exact bodyPost_ret (v := .tuple #[.string ⟨#[]⟩, .int .i64 2]) (by simp [results, Try.results54, go_sem]) rfl ⟨by rw [HR.out]; rfl, by rw [HR.out]; exact hv4, K4⟩
    · have hz1 := ne_text hz
      obtain ⟨m, hm⟩ : ∃ m : Nat, m = min k x.s.size := ⟨_, rfl⟩
      obtain ⟨d, hd⟩ : ∃ d, x.s.extract 0 m = d := ⟨_, rfl⟩
      obtain ⟨r, hr⟩ : ∃ r, x.s.extract m x.s.size = r := ⟨_, rfl⟩
      have hmx : (m : Int) ≤ x.s.size := by omega
      have hds : d.size ≤ 1000000 := by rw [← hd, take_ext hm, bs_size, List.length_take, bl_len]; omega
      have HR : Hid (coR f g k = ⟨d, 0, vputT (vgetT g (11, 0)) (11, 0) (withS x r)⟩) := by
        show _ = _
        rw [HE.out, if_pos hn, if_pos hz, Int.toNat_natCast, ← take_ext hm, ← drop_ext hm, hd, hr]
      have hb6 : ∀ (w' : World), Kept (fun _ => False) (w3.alloc (.cells (vc x).toArray 51)) w' → (w'.setCell ⟨F, 16, none⟩ (.string r)).heap[F]? = some (.cells (vc (withS x r)).toArray 51 (0, 0)) := fun w' hk' => by
        rw [set_at (hk'.at hF4 (fun x => x))]; rfl
      have hmin : (if x.s.size < k then (x.s.size : Int) else (k : Int)) = m := by split <;> omega
      clear HE hm
      go_wp2_with (first | (refine list_wnew rfl wide_V _ _ rfl F rfl (vc x) rfl _ rfl hF rfl (vc_one _) ?_))
      generalize w3.alloc (.cells (vc x).toArray 51) = w4 at *
      refine (clone_w _ hds _).mono ?_
      rintro e w5 ⟨rfl, hk5⟩
      have hb7 := hb6 w5 hk5
      have c5 := hk5.cell c16 (fun x => x)
      have f5 := free_at (hk5.at hF4 (fun x => x)) 16
      have hv5 := hv4.still hk5
      have K5 := K4.trans hk5 (fun _ _ e => e.elim)
      clear hb6 hv4 K4 c16 f16 hF4
      go_wp2_with fail
      have k6 : Kept (fun n => n = F) w5 (w5.setCell ⟨F, 16, none⟩ (.string r)) := by refine Kept.setCell (Kept.refl _ _) ?_ _; intro _; rfl
      generalize w5.setCell ⟨F, 16, none⟩ (.string r) = w6 at *
      have hv6 := hv5.kept k6 (by omega) (by omega)
      have K6 : Kept (fun n => n = N) w w6 := K5.trans k6 (fun k h1 h2 => by omega)
      clear c5 f5 hk5 hv5 K5 k6 hmin hmx hr hd hz1 hz hk1
      obtain ⟨y, hy⟩ : ∃ y, withS x r = y := ⟨_, rfl⟩
      rw [hy] at HR hb7
      clear hy
      have KS : ∀ w', Kept (fun n => n = N) w6 w' → True := fun _ _ => trivial
      have KV : ∀ w', Kept (fun n => n = N) w6 w' → w'.rangeAt F 0 (vc y) := fun w' hk' => range_kept (whole_range hb7) hk' (by omega)
      refine wp_region_held_drew (S := fun w' => Kept (fun n => n = N) w6 w') (by kernel_rfl) ((Kept.refl _ _).drew) (fun hHeld => ?_)
      refine h_take 0 (some 31) (Op.move (Operand.tmp 0)) 25 ?v1 rfl rfl (by kernel_rfl) (by kernel_rfl) (by kernel_rfl) (fun _ _ _ h => h) ?hy1 hHeld ?_
      case hy1 => (intro _ _ _ w hSw; have hcs := KS _ hSw; go_simp; try with_reducible rfl)
      simp only [Act.put, List.setIfInBounds_toArray, List.set_cons_zero, List.set_cons_succ]
      refine h_take 2 (some 33) (Op.load 51 (Operand.tmp 6)) 51 (vv y) rfl rfl (by kernel_rfl) (by kernel_rfl) (by kernel_rfl) (fun _ _ _ h => h) (fun _ _ _ w hSw => exec_load rfl (load_wide wide_V (KV w hSw) rfl)) hHeld ?_
      simp only [Act.put, List.setIfInBounds_toArray, List.set_cons_zero, List.set_cons_succ]
      refine h_step 1 (some 32) (Op.call { callee := Callee.value (Operand.func 61), args := #[], argTypes := #[] }) 54 rfl rfl (by kernel_rfl) (fun _ _ _ K hK => ?_)
      go_simp
      refine (fcons_w _).mono ?_
      rintro e w7 ⟨rfl, hk7⟩
      replace hk7 : Kept (fun _ => False) w6 w7 := (Kept.refl _ w6).drew.thru hk7
      go_wp2_with fail
      refine hK.out _ _ (hk7.mono (fun _ _ e => e.elim)) (fun hHeld => ?_)
      clear hK K
      try simp only [Act.put, List.setIfInBounds_toArray, List.set_cons_zero, List.set_cons_succ]
      refine h_step 3 (some 34) (Op.call { callee := Callee.value (Operand.func 24), args := #[Operand.tmp 31, Operand.tmp 32, Operand.tmp 33], argTypes := #[25, 54, 51] }) 0 rfl rfl (by kernel_rfl) (fun _ _ _ K hK => ?_)
      go_simp
      refine (vput_w q N p (vgetT g (11, 0)) 11 0 y w7 (hv6.still hk7)).mono ?_
      rintro e w8 ⟨rfl, hv8, hk8⟩
      replace hk8 : Kept (fun n => n = N) w6 w8 := (hk7.mono (fun _ _ e => e.elim)).trans hk8 (fun _ _ e => e)
      go_wp2_with fail
      refine hK.out _ _ (hk8) (fun hHeld => ?_)
      clear hK K
      try simp only [Act.put, List.setIfInBounds_toArray, List.set_cons_zero, List.set_cons_succ]
      refine wpAnyH_done (by kernel_rfl) ?_ _
      have HZ : Hid (ViewIn q N p (coR f g k).g w8 ∧ Kept (fun n => n = N) w w8) := ⟨by rw [HR.out]; exact hv8, K6.trans hk8 (fun _ _ e => e)⟩
      clear hHeld KS KV hk7 hv6 hk8 hv8 hb7 K6
      go_wp2_with fail
      exact bodyPost_ret (v := .tuple #[.string d, .int .i64 0]) (by simp [results, Try.results54, go_sem]) rfl ⟨by rw [HR.out]; rfl, HZ.out⟩
  · have hk1 : n ≤ 0 := by omega
    have HR : Hid (coR f g n = ⟨ByteArray.empty, 0, vgetT g (11, 0)⟩) := by show _ = _; rw [HE.out, if_neg hn]
    clear HE hn
    go_wp2_with (first | (refine list_wnew rfl wide_V _ _ rfl F rfl (vc x) rfl _ rfl hF rfl (vc_one _) ?_))
    exact bodyPost_ret (v := .tuple #[.string ⟨#[]⟩, .int .i64 0]) (by simp [results, Try.results54, go_sem]) rfl ⟨by rw [HR.out]; rfl, by rw [HR.out]; exact hv4, K4⟩

theorem con_next (x : V) (d : ByteArray) {i : Nat} (h : i < d.size) : conW x ((bl d).take (i + 1)) = con1 (conW x ((bl d).take i)) d[i] := by
  unfold conW
  have e : (bl d)[i]? = some d[i] := bl_at d h
  rw [List.take_add_one, e, List.foldl_append]
  rfl

set_option maxHeartbeats 1000000 in
theorem cowr_w (q N p B : Nat) (f : StF) (g : VwF) (d : ByteArray) (w : World) (h : ViewIn q N p g w) (hs : StoreIn p B f w) (hNB : N ≠ B) (hd : d.size ≤ 1000000) : Calls Try.prog 57 #[.pointer (some ⟨q, 0, none⟩), .string d] w
    fun e w' => e = .returned (.int .i64 (d.size : Nat)) ∧ ViewIn q N p (coT f g d) w' ∧ Kept (fun n => n = N) w w' := by
  have hN : N < w.heap.size := h.map.lt
  have hq : q < w.heap.size := lt_at h.cell
  have HE : Hid (coT f g d = vputT (vgetT g (11, 0)) (11, 0) (conW (conV f g) (bl d))) := rfl
  go_enter Try.func57, Try.ntmps57
  go_wp2_with fail
  refine (fcons_w _).mono ?_
  rintro e w2 ⟨rfl, hk2⟩
  have K2 : Kept (fun n => n = N) w w2 := hk2.mono (fun _ _ e => e.elim)
  go_wp2_with fail
  refine (vget_w q N p B f g 11 0 w2 (h.still hk2) (hs.still hk2) hNB).mono ?_
  rintro e w3 ⟨rfl, hv3, hk3⟩
  have K3 : Kept (fun n => n = N) w w3 := K2.trans hk3 (fun _ _ e => e)
  clear K2 hk3 hk2 h hs
  rw [show vgetF f g (11, 0) = conV f g from rfl]
  generalize conV f g = x at *
  obtain ⟨F, hF⟩ : ∃ F : Nat, w3.heap.size = F := ⟨_, rfl⟩
  have lF : w.heap.size ≤ F := by have := K3.size; omega
  obtain ⟨w4, h4⟩ : ∃ w4, w3.alloc (.cells (vc x).toArray 51) = w4 := ⟨_, rfl⟩
  have hF4 : w4.heap[F]? = some (.cells (vc x).toArray 51 (0, 0)) := by subst h4; exact alloc_at' _ hF
  have k34 : Kept (fun _ => False) w3 w4 := by subst h4; exact (Kept.refl _ _).alloc _
  have hv4 := hv3.still k34
  have K4 : Kept (fun n => n = N) w w4 := K3.trans k34 (fun _ _ e => e.elim)
  clear hv3 K3 k34
  go_wp2_with (first | (refine list_wnew rfl wide_V _ _ rfl F rfl (vc x) rfl _ rfl hF rfl (vc_one _) ?_))
  try rw [h4]
  clear hF h4
  have H0 : Hid (Kept (fun n => n = F) w4 w4 ∧ w4.heap[F]? = some (.cells (vc (conW x ((bl d).take 0))).toArray 51 (0, 0))) := ⟨Kept.refl _ _, hF4⟩
  have HV : Hid (ViewIn q N p (vgetT g (11, 0)) w4 ∧ Kept (fun n => n = N) w w4) := ⟨hv4, K4⟩
  clear hF4 hv4 K4
  go_loopw [6, 12] (fun _ v wr => ∃ i : Nat, v = .int .i64 i ∧ i ≤ d.size ∧ Hid (Kept (fun n => n = F) w4 wr ∧ wr.heap[F]? = some (.cells (vc (conW x ((bl d).take i))).toArray 51 (0, 0)))) (fun _ v _ => d.size - (intOf v).toNat)
  case atStart => exact ⟨0, rfl, Nat.zero_le _, H0.out⟩
  case round =>
    obtain ⟨i, rfl, hi, HH⟩ := hrel
    clear H0
    by_cases hlt : i < d.size
    · have t1 : (i : Int) < (d.size : Int) := by omega
      have HN : Hid (conW x ((bl d).take (i + 1)) = con1 (conW x ((bl d).take i)) d[i]) := con_next x d hlt
      generalize conW x ((bl d).take i) = y at *
      have hF4 := HH.out.2
      have c0 := cell_at hF4 (i := 0) (v := .int .i64 y.n0) rfl
      have f0 := free_at hF4 0
      have hF5 := set_at hF4 0 (.int .i64 (wrap64 (y.n0 + 1)))
      obtain ⟨b, hb⟩ : ∃ b : Nat, d[i].toNat = b := ⟨_, rfl⟩
      have hb2 : b < 256 := by rw [← hb]; exact d[i].toNat_lt
      have c1 : (wr.setCell ⟨F, 0, none⟩ (.int .i64 (wrap64 (y.n0 + 1)))).cell? ⟨F, 1, none⟩ = some (.int .i64 y.n1) := cell_at hF5 rfl
      have f1 := free_at hF5 1
      go_upto_region 6 with fail
      have k5 : Kept (fun n => n = F) wr (wr.setCell ⟨F, 0, none⟩ (.int .i64 (wrap64 (y.n0 + 1)))) := by refine Kept.setCell (Kept.refl _ _) ?_ _; intro _; rfl
      generalize wr.setCell ⟨F, 0, none⟩ (.int .i64 (wrap64 (y.n0 + 1))) = w5 at *
      have HN2 : Hid (d[i].toNat = b ∧ b < 256) := ⟨hb, hb2⟩
      have HF5 : Hid (Kept (fun n => n = F) wr w5 ∧ w5.heap[F]? = some (.cells ((vc y).toArray.setIfInBounds 0 (.int .i64 (wrap64 (y.n0 + 1)))) 51 (0, 0))) := ⟨k5, hF5⟩
      have t2 : (0 : Int) ≤ (i : Int) := by omega
      have HWI : Hid (wrap64 ((i : Int) + 1) = ((i + 1 : Nat) : Int)) := by show _ = _; unfold wrap64; omega
      have hwb : wrap64 (b : Int) = b := by unfold wrap64; omega
      clear hF4 c0 f0 hF5 k5 hNB hN hq lF hi hd hb2
      go_region
      all_goals
        rw [hwb]
        have HM : Hid (Kept (fun n => n = F) w4 (w5.setCell ⟨F, 1, none⟩ (.int .i64 (wrap64 (wrap64 (31 * y.n1) + b)))).drew ∧ (w5.setCell ⟨F, 1, none⟩ (.int .i64 (wrap64 (wrap64 (31 * y.n1) + b)))).drew.heap[F]? = some (.cells (vc (conW x ((bl d).take (i + 1)))).toArray 51 (0, 0))) := by
          refine ⟨(HH.out.1.trans (HF5.out.1.trans (Kept.drew (Kept.setCell (Kept.refl _ _) ?_ _)) (fun _ _ e => e)) (fun _ _ e => e)), ?_⟩
          · intro _; rfl
          · show (w5.setCell _ _).heap[F]? = _
            rw [set_at HF5.out.2, HN.out]
            show some _ = some _
            unfold con1
            rw [HN2.out.1]
            rfl
        generalize (w5.setCell ⟨F, 1, none⟩ (.int .i64 (wrap64 (wrap64 (31 * y.n1) + b)))).drew = w6 at *
        clear HF5 HN2 HN HH c1 f1 hb hwb
        go_wp2
        rw [HWI.out]
        exact ⟨⟨i + 1, rfl, by omega, HM⟩, by show d.size - (((i + 1 : Nat) : Int)).toNat < d.size - ((i : Nat) : Int).toNat; omega⟩
    · obtain rfl : i = d.size := by omega
      have hF4 := HH.out.2
      rw [List.take_of_length_le (by rw [bl_len]; omega)] at hF4
      have hvw := HV.out.1.kept HH.out.1 (by omega) (by omega)
      have hKw : Kept (fun n => n = N) w wr := HV.out.2.trans HH.out.1 (fun k h1 h2 => by omega)
      clear HH HV
      generalize conW x (bl d) = y at *
      have KS : ∀ w', Kept (fun n => n = N) wr w' → True := fun _ _ => trivial
      have KV : ∀ w', Kept (fun n => n = N) wr w' → w'.rangeAt F 0 (vc y) := fun w' hk' => range_kept (whole_range hF4) hk' (by omega)
      go_wp2_with fail
      refine wp_region_held_drew (S := fun w' => Kept (fun n => n = N) wr w') (by kernel_rfl) ((Kept.refl _ _).drew) (fun hHeld => ?_)
      refine h_take 0 (some 33) (Op.move (Operand.tmp 0)) 25 ?v2 rfl rfl (by kernel_rfl) (by kernel_rfl) (by kernel_rfl) (fun _ _ _ h => h) ?hy2 hHeld ?_
      case hy2 => (intro _ _ _ w hSw; have hcs := KS _ hSw; go_simp; try with_reducible rfl)
      simp only [Act.put, List.setIfInBounds_toArray, List.set_cons_zero, List.set_cons_succ]
      refine h_take 2 (some 35) (Op.load 51 (Operand.tmp 5)) 51 (vv y) rfl rfl (by kernel_rfl) (by kernel_rfl) (by kernel_rfl) (fun _ _ _ h => h) (fun _ _ _ w hSw => exec_load rfl (load_wide wide_V (KV w hSw) rfl)) hHeld ?_
      simp only [Act.put, List.setIfInBounds_toArray, List.set_cons_zero, List.set_cons_succ]
      refine h_step 1 (some 34) (Op.call { callee := Callee.value (Operand.func 61), args := #[], argTypes := #[] }) 54 rfl rfl (by kernel_rfl) (fun _ _ _ K hK => ?_)
      go_simp
      refine (fcons_w _).mono ?_
      rintro e w7 ⟨rfl, hk7⟩
      replace hk7 : Kept (fun _ => False) wr w7 := (Kept.refl _ wr).drew.thru hk7
      go_wp2_with fail
      refine hK.out _ _ (hk7.mono (fun _ _ e => e.elim)) (fun hHeld => ?_)
      clear hK K
      try simp only [Act.put, List.setIfInBounds_toArray, List.set_cons_zero, List.set_cons_succ]
      refine h_step 3 (some 36) (Op.call { callee := Callee.value (Operand.func 24), args := #[Operand.tmp 33, Operand.tmp 34, Operand.tmp 35], argTypes := #[25, 54, 51] }) 0 rfl rfl (by kernel_rfl) (fun _ _ _ K hK => ?_)
      go_simp
      refine (vput_w q N p (vgetT g (11, 0)) 11 0 y w7 (hvw.still hk7)).mono ?_
      rintro e w8 ⟨rfl, hv8, hk8⟩
      replace hk8 : Kept (fun n => n = N) wr w8 := (hk7.mono (fun _ _ e => e.elim)).trans hk8 (fun _ _ e => e)
      go_wp2_with fail
      refine hK.out _ _ (hk8) (fun hHeld => ?_)
      clear hK K
      try simp only [Act.put, List.setIfInBounds_toArray, List.set_cons_zero, List.set_cons_succ]
      refine wpAnyH_done (by kernel_rfl) ?_ _
      have HZ : Hid (ViewIn q N p (coT f g d) w8 ∧ Kept (fun n => n = N) w w8) := ⟨by rw [HE.out]; exact hv8, hKw.trans hk8 (fun _ _ e => e)⟩
      clear hHeld KS KV hk7 hvw hk8 hv8 hF4 hKw HE
      go_wp2_with fail
      go_ret
      exact ⟨rfl, HZ.out⟩
end Go.Proofs.Ytdgkhfhlbjpaoaa
