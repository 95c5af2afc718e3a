
/- What the reference's inodes do when they are called: Read, Write; no conditions but lengths. -/
import Derived.Test.YtkpcillgoeidaaaRIno
import Derived.Test.YtkpcillgoeidaaaFindF
import Derived.Test.YtkpcillgoeidaaaWrite
namespace Go.Proofs.Ytkpcillgoeidaaa
open Go.RowKit
set_option maxRecDepth 100000
set_option linter.unusedSimpArgs false

theorem is_val {f : StF} {g : VwF} {i : Int} (h : isI f g i = true) : vgetF f g (10, i) = findV f g i ∧ findT g i = vgetT g (10, i) := by
  have hr := is_range h
  unfold isI findV at h
  unfold findV findT
  rw [if_pos hr] at h ⊢
  rw [if_pos hr]
  by_cases h0 : (vgetF f g (10, i)).n0 = 0
  · rw [if_pos h0] at h; simp [zeroV] at h
  · rw [if_neg h0]; exact ⟨rfl, rfl⟩

theorem not_is {f : StF} {g : VwF} {i : Int} (h : isI f g i = false) : findV f g i = zeroV := by
  unfold isI findV at h
  unfold findV
  split
  · rename_i hr
    rw [if_pos hr] at h
    split
    · rfl
    · rename_i h0; rw [if_neg h0] at h; simp at h; exact absurd h h0
  · rfl

theorem over_ext {s t : ByteArray} {o m : Nat} (hm : m = min s.size (o + t.size)) : s.extract 0 o ++ t ++ s.extract m s.size = overF s o t := by
  unfold overF
  apply bl_inj
  rw [bl_app, bl_app, bl_extract, bl_extract, bl_bs, List.drop_zero, Nat.sub_zero]
  congr 1
  have e1 : (bl s).length = s.size := bl_len s
  by_cases h : o + t.size ≤ s.size
  · have : m = o + t.size := by omega
    rw [this, List.take_of_length_le (by rw [List.length_drop]; omega)]
  · have : m = s.size := by omega
    rw [this, Nat.sub_self, List.take_zero, List.drop_eq_nil_of_le (by omega)]

set_option maxHeartbeats 2000000 in
theorem rwrite_w {q R W p B : Nat} {f : StF} {g : VwF} {w : World} (h : RBoth q R W p B f g w) (i off : Int) (d : ByteArray) (hsz : (findV f g i).s.size ≤ 100000) : Calls Try.prog 49 #[.pointer (some ⟨q, 0, none⟩), .int .i64 i, .int .i64 off, .string d] w
    fun e w' => e = .returned (.int .i64 (writeA f g i off d)) ∧ RBoth q R W p B f (writeT f g i off d) w' ∧ Kept (RW R W) w w' := by
  obtain ⟨lq, lR, lW, lp, lB⟩ := h.lt
  go_enter Try.func49, Try.ntmps49
  go_wp2_with fail
  refine (ris_w h i).mono ?_
  rintro e w1 ⟨rfl, hv1, hk1⟩
  have hv := is_val (f := f) (g := g) (i := i)
  obtain ⟨ib, hib⟩ : ∃ ib, isI f g i = ib := ⟨_, rfl⟩
  obtain ⟨ok, hok⟩ : ∃ ok, wrOk f g i off = ok := ⟨_, rfl⟩
  have HA : Hid (writeA f g i off d = if ok = true then ((cutD d off.toNat).size : Int) else -1) := by show _ = _; unfold writeA; rw [hok]
  have HT : Hid (writeT f g i off d = if ok = true then vputT (findT g i) (10, i) (withS (findV f g i) (overF (findV f g i).s off.toNat (cutD d off.toNat))) else findT g i) := by show _ = _; unfold writeT; rw [hok]
  unfold wrOk at hok
  rw [hib] at hok hv ⊢
  clear hib
  have HN : Hid (ok = false → writeA f g i off d = -1 ∧ writeT f g i off d = findT g i) := fun e => by
    rw [e] at HA HT
    exact ⟨HA.out, HT.out⟩
  cases ib with
  | false =>
    have hok2 : ok = false := by rw [← hok]; rfl
    have HZ : Hid (writeA f g i off d = -1 ∧ RBoth q R W p B f (writeT f g i off d) w1 ∧ Kept (RW R W) w w1) := ⟨(HN.out hok2).1, by rw [(HN.out hok2).2]; exact hv1, hk1⟩
    clear HA HT hok hok2 HN hv hv1 hk1
    go_wp2
    go_ret
    exact ⟨by rw [HZ.out.1]; rfl, HZ.out.2⟩
  | true =>
    by_cases b1 : off < 0
    · have hok2 : ok = false := by rw [← hok]; simp; omega
      have HZ : Hid (writeA f g i off d = -1 ∧ RBoth q R W p B f (writeT f g i off d) w1 ∧ Kept (RW R W) w w1) := ⟨(HN.out hok2).1, by rw [(HN.out hok2).2]; exact hv1, hk1⟩
      clear HA HT hok hok2 HN hv hv1 hk1
      go_wp2
      go_ret
      exact ⟨by rw [HZ.out.1]; rfl, HZ.out.2⟩
    by_cases b2 : 128 < off
    · have hok2 : ok = false := by rw [← hok]; simp; omega
      have HZ : Hid (writeA f g i off d = -1 ∧ RBoth q R W p B f (writeT f g i off d) w1 ∧ Kept (RW R W) w w1) := ⟨(HN.out hok2).1, by rw [(HN.out hok2).2]; exact hv1, hk1⟩
      clear HA HT hok hok2 HN hv hv1 hk1
      go_wp2
      go_ret
      exact ⟨by rw [HZ.out.1]; rfl, HZ.out.2⟩
    obtain ⟨hx1, hx2⟩ := hv rfl
    clear hv
    have hgv : vgetF f (findT g i) (10, i) = findV f g i := by rw [hx2, get_get, hx1]
    have hgt : vgetT (findT g i) (10, i) = findT g i := by rw [hx2, get_twice (f := f).2]
    clear hx1 hx2
    generalize findV f g i = x at *
    have HK : Hid ((true && decide (0 ≤ off) && decide (off ≤ 128) && decide (off ≤ (x.s.size : Int))) = ok) := hok
    clear hok
    go_wp2_with fail
    refine (rkey_w i _).mono ?_
    rintro e w2 ⟨rfl, hk2⟩
    go_wp2_with fail
    refine (rg_w (hv1.still hk2) 10 i).mono ?_
    rintro e w3 ⟨rfl, hv3, hk3⟩
    rw [hgt] at hv3
    rw [hgv]
    have K3 : Kept (RW R W) w w3 := (hk1.trans hk2 (fun _ _ e => e.elim)).trans hk3 (fun _ _ e => e)
    clear hgv hgt hk1 hk2 hk3 hv1
    obtain ⟨o, rfl⟩ : ∃ o : Nat, off = o := ⟨off.toNat, by omega⟩
    obtain ⟨F, hF⟩ : ∃ F : Nat, w3.heap.size = F := ⟨_, rfl⟩
    have lF : w.heap.size ≤ F := by have := K3.size; omega
    have nRW : ¬ RW R W F := by unfold RW; omega
    have hb4 : (w3.alloc (.cells (vc x).toArray 64)).heap[F]? = some (.cells (vc x).toArray 64 (0, 0)) := alloc_at' _ hF
    have c16 : (w3.alloc (.cells (vc x).toArray 64)).cell? ⟨F, 16, none⟩ = some (.string x.s) := cell_at hb4 rfl
    have k34 : Kept (fun _ => False) w3 (w3.alloc (.cells (vc x).toArray 64)) := (Kept.refl _ _).alloc _
    have hv4 := hv3.still k34
    have K4 := K3.trans k34 (fun _ _ e => e.elim)
    clear k34 hv3 K3
    by_cases b3 : (x.s.size : Int) < o
    · have hok2 : ok = false := by rw [← HK.out]; simp; omega
      have HZ : Hid (writeA f g i o d = -1 ∧ RBoth q R W p B f (writeT f g i o d) (w3.alloc (.cells (vc x).toArray 64)) ∧ Kept (RW R W) w (w3.alloc (.cells (vc x).toArray 64))) := ⟨(HN.out hok2).1, by rw [(HN.out hok2).2]; exact hv4, K4⟩
      clear HA HT HK hok2 HN hv4 K4
      go_wp2_with (first | (refine list_wnew rfl wide_V _ _ rfl F rfl (vc x) rfl _ rfl hF rfl (vc_one _) ?_))
      go_ret
      exact ⟨by rw [HZ.out.1]; rfl, HZ.out.2⟩
    have b4 : (o : Int) ≤ x.s.size := by omega
    have hok2 : ok = true := by rw [← HK.out]; simp; omega
    obtain ⟨t, ht⟩ : ∃ t, cutD d o = t := ⟨_, rfl⟩
    have hts : t.size = min (128 - o) d.size := by rw [← ht, cutD_size]
    have hext : ∀ m : Nat, m = min (128 - o) d.size → d.extract 0 m = t := fun m hm => by rw [cutD_ext hm, ht]
    have HA2 : Hid (writeA f g i o d = t.size) := by show _ = _; rw [HA.out, if_pos hok2, Int.toNat_natCast, ht]
    have HT2 : Hid (writeT f g i o d = vputT (findT g i) (10, i) (withS x (overF x.s o t))) := by show _ = _; rw [HT.out, if_pos hok2, Int.toNat_natCast, ht]
    clear HA HT ht HK HN hok2
    have hts2 : t.size ≤ 128 := by omega
    have HX : Hid (∀ m : Nat, m = min (128 - o) d.size → d.extract 0 m = t) := hext
    clear hext hts
    go_upto_region 6 with (first | (refine list_wnew rfl wide_V _ _ rfl F rfl (vc x) rfl _ rfl hF rfl (vc_one _) ?_))
    generalize w3.alloc (.cells (vc x).toArray 64) = w4 at *
    go_cut [3] from 10 to 38 (fun v wx => v = .string t ∧ wx = w4)
    case first =>
      by_cases hm : (128 : Int) - o < d.size
      · have e1 := HX.out (128 - o) (by omega)
        have e2 : ((128 : Int) - (o : Int)).toNat = 128 - o := by omega
        go_wp2
        go_meet
        case rel => exact ⟨rfl, rfl⟩
      · have e1 := HX.out d.size (by omega)
        go_wp2
        go_meet
        case rel => exact ⟨rfl, rfl⟩
    case rest =>
      obtain ⟨rfl, hwc⟩ := hcut
      subst hwc
      clear HX hF
      obtain ⟨m, hm⟩ : ∃ m : Nat, m = min x.s.size (o + t.size) := ⟨_, rfl⟩
      go_upto_region 7 with fail
      go_cut [10] from 11 to 46 (fun v wx => v = .int .i64 m ∧ wx = wc)
      case first =>
        by_cases hmx : (x.s.size : Int) ≤ (o : Int) + t.size
        · have hm' : m = x.s.size := by omega
          subst hm'
          clear hm
          go_wp2
          go_meet
          case rel => exact ⟨rfl, rfl⟩
        · have hm' : m = o + t.size := by omega
          subst hm'
          clear hm
          go_wp2
          go_meet
          case rel => exact ⟨by simp, rfl⟩
      case rest =>
        obtain ⟨rfl, hwc⟩ := hcut
        subst hwc
        have f16 := free_at hb4 16
        have m1 : (m : Int) ≤ x.s.size := by omega
        have hsum := over_ext (s := x.s) (t := t) (o := o) hm
        obtain ⟨y, hy⟩ : ∃ y, overF x.s o t = y := ⟨_, rfl⟩
        rw [hy] at hsum HT2
        clear hm
        have hb8 : (wc.setCell ⟨F, 16, none⟩ (.string y)).heap[F]? = some (.cells (vc (withS x y)).toArray 64 (0, 0)) := by rw [set_at hb4]; rfl
        have k8 : Kept (fun n => n = F) wc (wc.setCell ⟨F, 16, none⟩ (.string y)) := by refine Kept.setCell (Kept.refl _ _) ?_ _; intro _; rfl
        have sz1 : (x.s.extract 0 o).size ≤ 100000 := by rw [← bl_len, bl_extract]; simp [bl_len]; omega
        have sz2 : (x.s.extract 0 o ++ t).size ≤ 100200 := by rw [← bl_len, bl_app, List.length_append, bl_len, bl_len]; omega
        have sz3 : (x.s.extract m x.s.size).size ≤ 100000 := by rw [← bl_len, bl_extract]; simp [bl_len]; omega
        have sz4 : (x.s.extract 0 o ++ t ++ x.s.extract m x.s.size).size ≤ 300000 := by rw [← bl_len, bl_app, List.length_append, bl_len, bl_len]; omega
        go_wp2_with fail
        go_cut [10] from 47 to 58 (fun v wx => v = .int .i64 m ∧ wx = (wc.setCell ⟨F, 16, none⟩ (.string y)).drew)
        case first =>
          go_region
          all_goals
            go_wp2
            go_meet
            case rel => exact ⟨rfl, rfl⟩
        case rest =>
          obtain ⟨rfl, hwd⟩ := hcut
          subst hwd
          have hv8 : RBoth q R W p B f (findT g i) (wc.setCell ⟨F, 16, none⟩ (.string y)).drew := (hv4.kept k8 (by omega) (by omega) (by omega) (by omega) (by omega)).still ((Kept.refl _ _).drew)
          have hK8 : Kept (RW R W) w (wc.setCell ⟨F, 16, none⟩ (.string y)).drew := (K4.trans k8 (fun k h1 h2 => by omega)).drew
          have hb9 : (wc.setCell ⟨F, 16, none⟩ (.string y)).drew.heap[F]? = some (.cells (vc (withS x y)).toArray 64 (0, 0)) := hb8
          clear hv4 K4 hb8 k8 hb4 c16 f16 hy hsum sz1 sz2 sz3 sz4
          generalize (wc.setCell ⟨F, 16, none⟩ (.string y)).drew = w8 at *
          have KS : ∀ w', Kept (RW R W) w8 w' → True := fun _ _ => trivial
          have KV : ∀ w', Kept (RW R W) w8 w' → w'.rangeAt F 0 (vc (withS x y)) := fun w' hk' => range_kept (whole_range hb9) hk' nRW
          go_wp2_with fail
          refine wp_region_held_drew (S := fun w' => Kept (RW R W) w8 w') (by kernel_rfl) ((Kept.refl _ _).drew) (fun hHeld => ?_)
          refine h_take 0 (some 59) (Op.move (Operand.tmp 0)) 29 ?v1 rfl rfl (by kernel_rfl) (by kernel_rfl) (by kernel_rfl) (fun _ _ _ h => h) ?hy1 hHeld ?_
          case hy1 => (intro _ _ _ w hSw; have hcs := KS _ hSw; go_simp; try with_reducible rfl)
          simp only [Act.put, List.setIfInBounds_toArray, List.set_cons_zero, List.set_cons_succ]
          refine h_take 1 (some 60) (Op.move (Operand.tmp 1)) 3 ?v2 rfl rfl (by kernel_rfl) (by kernel_rfl) (by kernel_rfl) (fun _ _ _ h => h) ?hy2 hHeld ?_
          case hy2 => (intro _ _ _ w hSw; have hcs := KS _ hSw; go_simp; try with_reducible rfl)
          simp only [Act.put, List.setIfInBounds_toArray, List.set_cons_zero, List.set_cons_succ]
          refine h_take 3 (some 62) (Op.load 64 (Operand.tmp 9)) 64 (vv (withS x y)) rfl rfl (by kernel_rfl) (by kernel_rfl) (by kernel_rfl) (fun _ _ _ h => h) (fun _ _ _ w hSw => exec_load rfl (load_wide wide_V (KV w hSw) rfl)) hHeld ?_
          simp only [Act.put, List.setIfInBounds_toArray, List.set_cons_zero, List.set_cons_succ]
          refine h_step 2 (some 61) (Op.call { callee := Callee.value (Operand.func 48), args := #[Operand.tmp 60], argTypes := #[3] }) 61 rfl rfl (by kernel_rfl) (fun _ _ _ K hK => ?_)
          go_simp
          refine (rkey_w i _).mono ?_
          rintro e w5 ⟨rfl, hk5⟩
          replace hk5 : Kept (fun _ => False) w8 w5 := (Kept.refl _ w8).drew.thru hk5
          go_wp2_with fail
          refine hK.out _ _ (hk5.mono (fun _ _ e => e.elim)) (fun hHeld => ?_)
          clear hK K
          try simp only [Act.put, List.setIfInBounds_toArray, List.set_cons_zero, List.set_cons_succ]
          refine h_step 4 (some 63) (Op.call { callee := Callee.value (Operand.func 72), args := #[Operand.tmp 59, Operand.tmp 61, Operand.tmp 62], argTypes := #[29, 61, 64] }) 0 rfl rfl (by kernel_rfl) (fun _ _ _ K hK => ?_)
          go_simp
          refine (rp_w (hv8.still hk5) 10 i (withS x y)).mono ?_
          rintro e wz ⟨rfl, hvz, hkz⟩
          replace hkz : Kept (RW R W) w8 wz := (hk5.mono (fun _ _ e => e.elim)).trans hkz (fun _ _ e => e)
          go_wp2_with fail
          refine hK.out _ _ (hkz) (fun hHeld => ?_)
          clear hK K
          try simp only [Act.put, List.setIfInBounds_toArray, List.set_cons_zero, List.set_cons_succ]
          refine wpAnyH_done (by kernel_rfl) ?_ _
          have HZ : Hid (RBoth q R W p B f (writeT f g i o d) wz ∧ Kept (RW R W) w wz) := by refine ⟨?_, hK8.trans hkz (fun _ _ e => e)⟩; rw [HT2.out]; exact hvz
          clear hHeld KS KV hk5 hv8 hK8 hkz hvz hb9 HT2
          go_wp2_with fail
          go_ret
          exact ⟨by rw [HA2.out]; rfl, HZ.out⟩
end Go.Proofs.Ytkpcillgoeidaaa
