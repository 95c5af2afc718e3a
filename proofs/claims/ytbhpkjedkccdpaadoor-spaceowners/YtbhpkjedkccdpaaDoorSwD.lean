
/- The code's Grow; no conditions but lengths and the library's table. -/
import Derived.Test.YtbhpkjedkccdpaaDoorSwC
import Derived.Deep.CutBlock
namespace Go.Proofs.YtbhpkjedkccdpaaDoor
open Go.RowKit
set_option maxRecDepth 100000
set_option linter.unusedSimpArgs false

theorem Below.kept {X : Nat → Prop} {w w' : World} (h : Below w.heap.size w w') : Kept X w w' := ⟨h.os, h.tape, h.output, h.size, fun k hk _ => h.block k hk⟩
theorem srepeat_w (k : Nat) (hk : k ≤ 1000) (w : World) : Calls Tryd.prog 33 #[.string { data := #[0] }, .int .i64 (k : Int)] w fun e w' => e = .returned (.string (bs (List.replicate k 0))) ∧ Kept (fun _ => False) w w' := by
  refine (Tryd.strings_Repeat { data := #[0] } k w (by omega) (by show 1 * k ≤ _; omega)).mono ?_
  rintro e w' ⟨rfl, hb⟩
  refine ⟨?_, Below.kept hb⟩
  have e1 : Lib.repeatL ({ data := #[0] } : ByteArray).data.toList k = List.replicate k 0 := by
    have := Lib.repeatL_replicate 0 1 k
    rw [Nat.mul_one] at this
    exact this
  rw [e1]
  rfl
theorem MapIn.offS {κ ν : Type} {enc : κ → Value} {encv : ν → Value} {f : κ → Option ν} {B : Nat} {w : World} (h : MapIn enc encv B f w) {k o : Nat} {v : Value} (hc : w.cell? ⟨k, o, none⟩ = some v) : k ≠ B := by
  obtain ⟨es, clock, hb, _⟩ := h
  intro e
  subst e
  simp [World.cell?, hb] at hc
theorem TabIn.view {q N p : Nat} {g : VwF} {w w' : World} (h : TabIn w) (hv : ViewIn q N p g w) (hk : Kept (fun n => n = N) w w') : TabIn w' := h.kept hk (hv.map.offS (h 0 (by omega)))

set_option maxHeartbeats 4000000 in
theorem sgrow_w (q N p B : Nat) (f : StF) (g : VwF) (i n : Int) (w : World) (h : ViewIn q N p g w) (hs : StoreIn p B f w) (hNB : N ≠ B) (ht : TabIn w) (hsx : (prV f g i).s.size ≤ 1000000) (hsm : (meV f g i).s.size ≤ 1000000) : Calls Tryd.prog 9 #[.pointer (some ⟨q, 0, none⟩), .int .i64 i, .int .i64 n] w
    fun e w' => e = .returned (.bool (grOk f g i n)) ∧ ViewIn q N p (grT f g i n) w' ∧ Kept (fun n => n = N) w w' := by
  have hN : N < w.heap.size := h.map.lt
  have hq : q < w.heap.size := lt_at h.cell
  have hpN : p ≠ N := h.map.off hs.cell
  have HSK : Hid ((∀ w', Kept (fun n => n = N) w w' → StoreIn p B f w') ∧ (∀ w', Kept (fun n => n = N) w w' → TabIn w')) := ⟨fun w' hk => hs.kept hk hpN (fun e => hNB e.symm), fun w' hk => ht.view h hk⟩
  clear ht
  cases hR : isR f g i with
  | false =>
    have t0 : (stA f g i == 0) = true := by have : (stA f g i != 0) = false := hR; simpa using this
    have HS : spIn f g i n = false := by unfold spIn; rw [hR]; rfl
    have HM : grMay f g i n = false := by unfold grMay; rw [HS]; rfl
    have HO : grOk f g i n = false := by unfold grOk; rw [HM]; rfl
    have HA : Hid (grOk f g i n = false ∧ grT f g i n = stT f g i) := ⟨HO, by unfold grT; rw [HO, HM, HS]; rfl⟩
    clear hR HS HM HO hsx hsm
    go_enter Tryd.func9, Tryd.ntmps9
    go_wp2_with fail
    refine (state_w q N p B f g i w h hs hNB).mono ?_
    rintro e w1 ⟨rfl, hv1, hk1⟩
    have HZ : Hid (ViewIn q N p (stT f g i) w1 ∧ Kept (fun n => n = N) w w1) := ⟨hv1, hk1⟩
    clear h hs hv1 hk1
    go_wp2_with fail
    exact bodyPost_ret (v := .bool false) (by simp [results, Tryd.results9, go_sem]) rfl ⟨by rw [HA.out.1], by rw [HA.out.2]; exact HZ.out.1, HZ.out.2⟩
  | true =>
    have t0 : (stA f g i == 0) = false := by have : (stA f g i != 0) = true := hR; simpa using this
    by_cases hn : 0 ≤ n
    · have HS : Hid (spIn f g i n = true) := by show _ = _; unfold spIn; rw [hR, decide_eq_true hn]; rfl
      go_enter Tryd.func9, Tryd.ntmps9
      go_wp2_with fail
      refine (state_w q N p B f g i w h hs hNB).mono ?_
      rintro e w1 ⟨rfl, hv1, hk1⟩
      clear h hs hR
      go_wp2_with fail
      refine (spkey_w i _).mono ?_
      rintro e w2 ⟨rfl, hk2⟩
      have K2 := hk1.trans hk2 (fun _ _ e => e.elim)
      have hv2 := hv1.still hk2
      go_wp2_with fail
      refine (vget_w q N p B f (stT f g i) 4 i w2 hv2 (HSK.out.1 _ K2) hNB).mono ?_
      rintro e w3 ⟨rfl, hv3, hk3⟩
      have K3 : Kept (fun n => n = N) w w3 := K2.trans hk3 (fun _ _ e => e)
      rw [show vgetF f (stT f g i) (4, i) = prV f g i from get_stT _ _]
      clear hv1 hk1 hk2 hv2 K2 hk3
      go_wp2_with fail
      refine (smkey_w i _).mono ?_
      rintro e w4 ⟨rfl, hk4⟩
      have K4 := K3.trans hk4 (fun _ _ e => e.elim)
      have hv4 := hv3.still hk4
      go_wp2_with fail
      refine (vget_w q N p B f _ 12 i w4 hv4 (HSK.out.1 _ K4) hNB).mono ?_
      rintro e w5 ⟨rfl, hv5, hk5⟩
      have K5 : Kept (fun n => n = N) w w5 := K4.trans hk5 (fun _ _ e => e)
      rw [show vgetF f (vgetT (stT f g i) (4, i)) (12, i) = meV f g i from by rw [get_get, get_stT]]
      clear hv3 hk4 hv4 K3 K4 hk5
      have hv5 : ViewIn q N p (twoT f g i) w5 := hv5
      have HM : Hid (grMay f g i n = decide (n ≤ 6 - ((prV f g i).s.size : Int))) := by show _ = _; unfold grMay; rw [HS.out]; rfl
      have HT : Hid (grT f g i n = if grOk f g i n = true then put3 (threeT f g i) i (grP (poV f g) n.toNat) (grX (prV f g i) (poV f g) n.toNat) (grM (meV f g i) n.toNat)
        else if grMay f g i n = true then threeT f g i else twoT f g i) := by show _ = _; unfold grT; rw [HS.out]; rfl
      generalize prV f g i = x at *
      generalize meV f g i = m at *
      obtain ⟨X, hX⟩ : ∃ X : Nat, w5.heap.size = X := ⟨_, rfl⟩
      have lX : w.heap.size ≤ X := by have := K5.size; omega
      obtain ⟨w6, h6⟩ : ∃ w6, (w5.alloc (.cells (vc zeroV).toArray 51)).alloc (.cells (vc zeroV).toArray 51) = w6 := ⟨_, rfl⟩
      have bX : w6.heap[X]? = some (.cells (vc zeroV).toArray 51 (0, 0)) := by subst h6; exact alloc_off (alloc_at' _ hX)
      have bM : w6.heap[X + 1]? = some (.cells (vc zeroV).toArray 51 (0, 0)) := by subst h6; exact alloc_at' _ (by simp [hX])
      have k6 : Kept (fun _ => False) w5 w6 := by subst h6; exact ((Kept.refl _ _).alloc _).alloc _
      rw [zero_cells] at h6
      have k7 := kept_setRow w6 X (vc x).toArray
      have bX7 := setRow_at bX (vc x).toArray
      have bM7 := k7.at bM (by show ¬ X + 1 = X; omega)
      obtain ⟨w7, h7⟩ : ∃ w7, w6.setRow X (vc x).toArray = w7 := ⟨_, rfl⟩
      rw [h7] at k7 bX7 bM7
      have k8 := kept_setRow w7 (X + 1) (vc m).toArray
      have bM8 := setRow_at bM7 (vc m).toArray
      have bX8 := k8.at bX7 (by show ¬ X = X + 1; omega)
      obtain ⟨w8, h8⟩ : ∃ w8, w7.setRow (X + 1) (vc m).toArray = w8 := ⟨_, rfl⟩
      rw [h8] at k8 bM8 bX8
      have K8 : Kept (fun n => n = N) w w8 := ((K5.trans k6 (fun _ _ e => e.elim)).trans k7 (fun k h1 h2 => by omega)).trans k8 (fun k h1 h2 => by omega)
      have hv8 : ViewIn q N p (twoT f g i) w8 := ((hv5.still k6).kept k7 (by omega) (by omega)).kept k8 (by omega) (by omega)
      go_upto_region 4 with (first | (refine list_wstore rfl wide_V _ _ rfl X rfl (vc x) rfl bX rfl rfl (vc_one _) ?_; rw [h7]) | (refine list_wstore rfl wide_V _ _ rfl (X + 1) rfl (vc m) rfl bM7 rfl rfl (vc_one _) ?_; rw [h8]))
      have cx : w8.cell? ⟨X, 16, none⟩ = some (.string x.s) := cell_at bX8 rfl
      clear h6 h7 h8 bX bM k6 k7 k8 bX7 bM7 K5 hX hv5
      by_cases hroom : n ≤ 6 - (x.s.size : Int)
      · skip
        as_aux_lemma =>
        have HM2 : Hid (grMay f g i n = true) := by show _ = _; rw [HM.out]; exact decide_eq_true hroom
        clear HM
        obtain ⟨M, rfl⟩ : ∃ M : Nat, n = M := ⟨n.toNat, by omega⟩
        have hN6 : M ≤ 6 := by omega
        have lXw : X + 1 < w8.heap.size := lt_at bM8
        go_wp2_with fail
        refine (spool_w _).mono ?_
        rintro e w9 ⟨rfl, k9⟩
        have hv9 := hv8.still k9
        have K9 := K8.trans k9 (fun _ _ e => e.elim)
        have bX9 := k9.at bX8 (fun e => e)
        have bM9 := k9.at bM8 (fun e => e)
        clear hv8 K8 bX8 bM8 k9
        go_wp2_with fail
        refine (vget_w q N p B f _ 2 0 w9 hv9 (HSK.out.1 _ K9) hNB).mono ?_
        rintro e w10 ⟨rfl, hv10, hk10⟩
        have K10 : Kept (fun n => n = N) w w10 := K9.trans hk10 (fun _ _ e => e)
        rw [show vgetF f (twoT f g i) (2, 0) = poV f g from get_two _ _]
        have hv10 : ViewIn q N p (threeT f g i) w10 := hv10
        have bX10 := hk10.at bX9 (by show ¬ X = N; omega)
        have bM10 := hk10.at bM9 (by show ¬ X + 1 = N; omega)
        clear hv9 K9 bX9 bM9 hk10 cx
        have HO : Hid (grOk f g i (M : Int) = decide ((M : Int) ≤ (cntB (poV f g).n0 : Int))) := by show _ = _; unfold grOk; rw [HM2.out]; rfl
        generalize poV f g = y at *
        obtain ⟨Y, hY⟩ : ∃ Y : Nat, w10.heap.size = Y := ⟨_, rfl⟩
        obtain ⟨w3, h3⟩ : ∃ w3, w10.alloc (.cells (vc y).toArray 51) = w3 := ⟨_, rfl⟩
        have k3 : Kept (fun _ => False) w10 w3 := by subst h3; exact (Kept.refl _ _).alloc _
        have bY3 : w3.heap[Y]? = some (.cells (vc y).toArray 51 (0, 0)) := by subst h3; exact alloc_at' _ hY
        have bX3 := k3.at bX10 (fun e => e)
        have bM3 := k3.at bM10 (fun e => e)
        have hv3 := hv10.still k3
        have K3 : Kept (fun n => n = N) w w3 := K10.trans k3 (fun _ _ e => e.elim)
        have lXY : X + 1 < Y := by have := lt_at bM10; omega
        clear k3 bX10 bM10 hv10 K10
        go_upto_region 7 with (first | (refine list_wnew rfl wide_V _ _ rfl Y rfl (vc y) rfl _ rfl hY rfl (vc_one _) ?_))
        try rw [h3]
        clear h3 hY
        have c0 : w3.cell? ⟨Y, 0, none⟩ = some (.int .i64 y.n0) := cell_at bY3 rfl
        by_cases hcnt : M ≤ cntB y.n0
        · skip
          as_aux_lemma =>
          have HO2 : Hid (grOk f g i (M : Int) = true ∧ grT f g i (M : Int) = put3 (threeT f g i) i (grP y M) (grX x y M) (grM m M)) := by
            have e2 : grOk f g i (M : Int) = true := by
              rw [HO.out]
              refine decide_eq_true ?_
              omega
            refine ⟨e2, ?_⟩
            rw [HT.out, e2, if_pos rfl, Int.toNat_natCast]
          have hcI : (M : Int) ≤ (cntB y.n0 : Int) := by omega
          have HC : Hid (M ≤ cntB y.n0) := hcnt
          clear HO HT HM2 hcnt
          go_wp2_with fail
          refine (scount_w y.n0 _).mono ?_
          rintro e w11 ⟨rfl, hw⟩
          subst hw
          go_wp2_with fail
          refine (take_w y.n0 M HC.out _ (HSK.out.2 _ K3)).mono ?_
          rintro e w12 ⟨rfl, hk12⟩
          have bX12 := hk12.at bX3 (fun e => e)
          have bM12 := hk12.at bM3 (fun e => e)
          have bY12 := hk12.at bY3 (fun e => e)
          have hv12 := hv3.still hk12
          have K12 := K3.trans hk12 (fun _ _ e => e.elim)
          clear hv3 K3 bX3 bM3 bY3 hk12 c0 hcI
          obtain ⟨a, ha⟩ : ∃ a, clrAll y.n0 (picks y.n0 64 M) = a := ⟨_, rfl⟩
          obtain ⟨hd, hhd⟩ : ∃ hd, bs (bytesN (picks y.n0 64 M)) = hd := ⟨_, rfl⟩
          rw [ha, hhd]
          have lhd : hd.size ≤ 6 := by rw [← hhd, bs_size]; unfold bytesN; rw [List.length_map, picks_len]; omega
          have HE : Hid (grP y M = withN y a ∧ grX x y M = withS x (x.s ++ hd)) := by
            refine ⟨by unfold grP; rw [ha], ?_⟩
            unfold grX
            congr 1
            apply bl_inj
            rw [bl_bs, bl_app, ← hhd, bl_bs]
          clear ha hhd
          have c0 : w12.cell? ⟨Y, 0, none⟩ = some (.int .i64 y.n0) := cell_at bY12 rfl
          have f0 := free_at bY12 0
          have gY : (w12.setCell ⟨Y, 0, none⟩ (.int .i64 a)).heap[Y]? = some (.cells (vc (withN y a)).toArray 51 (0, 0)) := by rw [set_at bY12]; rfl
          have kY : Kept (fun b => b = Y) w12 (w12.setCell ⟨Y, 0, none⟩ (.int .i64 a)) := by refine Kept.setCell (Kept.refl _ _) ?_ _; intro _; rfl
          go_upto_region 11 with fail
          generalize w12.setCell ⟨Y, 0, none⟩ (.int .i64 a) = w13 at *
          clear c0 f0
          have bX13 := kY.at bX12 (by show ¬ X = Y; omega)
          have bM13 := kY.at bM12 (by show ¬ X + 1 = Y; omega)
          have hv13 := hv12.kept kY (by omega) (by omega)
          have K13 : Kept (fun n => n = N) w w13 := K12.trans kY (fun b h1 h2 => by omega)
          clear bX12 bM12 bY12 hv12 K12 kY
          have cX : w13.cell? ⟨X, 16, none⟩ = some (.string x.s) := cell_at bX13 rfl
          have fX := free_at bX13 16
          have gX : (w13.setCell ⟨X, 16, none⟩ (.string (x.s ++ hd))).heap[X]? = some (.cells (vc (withS x (x.s ++ hd))).toArray 51 (0, 0)) := by rw [set_at bX13]; rfl
          have kX : Kept (fun b => b = X) w13 (w13.setCell ⟨X, 16, none⟩ (.string (x.s ++ hd))) := by refine Kept.setCell (Kept.refl _ _) ?_ _; intro _; rfl
          have hle : x.s.size + hd.size ≤ 9223372036854775807 := by omega
          have hle2 : ¬ 9223372036854775807 < x.s.size + hd.size := by omega
          go_upto_region 12 with fail
          generalize w13.setCell ⟨X, 16, none⟩ (.string (x.s ++ hd)) = w14 at *
          clear cX fX hle hle2
          have gM13 := kX.at bM13 (by show ¬ X + 1 = X; omega)
          have gY := kX.at gY (by show ¬ Y = X; omega)
          have hv14 := hv13.kept kX (by omega) (by omega)
          have K14 : Kept (fun n => n = N) w w14 := K13.trans kX (fun b h1 h2 => by omega)
          clear bX13 bM13 hv13 K13 kX
          obtain ⟨sz, hsz⟩ : ∃ sz, bs (List.replicate (16 * M) 0) = sz := ⟨_, rfl⟩
          have lsz : sz.size ≤ 96 := by rw [← hsz, bs_size, List.length_replicate]; omega
          have HE2 : Hid (grM m M = withS m (m.s ++ sz)) := by
            show _ = _
            unfold grM
            congr 1
            apply bl_inj
            rw [bl_bs, bl_app, ← hsz, bl_bs]
          have hrp := fun w' => srepeat_w (16 * M) (by omega) w'
          rw [hsz] at hrp
          obtain ⟨K, hK⟩ : ∃ K : Nat, 16 * M = K := ⟨_, rfl⟩
          rw [hK] at hrp
          have hmul : wrap64 ((M : Int) * 16) = (K : Int) := by unfold wrap64; omega
          have hmul2 : (M : Int) * 16 = (K : Int) := by omega
          have hmul3 : IntKind.i64.wrap (K : Int) = (K : Int) := by rw [IntKind.wrap_i64]; omega
          have HW : Hid (ViewIn q N p (threeT f g i) w14 ∧ Kept (fun n => n = N) w w14 ∧ w14.heap[X]? = some (.cells (vc (withS x (x.s ++ hd))).toArray 51 (0, 0)) ∧ w14.heap[Y]? = some (.cells (vc (withN y a)).toArray 51 (0, 0)) ∧ hd.size ≤ 6) := ⟨hv14, K14, gX, gY, lhd⟩
          clear hsz hK hv14 K14 gX gY lhd
          go_cut [8] from 59 to 65 (fun v wx => v = .pointer (some ⟨X + 1, 0, none⟩) ∧ Hid (Kept (fun b => b = X + 1) w14 wx ∧ wx.heap[X + 1]? = some (.cells (vc (withS m (m.s ++ sz))).toArray 51 (0, 0))))
          case first =>
            as_aux_lemma =>
            have cM : w14.cell? ⟨X + 1, 16, none⟩ = some (.string m.s) := cell_at gM13 rfl
            have hle : m.s.size + sz.size ≤ 9223372036854775807 := by omega
            have hle2 : ¬ 9223372036854775807 < m.s.size + sz.size := by omega
            have HG : Hid (w14.heap[X + 1]? = some (.cells (vc m).toArray 51 (0, 0))) := gM13
            clear gM13 lsz HE2 HE HO2 HC HSK HS lX hroom hN6 lXw hv10 lXY hv5 hsx hsm hpN hN hq t0 hn HW gY
            go_region_with (refine (hrp _).mono ?_; rintro e w4 ⟨rfl, hk4⟩; have hk5 : Kept (fun _ => False) w14 w4 := (Kept.refl _ w14).drew.thru hk4; have cM4 : w4.cell? ⟨X + 1, 16, none⟩ = some (.string m.s) := hk5.cell cM (fun x => x); have fM4 := free_at (hk5.at HG.out (fun e => e)) 16)
            all_goals
              go_wp2
              go_meet
              case rel =>
                refine And.intro rfl (And.intro (by refine Kept.setCell (hk5.mono (fun _ _ e => e.elim)) ?_ _; intro _; rfl) ?_)
                show (World.setCell _ _ _).heap[X + 1]? = _
                rw [set_at (hk5.at HG.out (fun e => e))]; rfl
          case rest =>
            obtain ⟨rfl, HC⟩ := hcut
            as_aux_lemma =>
            have gM := HC.out.2
            have gX := HC.out.1.at HW.out.2.2.1 (by show ¬ X = X + 1; omega)
            have gY := HC.out.1.at HW.out.2.2.2.1 (by show ¬ Y = X + 1; omega)
            have hvw := HW.out.1.kept HC.out.1 (by omega) (by omega)
            have hKw : Kept (fun n => n = N) w wc := HW.out.2.1.trans HC.out.1 (fun b h1 h2 => by omega)
            rw [← HE.out.2] at gX
            rw [← HE.out.1] at gY
            rw [← HE2.out] at gM
            have nX : ¬ X = N := by omega
            have nM : ¬ X + 1 = N := by omega
            have nY : ¬ Y = N := by omega
            clear HC HW HE HE2 hrp hmul hmul2 hmul3 gM13
            generalize grP y M = y2 at *
            generalize grX x y M = x2 at *
            generalize grM m M = m2 at *
            generalize wc = wd at *
            go_wp2_with fail
            have KS : ∀ w', Kept (fun n => n = N) wd w' → True := fun _ _ => trivial
            have KV : ∀ w', Kept (fun n => n = N) wd w' → w'.rangeAt Y 0 (vc y2) := fun w' hk' => range_kept (whole_range gY) hk' nY
            refine wp_region_held_drew (S := fun w' => Kept (fun n => n = N) wd w') (by kernel_rfl) ((Kept.refl _ _).drew) (fun hHeld => ?_)
            refine h_take 0 (some 66) (Op.move (Operand.tmp 0)) 25 ?v1 rfl rfl (by kernel_rfl) (by kernel_rfl) (by kernel_rfl) (fun _ _ _ h => h) ?hy1 hHeld ?_
            case hy1 => (intro _ _ _ w hSw; have hcs := KS _ hSw; go_simp; try with_reducible rfl)
            simp only [Act.put, List.setIfInBounds_toArray, List.set_cons_zero, List.set_cons_succ]
            refine h_take 2 (some 68) (Op.load 51 (Operand.tmp 9)) 51 (vv y2) rfl rfl (by kernel_rfl) (by kernel_rfl) (by kernel_rfl) (fun _ _ _ h => h) (fun _ _ _ w hSw => exec_load rfl (load_wide wide_V (KV w hSw) rfl)) hHeld ?_
            simp only [Act.put, List.setIfInBounds_toArray, List.set_cons_zero, List.set_cons_succ]
            refine h_step 1 (some 67) (Op.call { callee := Callee.value (Operand.func 30), args := #[], argTypes := #[] }) 54 rfl rfl (by kernel_rfl) (fun _ _ _ K hK => ?_)
            go_simp
            refine (spool_w _).mono ?_
            rintro e wea ⟨rfl, hka⟩
            replace hka : Kept (fun _ => False) wd wea := (Kept.refl _ wd).drew.thru hka
            go_wp2_with fail
            refine hK.out _ _ (hka.mono (fun _ _ e => e.elim)) (fun hHeld => ?_)
            clear hK K
            try simp only [Act.put, List.setIfInBounds_toArray, List.set_cons_zero, List.set_cons_succ]
            refine h_step 3 (some 69) (Op.call { callee := Callee.value (Operand.func 25), args := #[Operand.tmp 66, Operand.tmp 67, Operand.tmp 68], argTypes := #[25, 54, 51] }) 0 rfl rfl (by kernel_rfl) (fun _ _ _ K hK => ?_)
            go_simp
            refine (vput_w q N p (threeT f g i) 2 0 y2 wea (hvw.still hka)).mono ?_
            rintro e we ⟨rfl, hvo, hko⟩
            replace hko : Kept (fun n => n = N) wd we := (hka.mono (fun _ _ e => e.elim)).trans hko (fun _ _ e => e)
            go_wp2_with fail
            refine hK.out _ _ (hko) (fun hHeld => ?_)
            clear hK K
            try simp only [Act.put, List.setIfInBounds_toArray, List.set_cons_zero, List.set_cons_succ]
            refine wpAnyH_done (by kernel_rfl) ?_ _
            clear hHeld KS KV hka hvw
            have hvw := hvo
            have hKw := hKw.trans hko (fun _ _ e => e)
            have gX := hko.at gX nX
            have gM := hko.at gM nM
            clear hvo hko gY
            go_wp2_with fail
            have KS : ∀ w', Kept (fun n => n = N) we w' → True := fun _ _ => trivial
            have KV : ∀ w', Kept (fun n => n = N) we w' → w'.rangeAt X 0 (vc x2) := fun w' hk' => range_kept (whole_range gX) hk' nX
            refine wp_region_held_drew (S := fun w' => Kept (fun n => n = N) we w') (by kernel_rfl) ((Kept.refl _ _).drew) (fun hHeld => ?_)
            refine h_take 0 (some 70) (Op.move (Operand.tmp 0)) 25 ?v2 rfl rfl (by kernel_rfl) (by kernel_rfl) (by kernel_rfl) (fun _ _ _ h => h) ?hy2 hHeld ?_
            case hy2 => (intro _ _ _ w hSw; have hcs := KS _ hSw; go_simp; try with_reducible rfl)
            simp only [Act.put, List.setIfInBounds_toArray, List.set_cons_zero, List.set_cons_succ]
            refine h_take 1 (some 71) (Op.move (Operand.tmp 1)) 3 ?v3 rfl rfl (by kernel_rfl) (by kernel_rfl) (by kernel_rfl) (fun _ _ _ h => h) ?hy3 hHeld ?_
            case hy3 => (intro _ _ _ w hSw; have hcs := KS _ hSw; go_simp; try with_reducible rfl)
            simp only [Act.put, List.setIfInBounds_toArray, List.set_cons_zero, List.set_cons_succ]
            refine h_take 3 (some 73) (Op.load 51 (Operand.tmp 7)) 51 (vv x2) rfl rfl (by kernel_rfl) (by kernel_rfl) (by kernel_rfl) (fun _ _ _ h => h) (fun _ _ _ w hSw => exec_load rfl (load_wide wide_V (KV w hSw) rfl)) hHeld ?_
            simp only [Act.put, List.setIfInBounds_toArray, List.set_cons_zero, List.set_cons_succ]
            refine h_step 2 (some 72) (Op.call { callee := Callee.value (Operand.func 28), args := #[Operand.tmp 71], argTypes := #[3] }) 54 rfl rfl (by kernel_rfl) (fun _ _ _ K hK => ?_)
            go_simp
            refine (spkey_w i _).mono ?_
            rintro e wfa ⟨rfl, hka⟩
            replace hka : Kept (fun _ => False) we wfa := (Kept.refl _ we).drew.thru hka
            go_wp2_with fail
            refine hK.out _ _ (hka.mono (fun _ _ e => e.elim)) (fun hHeld => ?_)
            clear hK K
            try simp only [Act.put, List.setIfInBounds_toArray, List.set_cons_zero, List.set_cons_succ]
            refine h_step 4 (some 74) (Op.call { callee := Callee.value (Operand.func 25), args := #[Operand.tmp 70, Operand.tmp 72, Operand.tmp 73], argTypes := #[25, 54, 51] }) 0 rfl rfl (by kernel_rfl) (fun _ _ _ K hK => ?_)
            go_simp
            refine (vput_w q N p _ 4 i x2 wfa (hvw.still hka)).mono ?_
            rintro e wf ⟨rfl, hvo, hko⟩
            replace hko : Kept (fun n => n = N) we wf := (hka.mono (fun _ _ e => e.elim)).trans hko (fun _ _ e => e)
            go_wp2_with fail
            refine hK.out _ _ (hko) (fun hHeld => ?_)
            clear hK K
            try simp only [Act.put, List.setIfInBounds_toArray, List.set_cons_zero, List.set_cons_succ]
            refine wpAnyH_done (by kernel_rfl) ?_ _
            clear hHeld KS KV hka hvw
            have hvw := hvo
            have hKw := hKw.trans hko (fun _ _ e => e)
            have gM := hko.at gM nM
            clear hvo hko gX
            go_wp2_with fail
            have KS : ∀ w', Kept (fun n => n = N) wf w' → True := fun _ _ => trivial
            have KV : ∀ w', Kept (fun n => n = N) wf w' → w'.rangeAt (X + 1) 0 (vc m2) := fun w' hk' => range_kept (whole_range gM) hk' nM
            refine wp_region_held_drew (S := fun w' => Kept (fun n => n = N) wf w') (by kernel_rfl) ((Kept.refl _ _).drew) (fun hHeld => ?_)
            refine h_take 0 (some 75) (Op.move (Operand.tmp 0)) 25 ?v4 rfl rfl (by kernel_rfl) (by kernel_rfl) (by kernel_rfl) (fun _ _ _ h => h) ?hy4 hHeld ?_
            case hy4 => (intro _ _ _ w hSw; have hcs := KS _ hSw; go_simp; try with_reducible rfl)
            simp only [Act.put, List.setIfInBounds_toArray, List.set_cons_zero, List.set_cons_succ]
            refine h_take 1 (some 76) (Op.move (Operand.tmp 1)) 3 ?v5 rfl rfl (by kernel_rfl) (by kernel_rfl) (by kernel_rfl) (fun _ _ _ h => h) ?hy5 hHeld ?_
            case hy5 => (intro _ _ _ w hSw; have hcs := KS _ hSw; go_simp; try with_reducible rfl)
            simp only [Act.put, List.setIfInBounds_toArray, List.set_cons_zero, List.set_cons_succ]
            refine h_take 3 (some 78) (Op.load 51 (Operand.tmp 8)) 51 (vv m2) rfl rfl (by kernel_rfl) (by kernel_rfl) (by kernel_rfl) (fun _ _ _ h => h) (fun _ _ _ w hSw => exec_load rfl (load_wide wide_V (KV w hSw) rfl)) hHeld ?_
            simp only [Act.put, List.setIfInBounds_toArray, List.set_cons_zero, List.set_cons_succ]
            refine h_step 2 (some 77) (Op.call { callee := Callee.value (Operand.func 29), args := #[Operand.tmp 76], argTypes := #[3] }) 54 rfl rfl (by kernel_rfl) (fun _ _ _ K hK => ?_)
            go_simp
            refine (smkey_w i _).mono ?_
            rintro e wga ⟨rfl, hka⟩
            replace hka : Kept (fun _ => False) wf wga := (Kept.refl _ wf).drew.thru hka
            go_wp2_with fail
            refine hK.out _ _ (hka.mono (fun _ _ e => e.elim)) (fun hHeld => ?_)
            clear hK K
            try simp only [Act.put, List.setIfInBounds_toArray, List.set_cons_zero, List.set_cons_succ]
            refine h_step 4 (some 79) (Op.call { callee := Callee.value (Operand.func 25), args := #[Operand.tmp 75, Operand.tmp 77, Operand.tmp 78], argTypes := #[25, 54, 51] }) 0 rfl rfl (by kernel_rfl) (fun _ _ _ K hK => ?_)
            go_simp
            refine (vput_w q N p _ 12 i m2 wga (hvw.still hka)).mono ?_
            rintro e wg ⟨rfl, hvo, hko⟩
            replace hko : Kept (fun n => n = N) wf wg := (hka.mono (fun _ _ e => e.elim)).trans hko (fun _ _ e => e)
            go_wp2_with fail
            refine hK.out _ _ (hko) (fun hHeld => ?_)
            clear hK K
            try simp only [Act.put, List.setIfInBounds_toArray, List.set_cons_zero, List.set_cons_succ]
            refine wpAnyH_done (by kernel_rfl) ?_ _
            clear hHeld KS KV hka hvw
            have hvw := hvo
            have hKw := hKw.trans hko (fun _ _ e => e)
            have HZ : Hid (ViewIn q N p (grT f g i (M : Int)) wg ∧ Kept (fun n => n = N) w wg) := ⟨by rw [HO2.out.2]; exact hvw, hKw⟩
            have HO3 : Hid (grOk f g i (M : Int) = true) := HO2.out.1
            clear hvo hko gM hvw hKw HO2
            go_wp2
            exact bodyPost_ret (v := .bool true) (by simp [results, Tryd.results9, go_sem]) rfl ⟨by rw [HO3.out], HZ.out.1, HZ.out.2⟩
        · have HO2 : Hid (grOk f g i (M : Int) = false ∧ grT f g i (M : Int) = threeT f g i) := by
            have e2 : grOk f g i (M : Int) = false := by
              rw [HO.out]
              refine decide_eq_false ?_
              omega
            exact ⟨e2, by rw [HT.out, e2, HM2.out]; rfl⟩
          have hcI : ¬ (M : Int) ≤ (cntB y.n0 : Int) := by omega
          have HZ : Hid (ViewIn q N p (threeT f g i) w3 ∧ Kept (fun n => n = N) w w3) := ⟨hv3, K3⟩
          clear hv3 K3 bX3 bM3 bY3 HO HT HM2 hcnt
          go_wp2_with fail
          refine (scount_w y.n0 _).mono ?_
          rintro e w11 ⟨rfl, hw⟩
          subst hw
          go_wp2_with fail
          exact bodyPost_ret (v := .bool false) (by simp [results, Tryd.results9, go_sem]) rfl ⟨by rw [HO2.out.1], by rw [HO2.out.2]; exact HZ.out.1, HZ.out.2⟩
      · skip
        as_aux_lemma =>
        have HO : Hid (grOk f g i n = false ∧ grT f g i n = twoT f g i) := by
          have e1 : grMay f g i n = false := by rw [HM.out]; exact decide_eq_false hroom
          have e2 : grOk f g i n = false := by unfold grOk; rw [e1]; rfl
          exact ⟨e2, by rw [HT.out, e2, e1]; rfl⟩
        have HZ : Hid (ViewIn q N p (twoT f g i) w8 ∧ Kept (fun n => n = N) w w8) := ⟨hv8, K8⟩
        clear HM HT hv8 K8 bX8 bM8
        go_wp2_with fail
        exact bodyPost_ret (v := .bool false) (by simp [results, Tryd.results9, go_sem]) rfl ⟨by rw [HO.out.1], by rw [HO.out.2]; exact HZ.out.1, HZ.out.2⟩
    · have HS : spIn f g i n = false := by unfold spIn; rw [decide_eq_false hn]; simp
      have HM : grMay f g i n = false := by unfold grMay; rw [HS]; rfl
      have HO : grOk f g i n = false := by unfold grOk; rw [HM]; rfl
      have HA : Hid (grOk f g i n = false ∧ grT f g i n = stT f g i) := ⟨HO, by unfold grT; rw [HO, HM, HS]; rfl⟩
      clear hR HS HM HO hsx hsm
      go_enter Tryd.func9, Tryd.ntmps9
      go_wp2_with fail
      refine (state_w q N p B f g i w h hs hNB).mono ?_
      rintro e w1 ⟨rfl, hv1, hk1⟩
      have HZ : Hid (ViewIn q N p (stT f g i) w1 ∧ Kept (fun n => n = N) w w1) := ⟨hv1, hk1⟩
      clear h hs hv1 hk1
      go_wp2_with fail
      exact bodyPost_ret (v := .bool false) (by simp [results, Tryd.results9, go_sem]) rfl ⟨by rw [HA.out.1], by rw [HA.out.2]; exact HZ.out.1, HZ.out.2⟩
end Go.Proofs.YtbhpkjedkccdpaaDoor
