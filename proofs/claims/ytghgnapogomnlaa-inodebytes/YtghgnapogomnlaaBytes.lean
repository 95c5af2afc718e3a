/- A file is what was written into it; parts that are read are its parts; nothing stands behind MaxFile; no conditions. -/
import Derived.Test.YtghgnapogomnlaaBytesF
import Derived.Deep.CutBlock
namespace Go.Proofs.Ytghgnapogomnlaa
open Go.RowKit
set_option maxRecDepth 100000
set_option linter.unusedSimpArgs false

set_option maxHeartbeats 4000000 in
theorem bytes_law (ao : Option Addr) (len cap lb off : Nat) (Q : Nat → Q5) (hao : 0 < len → ao = some ⟨lb, off, none⟩) (of n : Int) (w : World) (hc : ∀ i, i < len → QAt w lb (off + i * 5) (Q i)) :
    Calls Try.prog 5 #[.slice ao len cap, .int .i64 of, .int .i64 n] w fun e w' => e = .returned (.bool true) ∧ Kept (fun _ => False) w w' := by
  have HC : Hid (∀ i, i < len → QAt w lb (off + i * 5) (Q i)) := hc
  clear hc
  go_enter Try.func5, Try.ntmps5
  go_wp2_with fail
  refine (side_new w).mono ?_
  rintro e w1 ⟨T, p, B, q, N, rfl, h1, hT⟩
  have c1 := h1.t
  go_wp2_with fail
  refine (side_alloc h1 2).mono ?_
  rintro e w2 ⟨rfl, h2, -⟩
  rw [show allocV (allocA f0 g0) = .tuple #[.int .i64 1, .bool true] from by rw [show allocA f0 g0 = 1 from aT_at (k := 0) (by decide)]; rfl]
  replace h2 : SideIn w T p B q N (aT 1) w2 := h2
  clear c1 h1
  have c1 := h2.t
  go_wp2_with fail
  refine (side_alloc h2 2).mono ?_
  rintro e w3 ⟨rfl, h3, -⟩
  rw [show allocV (allocA f0 (aT 1)) = .tuple #[.int .i64 2, .bool true] from by rw [aT_at (k := 1) (by decide)]; rfl]
  replace h3 : SideIn w T p B q N (aT 2) w3 := h3
  clear c1 h2
  have c1 := h3.t
  go_wp2_with fail
  refine (side_write h3 2 0 other (aT_size (by omega) 2)).mono ?_
  rintro e w4 ⟨rfl, h4, -⟩
  rw [b3_ans]
  have H0 : Hid (SideIn w T p B q N b3 w4 ∧ ByF b3 ByteArray.empty) := ⟨h4, by_new⟩
  clear c1 h3 h4
  go_upto_block 0 with fail
  go_cut [12, 13, 14, 15, 16] from 59 to 145 (fun v _ _ _ _ wx => ∃ (own : ByteArray) (g : VwF), v = .string own ∧ Hid (SideIn w T p B q N g wx ∧ ByF g own))
  case first =>
    as_aux_lemma =>
    go_wp2_with fail
    go_loopw [12, 13, 14, 15, 16] (fun v k _ _ _ wr => ∃ (r : Nat) (own : ByteArray) (g : VwF), v = .string own ∧ k = .int .i64 r ∧ r ≤ len ∧ r ≤ 15 ∧ Hid (SideIn w T p B q N g wr ∧ ByF g own)) (fun _ k _ _ _ _ => 15 - (intOf k).toNat)
    case atStart => exact ⟨0, _, _, rfl, rfl, by omega, by omega, H0.out⟩
    case round =>
      obtain ⟨r, own, g, rfl, rfl, hr1, hr2, HH⟩ := hrel
      clear H0
      by_cases hlt : r < len ∧ r < 15
      · obtain ⟨hl1, hl2⟩ := hlt
        have t1 : (r : Int) < (len : Int) := by omega
        have t2 : (r : Int) < 15 := by omega
        have h0 := hao (by omega)
        subst h0
        have hq0 := HC.out r hl1
        have hlb : lb < w.heap.size := World.block_lt_of_cell? w _ hq0.1
        obtain ⟨⟨qk, qi, qa, qb, qd⟩, hqe⟩ : ∃ y, Q r = y := ⟨_, rfl⟩
        rw [hqe] at hq0
        obtain ⟨e0, e1, e2, e3, e4⟩ := hq0.still HH.out.1.kept
        simp only at e0 e1 e2 e3 e4
        have hos := HH.out.2.size
        have W1 := within_any qa 0 ((own.size : Int) + 3) (by omega) (by omega) (by omega) wr
        obtain ⟨o, hz⟩ : ∃ o : Nat, (0 : Int) + qa % ((own.size : Int) + 3 - 0 + 1) = o := ⟨((0 : Int) + qa % ((own.size : Int) + 3 - 0 + 1)).toNat, by have := Int.emod_nonneg qa (b := (own.size : Int) + 3 - 0 + 1) (by omega); omega⟩
        rw [hz] at W1
        clear hz hqe hq0
        go_wp2_with fail
        refine W1.mono ?_
        rintro e w2 ⟨rfl, hw2⟩
        have hw2' := hw2.symm
        subst hw2'
        clear W1
        go_wp2_with fail
        have hs := HH.out.1
        have KS : ∀ w', Kept (fun _ => False) wr w' → (w'.cell? ⟨lb, off + r * 5 + 3, none⟩ = some (.int .i64 qb) ∧ w'.cell? ⟨lb, off + r * 5 + 4, none⟩ = some (.int .i64 qd)) :=
          fun w' hk' => ⟨hk'.cell e3 (fun x => x), hk'.cell e4 (fun x => x)⟩
        obtain ⟨z, hz, hz1, hz2⟩ : ∃ z, (0 : Int) + qd % (50 - 0 + 1) = z ∧ 0 ≤ z ∧ z ≤ 50 := ⟨_, rfl, by omega, by omega⟩
        refine wp_region_held_drew (S := fun w' => Kept (fun _ => False) wr w') (by kernel_rfl) ((Kept.refl _ _).drew) (fun hHeld => ?_)
        refine h_take 0 (some 78) (Op.move (Operand.tmp 0)) 34 ?v1 rfl rfl (by kernel_rfl) (by kernel_rfl) (by kernel_rfl) (fun _ _ _ h => h) ?hy1 hHeld ?_
        case hy1 => (intro _ _ _ w hSw; have hcs := KS _ hSw; go_simp; try with_reducible rfl)
        simp only [Act.put, List.setIfInBounds_toArray, List.set_cons_zero, List.set_cons_succ]
        refine h_take 1 (some 79) (Op.move (Operand.tmp 13)) 3 ?v2 rfl rfl (by kernel_rfl) (by kernel_rfl) (by kernel_rfl) (fun _ _ _ h => h) ?hy2 hHeld ?_
        case hy2 => (intro _ _ _ w hSw; have hcs := KS _ hSw; go_simp; try with_reducible rfl)
        simp only [Act.put, List.setIfInBounds_toArray, List.set_cons_zero, List.set_cons_succ]
        refine h_take 2 (some 80) (Op.indexAddr 34 (Operand.tmp 78) (Operand.tmp 79)) 0 ?v3 rfl rfl (by kernel_rfl) (by kernel_rfl) (by kernel_rfl) (fun _ _ _ h => h) ?hy3 hHeld ?_
        case hy3 => (intro _ _ _ w hSw; have hcs := KS _ hSw; go_simp; try with_reducible rfl)
        simp only [Act.put, List.setIfInBounds_toArray, List.set_cons_zero, List.set_cons_succ]
        refine h_take 3 (some 81) (Op.fieldAddr 38 (Operand.tmp 80) 3) 0 ?v4 rfl rfl (by kernel_rfl) (by kernel_rfl) (by kernel_rfl) (fun _ _ _ h => h) ?hy4 hHeld ?_
        case hy4 => (intro _ _ _ w hSw; have hcs := KS _ hSw; go_simp; try with_reducible rfl)
        simp only [Act.put, List.setIfInBounds_toArray, List.set_cons_zero, List.set_cons_succ]
        refine h_take 4 (some 82) (Op.load 3 (Operand.tmp 81)) 3 ?v5 rfl rfl (by kernel_rfl) (by kernel_rfl) (by kernel_rfl) (fun _ _ _ h => h) ?hy5 hHeld ?_
        case hy5 => (intro _ _ _ w hSw; have hcs := KS _ hSw; go_simp; try with_reducible rfl)
        simp only [Act.put, List.setIfInBounds_toArray, List.set_cons_zero, List.set_cons_succ]
        refine h_take 5 (some 83) (Op.move (Operand.tmp 0)) 34 ?v6 rfl rfl (by kernel_rfl) (by kernel_rfl) (by kernel_rfl) (fun _ _ _ h => h) ?hy6 hHeld ?_
        case hy6 => (intro _ _ _ w hSw; have hcs := KS _ hSw; go_simp; try with_reducible rfl)
        simp only [Act.put, List.setIfInBounds_toArray, List.set_cons_zero, List.set_cons_succ]
        refine h_take 6 (some 84) (Op.move (Operand.tmp 13)) 3 ?v7 rfl rfl (by kernel_rfl) (by kernel_rfl) (by kernel_rfl) (fun _ _ _ h => h) ?hy7 hHeld ?_
        case hy7 => (intro _ _ _ w hSw; have hcs := KS _ hSw; go_simp; try with_reducible rfl)
        simp only [Act.put, List.setIfInBounds_toArray, List.set_cons_zero, List.set_cons_succ]
        refine h_take 7 (some 85) (Op.indexAddr 34 (Operand.tmp 83) (Operand.tmp 84)) 0 ?v8 rfl rfl (by kernel_rfl) (by kernel_rfl) (by kernel_rfl) (fun _ _ _ h => h) ?hy8 hHeld ?_
        case hy8 => (intro _ _ _ w hSw; have hcs := KS _ hSw; go_simp; try with_reducible rfl)
        simp only [Act.put, List.setIfInBounds_toArray, List.set_cons_zero, List.set_cons_succ]
        refine h_take 8 (some 86) (Op.fieldAddr 38 (Operand.tmp 85) 4) 0 ?v9 rfl rfl (by kernel_rfl) (by kernel_rfl) (by kernel_rfl) (fun _ _ _ h => h) ?hy9 hHeld ?_
        case hy9 => (intro _ _ _ w hSw; have hcs := KS _ hSw; go_simp; try with_reducible rfl)
        simp only [Act.put, List.setIfInBounds_toArray, List.set_cons_zero, List.set_cons_succ]
        refine h_take 9 (some 87) (Op.load 3 (Operand.tmp 86)) 3 ?v10 rfl rfl (by kernel_rfl) (by kernel_rfl) (by kernel_rfl) (fun _ _ _ h => h) ?hy10 hHeld ?_
        case hy10 => (intro _ _ _ w hSw; have hcs := KS _ hSw; go_simp; try with_reducible rfl)
        simp only [Act.put, List.setIfInBounds_toArray, List.set_cons_zero, List.set_cons_succ]
        refine h_step 10 (some 88) (Op.call { callee := Callee.value (Operand.func 20), args := #[Operand.tmp 87, Operand.const (Value.int IntKind.i64 0), Operand.const (Value.int IntKind.i64 50)], argTypes := #[3, 3, 3] }) 3 rfl rfl (by kernel_rfl) (fun _ _ _ K hK => ?_)
        go_simp
        refine (within_any qd 0 50 (by omega) (by omega) (by omega) _).mono ?_
        rintro e w3 ⟨rfl, hw3⟩
        subst hw3
        rw [hz]
        go_wp2_with fail
        refine hK.out _ _ ((Kept.refl _ wr).drew) (fun hHeld => ?_)
        clear hK K
        try simp only [Act.put, List.setIfInBounds_toArray, List.set_cons_zero, List.set_cons_succ]
        refine h_step 11 (some 89) (Op.call { callee := Callee.value (Operand.func 19), args := #[Operand.tmp 82, Operand.tmp 88], argTypes := #[3, 3] }) 9 rfl rfl (by kernel_rfl) (fun _ _ _ K hK => ?_)
        go_simp
        refine (text_w qb z hz1 (by omega) _).mono ?_
        rintro e w4 ⟨d, rfl, hd, hk4⟩
        replace hk4 : Kept (fun _ => False) wr w4 := (Kept.refl _ wr).drew.thru hk4
        go_wp2_with fail
        refine hK.out _ _ (hk4) (fun hHeld => ?_)
        clear hK K
        try simp only [Act.put, List.setIfInBounds_toArray, List.set_cons_zero, List.set_cons_succ]
        refine h_take 12 (some 15) (Op.assign (Operand.tmp 89)) 9 ?v11 rfl rfl (by kernel_rfl) (by kernel_rfl) (by kernel_rfl) (fun _ _ _ h => h) ?hy11 hHeld ?_
        case hy11 => (intro _ _ _ w hSw; have hcs := KS _ hSw; go_simp; try with_reducible rfl)
        simp only [Act.put, List.setIfInBounds_toArray, List.set_cons_zero, List.set_cons_succ]
        refine wpAnyH_done (by kernel_rfl) ?_ _
        have hs4 := hs.still hk4
        have hb := HH.out.2
        have HB : Hid (ByF g own) := hb
        have hds : d.size ≤ 50 := by omega
        clear hHeld KS hk4 hs HH e0 e1 e2 e3 e4 hz hz1 hz2 hd
        have c1 := hs4.t
        go_wp2_with fail
        refine (side_write hs4 1 o d (by rw [HB.out.one]; exact Nat.le_trans HB.out.size (by decide))).mono ?_
        rintro e w5 ⟨rfl, h5, -⟩
        clear c1 hs4 hb
        as_aux_lemma =>
        by_cases hgt : own.size < o
        · rw [(HB.out.no d hgt).2]
          rw [(HB.out.no d hgt).1] at h5
          have t3 : (own.size : Int) < (o : Int) := by omega
          have HN : Hid (SideIn w T p B q N (findT g 1) w5 ∧ ByF (findT g 1) own) := ⟨h5, HB.out.find 1⟩
          clear h5 HB
          go_wp2
          go_roundw
          case rel => exact ⟨r + 1, _, _, rfl, by go_num, by omega, by omega, HN.out⟩
          case measure => simp [intOf]; omega
        · have ho : o ≤ own.size := by omega
          have t3 : ¬ (own.size : Int) < (o : Int) := by omega
          have hf5 := HB.out.write d ho
          rw [HB.out.ans d ho]
          obtain ⟨t, ht⟩ : ∃ t, cutD d o = t := ⟨_, rfl⟩
          have hts : t.size = min (128 - o) d.size := by rw [← ht, cutD_size]
          have HX : Hid (∀ m : Nat, m = min (128 - o) d.size → d.extract 0 m = t) := fun m hm => by rw [cutD_ext hm, ht]
          rw [ht] at hf5 ⊢
          have HF : Hid (SideIn w T p B q N (writeT f0 g 1 o d) w5 ∧ ByF (writeT f0 g 1 o d) (overF own o t)) := ⟨h5, hf5⟩
          have HTS : Hid (t.size = min (128 - o) d.size) := hts
          have b2 : (o : Int) ≤ 128 := by omega
          have b3 : (o : Int) ≤ own.size := by omega
          clear ht hf5 h5 hgt hts
          go_upto_region 18 with fail
          go_cut [15] from 98 to 110 (fun v wx => v = .string t ∧ wx = w5)
          case first =>
            by_cases hm : (128 : Int) - o < d.size
            · have e1 := HX.out (128 - o) (by omega)
              have e2 : ((128 : Int) - (o : Int)).toNat = 128 - o := by omega
              go_wp2
              go_meet
              case rel => exact ⟨rfl, rfl⟩
            · have e1 := HX.out d.size (by omega)
              go_wp2
              go_meet
              case rel => exact ⟨rfl, rfl⟩
          case rest =>
            obtain ⟨rfl, hwc⟩ := hcut
            subst hwc
            have hts2 : t.size ≤ 128 := by have := HTS.out; omega
            clear HX HTS
            obtain ⟨m, hm⟩ : ∃ m : Nat, m = min own.size (o + t.size) := ⟨_, rfl⟩
            have hmin : (if (o : Int) + (t.size : Int) < (own.size : Int) then (o : Int) + (t.size : Int) else (own.size : Int)) = m := by split <;> omega
            have m1 : (m : Int) ≤ own.size := by omega
            have hsum := over_ext (s := own) (t := t) (o := o) hm
            obtain ⟨y, hy⟩ : ∃ y, overF own o t = y := ⟨_, rfl⟩
            have HY : Hid (own.size ≤ 128 ∧ overF own o t = y) := ⟨hos, hy⟩
            rw [hy] at hsum HF
            clear hm hy
            have sz1 : (own.extract 0 o).size ≤ 100000 := by rw [← bl_len, bl_extract]; simp [bl_len]; omega
            have sz2 : (own.extract 0 o ++ t).size ≤ 100200 := by rw [← bl_len, bl_app, List.length_append, bl_len, bl_len]; omega
            have sz3 : (own.extract m own.size).size ≤ 100000 := by rw [← bl_len, bl_extract]; simp [bl_len]; omega
            have sz4 : (own.extract 0 o ++ t ++ own.extract m own.size).size ≤ 300000 := by rw [← bl_len, bl_app, List.length_append, bl_len, bl_len]; omega
            go_upto_region 19 with fail
            go_cut [12] from 98 to 125 (fun v wx => v = .string y ∧ wx = wc.drew)
            case first =>
              go_region
              all_goals
                go_wp2
                go_meet
                case rel => exact ⟨rfl, rfl⟩
            case rest =>
              obtain ⟨rfl, hwd⟩ := hcut
              subst hwd
              have hS := HF.out.1.still (Kept.refl _ wc).drew
              have hB := HF.out.2
              have HY2 : Hid (ByF (writeT f0 g 1 o d) y) := hB
              have hys : ¬ (128 : Int) < y.size := by have := hB.size; omega
              clear hmin hsum sz1 sz2 sz3 sz4 HF hB HB HY hos b2 b3 t3 hds hts2 m1
              generalize wc.drew = wd at *
              have c1 := hS.t
              go_wp2_with fail
              refine (side_size hS 1).mono ?_
              rintro e w6 ⟨rfl, h6, -⟩
              rw [HY2.out.one, show (withS (numV 2) y).s = y from rfl]
              have HN : Hid (SideIn w T p B q N (findT (writeT f0 g 1 o d) 1) w6 ∧ ByF (findT (writeT f0 g 1 o d) 1) y) := ⟨h6, HY2.out.find 1⟩
              clear hS c1 h6 HY2
              go_wp2
              go_roundw
              case rel => exact ⟨r + 1, _, _, rfl, by go_num, by omega, by omega, HN.out⟩
              case measure => simp [intOf]; omega
      · by_cases t1 : (r : Int) < (len : Int)
        · have t2 : ¬ (r : Int) < 15 := by omega
          clear hlt
          go_wp2
          go_meet
          case rel => exact ⟨_, _, rfl, HH.out⟩
        · clear hlt
          go_wp2
          go_meet
          case rel => exact ⟨_, _, rfl, HH.out⟩
  case rest =>
    as_aux_lemma =>
    obtain ⟨own, g, rfl, HH⟩ := hcut
    have hos := HH.out.2.size
    obtain ⟨a, ha, ha2⟩ : ∃ a : Nat, (0 : Int) + of % (133 - 0 + 1) = a ∧ a ≤ 133 := ⟨((0 : Int) + of % (133 - 0 + 1)).toNat, by omega, by omega⟩
    obtain ⟨m, hm, hm2⟩ : ∃ m : Nat, (0 : Int) + n % (60 - 0 + 1) = m ∧ m ≤ 60 := ⟨((0 : Int) + n % (60 - 0 + 1)).toNat, by omega, by omega⟩
    have W1 := within_any of 0 133 (by omega) (by omega) (by omega) wc
    have W2 := within_any n 0 60 (by omega) (by omega) (by omega) wc
    rw [ha] at W1
    rw [hm] at W2
    clear ha hm
    go_wp2_with fail
    refine W1.mono ?_
    rintro e w2 ⟨rfl, hw2⟩
    have hw2' := hw2.symm
    subst hw2'
    clear W1
    go_wp2_with fail
    refine W2.mono ?_
    rintro e w3 ⟨rfl, hw3⟩
    have hw3' := hw3.symm
    subst hw3'
    clear W2
    go_upto_if 153 with fail
    go_cut [19] from 150 to 162 (fun v wx => v = .string (partF own a m) ∧ wx = wc)
    case first =>
      by_cases hlt : a < own.size
      · have t1 : (a : Int) < own.size := by omega
        by_cases hmx : (a : Int) + m < own.size
        · have e1 := part_want (m := m) hlt (e := a + m) (by omega)
          have t2 : (a : Int) + m ≤ own.size := by omega
          have t3 : ((a : Int) + m).toNat = a + m := by omega
          have HE : Hid _ := e1
          clear e1
          go_wp2
          go_meet
          case rel => exact ⟨by rw [← HE.out], rfl⟩
        · have e1 := part_want (m := m) hlt (e := own.size) (by omega)
          have HE : Hid _ := e1
          clear e1
          go_wp2
          go_meet
          case rel => exact ⟨by rw [← HE.out], rfl⟩
      · have t1 : ¬ (a : Int) < own.size := by omega
        have HE : Hid (partF own a m = ByteArray.empty) := part_no (.inr (.inl (by omega)))
        go_wp2
        go_meet
        case rel => exact ⟨by rw [HE.out]; rfl, rfl⟩
    case rest =>
      obtain ⟨rfl, hwd⟩ := hcut
      subst hwd
      have c1 := HH.out.1.t
      go_wp2_with fail
      refine (side_read HH.out.1 1 a m (by rw [HH.out.2.one]; exact Nat.le_trans HH.out.2.size (by decide))).mono ?_
      rintro e w3 ⟨rfl, h3, -⟩
      have hb := HH.out.2.find 1
      rw [HH.out.2.one, show (withS (numV 2) own).s = own from rfl]
      clear HH c1
      have HB : Hid (ByF (findT g 1) own) := hb
      clear hb
      generalize partF own a m = z at *
      have c1 := h3.t
      go_wp2_with fail
      refine (side_read h3 1 0 128 (by rw [HB.out.one]; exact Nat.le_trans HB.out.size (by decide))).mono ?_
      rintro e w4 ⟨rfl, h4, -⟩
      rw [HB.out.one, show (withS (numV 2) own).s = own from rfl, part_all (by omega) (by omega)]
      have HB2 : Hid (ByF (findT (findT g 1) 1) own) := HB.out.find 1
      clear HB c1 h3
      have c1 := h4.t
      go_wp2_with fail
      refine (side_read h4 2 0 99 (by rw [HB2.out.two]; decide)).mono ?_
      rintro e w5 ⟨rfl, h5, -⟩
      rw [HB2.out.two, other_read]
      have HS : Hid (Kept (fun _ => False) w w5) := h5.kept
      clear HB2 c1 h4 h5
      have hl := other_list
      go_wp2_with fail
      refine (runs_w w5).mono ?_
      rintro e w6 ⟨rfl, hk6⟩
      have HK : Hid (Kept (fun _ => False) w w6) := HS.out.thru hk6
      clear HS hk6
      go_wp2
      go_ret
      exact ⟨rfl, HK.out⟩
end Go.Proofs.Ytghgnapogomnlaa
