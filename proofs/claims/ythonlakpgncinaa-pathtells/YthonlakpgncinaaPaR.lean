
/- Ways through directories, the reference's side; two views as a statement holds them; no conditions but lengths. -/
import Derived.Test.YthonlakpgncinaaDiR
import Derived.Test.YthonlakpgncinaaPaB
import Derived.Deep.CutBlock
namespace Go.Proofs.Ythonlakpgncinaa
open Go.RowKit
set_option maxRecDepth 100000
set_option linter.unusedSimpArgs false

theorem own_form2 {w0 w : World} {v : Value} {l : List Bs} (h : Nm.OwnS w0 v l w) :
    ∃ ao b c, v = .slice ao l.length c ∧ (0 < l.length → ao = some ⟨b, 0, none⟩ ∧ l.length ≤ c) ∧ w0.heap.size ≤ b ∧ (∀ j, j < l.length → w.cell? ⟨b, j, none⟩ = some (.string (bs (Nm.sd l j)))) := by
  cases l with
  | nil =>
    obtain ⟨ao, c, e⟩ := h.form
    exact ⟨ao, _, c, e, fun h => absurd h (by simp), Nat.le_refl _, fun j hj => absurd hj (by simp)⟩
  | cons x l =>
    obtain ⟨b, c, e, h1, h2, h3, h4, h5⟩ := own_cut h (L := l.length) rfl
    exact ⟨_, b, c, e, fun _ => ⟨rfl, h1⟩, h2, fun j hj => h4 j hj⟩

section
variable {q R W p B : Nat} {f : StF} {g : VwF} {w : World}
set_option maxHeartbeats 1000000 in
theorem rwalk_w (h : RBoth q R W p B f g w) (cwd : Int) (s : ByteArray) (hs0 : s.size ≤ 100000) (hz : ∀ j, (findV f g j).s.size ≤ 100000) :
    Calls Try.prog 11 #[.pointer (some ⟨q, 0, none⟩), .int .i64 cwd, .string s] w
    fun e w' => e = .returned (foundV (walkA f g cwd (bl s))) ∧ RBoth q R W p B f (walkT f g cwd (bl s)) w' ∧ Kept (RW R W) w w' := by
  obtain ⟨lq, lR, lW, lp, lB⟩ := h.lt
  obtain ⟨A, hA⟩ : ∃ A, walkA f g cwd (bl s) = A := ⟨_, rfl⟩
  obtain ⟨Z, hZ⟩ : ∃ Z, walkT f g cwd (bl s) = Z := ⟨_, rfl⟩
  rw [hA, hZ]
  unfold walkA at hA
  unfold walkT at hZ
  have hnl := names_few (bl s) (by rw [bl_len]; omega)
  have hx := names_ok (p := bl s)
  have S := Nm.split_r s (by omega) w
  generalize Nm.namesF (bl s) = l at *
  generalize Nm.absF (bl s) = r at *
  generalize Nm.okF (bl s) = k at *
  go_enter Try.func11, Try.ntmps11
  go_wp2_with fail
  refine S.mono ?_
  rintro e w1 ⟨v, rfl, ho⟩
  clear S
  have hk1 := ho.kept
  have hb1 := h.still hk1
  cases k with
  | false =>
    have HR : Hid (A = none ∧ RBoth q R W p B f Z w1 ∧ Kept (RW R W) w w1) := ⟨hA.symm, by rw [← hZ]; exact hb1, hk1.mono (fun _ _ e => e.elim)⟩
    clear hA hZ ho hk1 hb1 h
    go_wp2_with fail
    exact bodyPost_ret (v := .tuple #[.int .i64 0, .bool false]) (by simp [results, Try.results11, go_sem]) rfl ⟨by rw [HR.out.1]; rfl, HR.out.2⟩
  | true =>
    rw [if_pos rfl] at hA hZ
    obtain ⟨ao, b, c, rfl, hao, hb, hc⟩ := own_form2 ho
    have HC : Hid (∀ j, j < l.length → w1.cell? ⟨b, j, none⟩ = some (.string (bs (Nm.sd l j)))) := hc
    have hbR : ¬ RW R W b := by unfold RW; omega
    obtain ⟨a, ha⟩ : ∃ a, headF cwd r = a := ⟨_, rfl⟩
    rw [ha] at hA hZ
    have HK : Hid (Kept (RW R W) w w1) := hk1.mono (fun _ _ e => e.elim)
    clear hc ho h hk1
    go_upto_if 25 with fail
    go_cut [11] from 24 to 25 (fun x wx => x = .int .i64 a ∧ wx = w1)
    case first =>
      cases r with
      | true =>
        have e : Hid ((1 : Int) = a) := ha
        clear ha
        go_wp2
        go_meet
        case rel => exact ⟨by rw [e.out], rfl⟩
      | false =>
        have e : Hid (cwd = a) := ha
        clear ha
        go_wp2
        go_meet
        case rel => exact ⟨by rw [e.out], rfl⟩
    case rest =>
      obtain ⟨rfl, hwc⟩ := hcut
      subst hwc
      clear ha
      go_wp2_with fail
      refine (ris_w hb1 a).mono ?_
      rintro e w2 ⟨rfl, hb2, hk2⟩
      unfold alongA at hA
      unfold alongT at hZ
      obtain ⟨ib, hib⟩ : ∃ ib, isI f g a = ib := ⟨_, rfl⟩
      rw [hib] at hA hZ ⊢
      cases ib with
      | false =>
        have HR : Hid (A = none ∧ RBoth q R W p B f Z w2 ∧ Kept (RW R W) w w2) := ⟨hA.symm, by rw [← hZ]; exact hb2, HK.out.trans hk2 (fun _ _ e => e)⟩
        clear hA hZ hb2 hk2 hb1 hao HK HC
        go_wp2
        exact bodyPost_ret (v := .tuple #[.int .i64 0, .bool false]) (by simp [results, Try.results11, go_sem]) rfl ⟨by rw [HR.out.1]; rfl, HR.out.2⟩
      | true =>
        rw [if_pos rfl] at hA hZ
        obtain ⟨L, hL⟩ : ∃ L, l.length = L := ⟨_, rfl⟩
        rw [hL] at hao hnl ⊢
        have H0 : Hid (RBoth q R W p B f (findT g a) w2 ∧ Kept (RW R W) wc w2 ∧ (∀ j, (findV f (findT g a) j).s.size ≤ 100000) ∧ A = stepsA f (findT g a) a (l.drop 0) ∧ Z = stepsT f (findT g a) a (l.drop 0)) :=
          ⟨hb2, hk2, fun j => by rw [find_find]; exact hz j, hA.symm, hZ.symm⟩
        clear hA hZ hb2 hk2 hz hib hb1
        go_wp2_with fail
        go_loopw [11, 13, 14, 15, 32] (fun x _ _ _ y wr => ∃ (i : Nat) (a' : Int) (g' : VwF), x = .int .i64 a' ∧ y = .int .i64 i ∧ i ≤ L ∧ Hid (RBoth q R W p B f g' wr ∧ Kept (RW R W) wc wr ∧ (∀ j, (findV f g' j).s.size ≤ 100000) ∧ A = stepsA f g' a' (l.drop i) ∧ Z = stepsT f g' a' (l.drop i))) (fun _ _ _ _ y _ => L - (intOf y).toNat)
        case atStart => exact ⟨0, a, findT g a, rfl, rfl, by omega, H0.out⟩
        case round =>
          clear H0
          obtain ⟨i, a', g', rfl, rfl, hi, HI⟩ := hrel
          by_cases hlt : i < L
          · have t1 : (i : Int) < L := by omega
            obtain ⟨rfl, -⟩ := hao (by omega)
            obtain ⟨hvr, hkr, hzr, hAr, hZr⟩ := HI.out
            have c0 := hkr.cell (HC.out i (by omega)) hbR
            have he := Nm.sd_get (l := l) (i := i) (by omega)
            have hdr : l.drop i = Nm.sd l i :: l.drop (i + 1) := by
              obtain ⟨h1, h2⟩ := List.getElem?_eq_some_iff.1 he
              rw [List.drop_eq_getElem_cons h1, h2]
            have hxl := hx _ (List.mem_of_getElem? he)
            generalize Nm.sd l i = s at *
            rw [hdr] at hAr hZr
            have D := rfind_w hvr a' (bs s) (by rw [bs_size]; omega) (hzr a')
            rw [bl_bs] at D
            clear HI he hdr hxl
            obtain ⟨fo, hfo⟩ : ∃ fo, foundE (dirE f g' a') s = fo := ⟨_, rfl⟩
            rw [hfo] at D
            cases fo with
            | none =>
              obtain ⟨e1, e2⟩ := steps_no (l.drop (i + 1)) hfo
              rw [found_no] at D
              go_wp2_with fail
              refine D.mono ?_
              rintro e w3 ⟨rfl, hv2, hk2⟩
              have HR : Hid (A = none ∧ RBoth q R W p B f Z w3 ∧ Kept (RW R W) w w3) := ⟨by rw [hAr, e1], by rw [hZr, e2]; exact hv2, HK.out.trans (hkr.trans hk2 (fun _ _ e => e)) (fun _ _ e => e)⟩
              clear D e1 e2 hAr hZr hv2 hk2 hvr hkr hzr hfo c0 HC HK
              go_wp2_with fail
              exact bodyPost_ret (v := .tuple #[.int .i64 0, .bool false]) (by simp [results, Try.results11, go_sem]) rfl ⟨by rw [HR.out.1]; rfl, HR.out.2⟩
            | some n =>
              rw [found_yes] at D
              go_wp2_with fail
              refine D.mono ?_
              rintro e w3 ⟨rfl, hv2, hk2⟩
              go_wp2_with fail
              refine (ris_w hv2 n).mono ?_
              rintro e w4 ⟨rfl, hv3, hk3⟩
              obtain ⟨jb, hjb⟩ : ∃ jb, isI f (findT g' a') n = jb := ⟨_, rfl⟩
              rw [hjb]
              have hk : Kept (RW R W) wc w4 := (hkr.trans hk2 (fun _ _ e => e)).trans hk3 (fun _ _ e => e)
              cases jb with
              | false =>
                obtain ⟨e1, e2⟩ := steps_gone (l.drop (i + 1)) hfo hjb
                have HR : Hid (A = none ∧ RBoth q R W p B f Z w4 ∧ Kept (RW R W) w w4) := ⟨by rw [hAr, e1], by rw [hZr, e2]; exact hv3, HK.out.trans hk (fun _ _ e => e)⟩
                clear D e1 e2 hAr hZr hv2 hk2 hv3 hk3 hk hvr hkr hzr hfo hjb c0 HC HK
                go_wp2_with fail
                exact bodyPost_ret (v := .tuple #[.int .i64 0, .bool false]) (by simp [results, Try.results11, go_sem]) rfl ⟨by rw [HR.out.1]; rfl, HR.out.2⟩
              | true =>
                obtain ⟨e1, e2⟩ := steps_on (l.drop (i + 1)) hfo hjb
                have HR : Hid (RBoth q R W p B f (findT (findT g' a') n) w4 ∧ Kept (RW R W) wc w4 ∧ (∀ j, (findV f (findT (findT g' a') n) j).s.size ≤ 100000) ∧ A = stepsA f (findT (findT g' a') n) n (l.drop (i + 1)) ∧ Z = stepsT f (findT (findT g' a') n) n (l.drop (i + 1))) :=
                  ⟨hv3, hk, fun j => by rw [find_find, find_find]; exact hzr j, by rw [hAr, e1], by rw [hZr, e2]⟩
                clear D e1 e2 hAr hZr hv2 hk2 hv3 hk3 hk hvr hkr hzr hfo hjb c0
                go_wp2_with fail
                go_roundw
                case rel => exact ⟨i + 1, n, _, rfl, by go_num, by omega, HR.out⟩
                case measure => simp [intOf]; omega
          · obtain rfl : i = L := by omega
            have HR : Hid (A = some a' ∧ RBoth q R W p B f Z wr ∧ Kept (RW R W) w wr) := by
              obtain ⟨h1, h2, -, h4, h5⟩ := HI.out
              rw [List.drop_of_length_le (by omega)] at h4 h5
              exact ⟨h4, by rw [h5]; exact h1, HK.out.trans h2 (fun _ _ e => e)⟩
            clear HI HC HK
            go_wp2_with fail
            exact bodyPost_ret (v := .tuple #[.int .i64 a', .bool true]) (by simp [results, Try.results11, go_sem]) rfl ⟨by rw [HR.out.1]; rfl, HR.out.2⟩

def lastA (f : StF) (lt : VwF) (last : Bs) : Option Int → Option (Int × Bs)
  | none => none
  | some d => if isDirF f lt d = true then some (d, last) else none
def lastT (lt : VwF) : Option Int → VwF
  | none => lt
  | some d => findT lt d
set_option maxHeartbeats 1000000 in
theorem rpar_w (h : RBoth q R W p B f g w) (cwd : Int) (s : ByteArray) (hs0 : s.size ≤ 100000) (hz : ∀ j, (findV f g j).s.size ≤ 100000) :
    Calls Try.prog 14 #[.pointer (some ⟨q, 0, none⟩), .int .i64 cwd, .string s] w
    fun e w' => e = .returned (parV (parA f g cwd (bl s))) ∧ RBoth q R W p B f (parT f g cwd (bl s)) w' ∧ Kept (RW R W) w w' := by
  obtain ⟨lq, lR, lW, lp, lB⟩ := h.lt
  obtain ⟨A, hA⟩ : ∃ A, parA f g cwd (bl s) = A := ⟨_, rfl⟩
  obtain ⟨Z, hZ⟩ : ∃ Z, parT f g cwd (bl s) = Z := ⟨_, rfl⟩
  rw [hA, hZ]
  unfold parA at hA
  unfold parT at hZ
  have hnl := names_few (bl s) (by rw [bl_len]; omega)
  have hx := names_ok (p := bl s)
  have S := Nm.split_r s (by omega) w
  generalize Nm.namesF (bl s) = l at *
  generalize Nm.absF (bl s) = r at *
  generalize Nm.okF (bl s) = k at *
  go_enter Try.func14, Try.ntmps14
  go_wp2_with fail
  refine S.mono ?_
  rintro e w1 ⟨v, rfl, ho⟩
  clear S
  have hk1 := ho.kept
  have hb1 := h.still hk1
  cases k with
  | false =>
    rw [if_neg (by simp)] at hA hZ
    have HR : Hid (A = none ∧ RBoth q R W p B f Z w1 ∧ Kept (RW R W) w w1) := ⟨hA.symm, by rw [← hZ]; exact hb1, hk1.mono (fun _ _ e => e.elim)⟩
    clear hA hZ ho hk1 hb1 h
    go_wp2_with fail
    exact bodyPost_ret (v := .tuple #[.int .i64 0, .string ⟨#[]⟩, .bool false]) (by simp [results, Try.results14, go_sem]) rfl ⟨by rw [HR.out.1]; rfl, HR.out.2⟩
  | true =>
   by_cases hnil : l = []
   · rw [if_neg (fun e => e.2 hnil)] at hA hZ
     obtain ⟨ao, c, hvf⟩ := ho.form
     rw [hnil] at hvf
     have HR : Hid (A = none ∧ RBoth q R W p B f Z w1 ∧ Kept (RW R W) w w1) := ⟨hA.symm, by rw [← hZ]; exact hb1, hk1.mono (fun _ _ e => e.elim)⟩
     clear hA hZ ho hk1 hb1 h hx hnl
     subst hvf
     go_wp2_with fail
     exact bodyPost_ret (v := .tuple #[.int .i64 0, .string ⟨#[]⟩, .bool false]) (by simp [results, Try.results14, go_sem]) rfl ⟨by rw [HR.out.1]; rfl, HR.out.2⟩
   · rw [if_pos ⟨rfl, hnil⟩] at hA hZ
     obtain ⟨L, hL⟩ : ∃ L, l.length = L + 1 := ⟨l.length - 1, by have := List.length_pos_iff.2 hnil; omega⟩
     obtain ⟨b, c, rfl, hcap, hb, hb2, hc, -⟩ := own_cut ho hL
     rw [last_sd hL] at hA
     have hlast := hc L (by omega)
     obtain ⟨m, hm⟩ : ∃ m, l.dropLast = m := ⟨_, rfl⟩
     have hml : m.length = L := by rw [← hm, List.length_dropLast, hL]; rfl
     have HC : Hid (∀ j, j < L → w1.cell? ⟨b, j, none⟩ = some (.string (bs (Nm.sd m j)))) := by
       intro j hj
       have h1 := hc j (by omega)
       have h2 := Nm.sd_get (l := l) (i := j) (by omega)
       have h3 := Nm.sd_get (l := m) (i := j) (by omega)
       rw [← hm, List.getElem?_dropLast, if_pos (by omega), h2] at h3
       rw [h1, Option.some.inj h3, hm]
     rw [hm] at hA hZ
     have hx2 : ∀ x ∈ m, x.length ≤ 1000 := fun x hh => hx x (mem_drop (by rw [hm]; exact hh))
     generalize Nm.sd l L = last at *
     have hz0 : ¬ (L : Int) + 1 = 0 := by omega
     have hc0 : (0 : Int) ≤ (L : Int) := by omega
     have hc1 : (L : Int) ≤ (c : Int) := by omega
     have hbR : ¬ RW R W b := by unfold RW; omega
     obtain ⟨a, ha⟩ : ∃ a, headF cwd r = a := ⟨_, rfl⟩
     rw [ha] at hA hZ
     have HK : Hid (Kept (RW R W) w w1) := hk1.mono (fun _ _ e => e.elim)
     have hLb : (L : Int) ≤ 1000 := by omega
     clear hnil hL hc ho h hk1 hm hnl hx
     go_upto_if 31 with fail
     go_cut [12] from 30 to 31 (fun x wx => x = .int .i64 a ∧ wx = w1)
     case first =>
       cases r with
       | true =>
         have e : Hid ((1 : Int) = a) := ha
         clear ha
         go_wp2
         go_meet
         case rel => exact ⟨by rw [e.out], rfl⟩
       | false =>
         have e : Hid (cwd = a) := ha
         clear ha
         go_wp2
         go_meet
         case rel => exact ⟨by rw [e.out], rfl⟩
     case rest =>
       obtain ⟨rfl, hwc⟩ := hcut
       subst hwc
       clear ha
       obtain ⟨la, hla⟩ : ∃ la, alongA f g a m = la := ⟨_, rfl⟩
       obtain ⟨lt, hlt⟩ : ∃ lt, alongT f g a m = lt := ⟨_, rfl⟩
       rw [hla, hlt] at hA hZ
       have HAZ : Hid (lastA f lt last la = A ∧ lastT lt la = Z) := ⟨by rw [← hA]; cases la <;> rfl, by rw [← hZ]; cases la <;> rfl⟩
       clear hA hZ
       have hz' := hz
       go_wp2_with fail
       refine (ris_w hb1 a).mono ?_
       rintro e w2 ⟨rfl, hb2, hk2⟩
       unfold alongA at hla
       unfold alongT at hlt
       obtain ⟨ib, hib⟩ : ∃ ib, isI f g a = ib := ⟨_, rfl⟩
       rw [hib] at hla hlt ⊢
       cases ib with
       | false =>
         have hA := HAZ.out.1
         have hZ := HAZ.out.2
         rw [← hla] at hA hZ
         have HR : Hid (A = none ∧ RBoth q R W p B f Z w2 ∧ Kept (RW R W) w w2) := ⟨hA.symm, by rw [← hZ]; show RBoth q R W p B f lt w2; rw [← hlt]; exact hb2, HK.out.trans hk2 (fun _ _ e => e)⟩
         clear hA hZ hla hlt hb2 hk2 hb1 HK HC HAZ
         go_wp2
         exact bodyPost_ret (v := .tuple #[.int .i64 0, .string ⟨#[]⟩, .bool false]) (by simp [results, Try.results14, go_sem]) rfl ⟨by rw [HR.out.1]; rfl, HR.out.2⟩
       | true =>
         rw [if_pos rfl] at hla hlt
         have H0 : Hid (RBoth q R W p B f (findT g a) w2 ∧ Kept (RW R W) wc w2 ∧ (∀ j, (findV f (findT g a) j).s.size ≤ 100000) ∧ la = stepsA f (findT g a) a (m.drop 0) ∧ lt = stepsT f (findT g a) a (m.drop 0)) :=
           ⟨hb2, hk2, fun j => by rw [find_find]; exact hz j, hla.symm, hlt.symm⟩
         clear hla hlt hb2 hk2 hz hz' hib hb1
         go_wp2_with fail
         go_loopw [12, 14, 15, 16, 42] (fun x _ _ _ y wr => ∃ (i : Nat) (a' : Int) (g' : VwF), x = .int .i64 a' ∧ y = .int .i64 i ∧ i ≤ L ∧ Hid (RBoth q R W p B f g' wr ∧ Kept (RW R W) wc wr ∧ (∀ j, (findV f g' j).s.size ≤ 100000) ∧ la = stepsA f g' a' (m.drop i) ∧ lt = stepsT f g' a' (m.drop i))) (fun _ _ _ _ y _ => L - (intOf y).toNat)
         case atStart => exact ⟨0, a, findT g a, rfl, rfl, by omega, H0.out⟩
         case round =>
           clear H0
           obtain ⟨i, a', g', rfl, rfl, hi, HI⟩ := hrel
           by_cases hlt : i < L
           · have t1 : (i : Int) < L := by omega
             obtain ⟨hvr, hkr, hzr, hAr, hZr⟩ := HI.out
             have c0 := hkr.cell (HC.out i (by omega)) hbR
             have he := Nm.sd_get (l := m) (i := i) (by omega)
             have hdr : m.drop i = Nm.sd m i :: m.drop (i + 1) := by
               obtain ⟨h1, h2⟩ := List.getElem?_eq_some_iff.1 he
               rw [List.drop_eq_getElem_cons h1, h2]
             have hxl := hx2 _ (List.mem_of_getElem? he)
             generalize Nm.sd m i = s at *
             rw [hdr] at hAr hZr
             have D := rfind_w hvr a' (bs s) (by rw [bs_size]; omega) (hzr a')
             rw [bl_bs] at D
             clear HI he hdr hxl
             obtain ⟨fo, hfo⟩ : ∃ fo, foundE (dirE f g' a') s = fo := ⟨_, rfl⟩
             rw [hfo] at D
             cases fo with
             | none =>
               obtain ⟨e1, e2⟩ := steps_no (m.drop (i + 1)) hfo
               rw [found_no] at D
               go_wp2_with fail
               refine D.mono ?_
               rintro e w3 ⟨rfl, hv2, hk2⟩
               have hA := HAZ.out.1
               have hZ := HAZ.out.2
               rw [hAr, e1] at hA hZ
               rw [e2] at hZr
               have HR : Hid (A = none ∧ RBoth q R W p B f Z w3 ∧ Kept (RW R W) w w3) := ⟨hA.symm, by rw [← hZ]; show RBoth q R W p B f lt w3; rw [hZr]; exact hv2, HK.out.trans (hkr.trans hk2 (fun _ _ e => e)) (fun _ _ e => e)⟩
               clear D e1 e2 hA hZ hAr hZr hv2 hk2 hvr hkr hzr hfo c0 HC HK HAZ
               go_wp2_with fail
               exact bodyPost_ret (v := .tuple #[.int .i64 0, .string ⟨#[]⟩, .bool false]) (by simp [results, Try.results14, go_sem]) rfl ⟨by rw [HR.out.1]; rfl, HR.out.2⟩
             | some n =>
               rw [found_yes] at D
               go_wp2_with fail
               refine D.mono ?_
               rintro e w3 ⟨rfl, hv2, hk2⟩
               go_wp2_with fail
               refine (ris_w hv2 n).mono ?_
               rintro e w4 ⟨rfl, hv3, hk3⟩
               obtain ⟨jb, hjb⟩ : ∃ jb, isI f (findT g' a') n = jb := ⟨_, rfl⟩
               rw [hjb]
               have hk : Kept (RW R W) wc w4 := (hkr.trans hk2 (fun _ _ e => e)).trans hk3 (fun _ _ e => e)
               cases jb with
               | false =>
                 obtain ⟨e1, e2⟩ := steps_gone (m.drop (i + 1)) hfo hjb
                 have hA := HAZ.out.1
                 have hZ := HAZ.out.2
                 rw [hAr, e1] at hA hZ
                 rw [e2] at hZr
                 have HR : Hid (A = none ∧ RBoth q R W p B f Z w4 ∧ Kept (RW R W) w w4) := ⟨hA.symm, by rw [← hZ]; show RBoth q R W p B f lt w4; rw [hZr]; exact hv3, HK.out.trans hk (fun _ _ e => e)⟩
                 clear D e1 e2 hA hZ hAr hZr hv2 hk2 hv3 hk3 hk hvr hkr hzr hfo hjb c0 HC HK HAZ
                 go_wp2_with fail
                 exact bodyPost_ret (v := .tuple #[.int .i64 0, .string ⟨#[]⟩, .bool false]) (by simp [results, Try.results14, go_sem]) rfl ⟨by rw [HR.out.1]; rfl, HR.out.2⟩
               | true =>
                 obtain ⟨e1, e2⟩ := steps_on (m.drop (i + 1)) hfo hjb
                 have HR : Hid (RBoth q R W p B f (findT (findT g' a') n) w4 ∧ Kept (RW R W) wc w4 ∧ (∀ j, (findV f (findT (findT g' a') n) j).s.size ≤ 100000) ∧ la = stepsA f (findT (findT g' a') n) n (m.drop (i + 1)) ∧ lt = stepsT f (findT (findT g' a') n) n (m.drop (i + 1))) :=
                   ⟨hv3, hk, fun j => by rw [find_find, find_find]; exact hzr j, by rw [hAr, e1], by rw [hZr, e2]⟩
                 clear D e1 e2 hAr hZr hv2 hk2 hv3 hk3 hk hvr hkr hzr hfo hjb c0
                 go_wp2_with fail
                 go_roundw
                 case rel => exact ⟨i + 1, n, _, rfl, by go_num, by omega, HR.out⟩
                 case measure => simp [intOf]; omega
           · obtain rfl : i = L := by omega
             obtain ⟨h1, h2, -, h4, h5⟩ := HI.out
             rw [List.drop_of_length_le (by omega)] at h4 h5
             have hA := HAZ.out.1
             have hZ := HAZ.out.2
             rw [h4] at hA hZ
             have e5 : lt = g' := h5
             rw [e5] at hA hZ
             rw [(steps_nil f g' a').1] at hA hZ
             unfold lastA at hA
             unfold lastT at hZ
             simp only at hA hZ
             have hK := HK.out.trans h2 (fun _ _ e => e)
             have hl3 := h2.cell hlast hbR
             clear HI HC HK HAZ h2 h4 h5 hlast hx2 hml e5
             go_wp2_with fail
             refine (rdis_w h1 a').mono ?_
             rintro e w4 ⟨rfl, hv4, hk4⟩
             have hK4 := hK.trans hk4 (fun _ _ e => e)
             have hl4 := hk4.cell hl3 hbR
             rw [hZ] at hv4
             clear hZ h1 hK hl3 hk4
             cases hd : isDirF f g' a' with
             | false =>
               rw [hd, if_neg (by simp)] at hA
               have HR : Hid (A = none ∧ RBoth q R W p B f Z w4 ∧ Kept (RW R W) w w4) := ⟨hA.symm, hv4, hK4⟩
               clear hA hd hv4 hK4 hl4
               go_wp2_with fail
               exact bodyPost_ret (v := .tuple #[.int .i64 0, .string ⟨#[]⟩, .bool false]) (by simp [results, Try.results14, go_sem]) rfl ⟨by rw [HR.out.1]; rfl, HR.out.2⟩
             | true =>
               rw [hd, if_pos rfl] at hA
               have HR : Hid (A = some (a', last) ∧ RBoth q R W p B f Z w4 ∧ Kept (RW R W) w w4) := ⟨hA.symm, hv4, hK4⟩
               have hc2 : (i : Int) < (i : Int) + 1 := by omega
               clear hA hd hv4 hK4
               go_wp2_with fail
               go_quiet (fail)
               have HZ : Hid (A = some (a', last) ∧ RBoth q R W p B f Z (w4.drewN nq) ∧ Kept (RW R W) w (w4.drewN nq)) := ⟨HR.out.1, HR.out.2.1.still (Nm.kept_drewN _ nq), HR.out.2.2.trans (Nm.kept_drewN _ nq) (fun _ _ e => e.elim)⟩
               clear HR hl4
               generalize w4.drewN nq = w5 at *
               go_wp2
               exact bodyPost_ret (v := .tuple #[.int .i64 a', .string (bs last), .bool true]) (by simp [results, Try.results14, go_sem]) rfl ⟨by rw [HZ.out.1]; rfl, HZ.out.2⟩
end
end Go.Proofs.Ythonlakpgncinaa

namespace Go.Proofs.Ythonlakpgncinaa
open Go.RowKit
set_option maxRecDepth 100000

section
variable {w0 : World} {T p B q N rp rB rq R W : Nat} {f f2 : StF} {g g2 : VwF} {w : World}
theorem kv_walk (h : KeepIn w0 T p B q N rp rB rq R W f f2 g g2 w) (c : Int) (s : ByteArray) (hs : s.size ≤ 100000) (hz : ∀ j, (findV f g j).s.size ≤ 100000) : Calls Try.prog 8 #[.pointer (some ⟨q, 0, none⟩), .int .i64 c, .string s] w
    fun e w' => e = .returned (foundV (walkA f g c (bl s))) ∧ KeepIn w0 T p B q N rp rB rq R W f f2 (walkT f g c (bl s)) g2 w' ∧ Kept (fun n => n = N) w w' := by
  refine (pwalk_w q N p B f g c s hs w h.game.v h.game.s h.nB hz).mono ?_
  rintro e w1 ⟨rfl, hv, hk⟩
  exact ⟨rfl, h.putV hv hk, hk⟩
theorem kv_par (h : KeepIn w0 T p B q N rp rB rq R W f f2 g g2 w) (c : Int) (s : ByteArray) (hs : s.size ≤ 100000) (hz : ∀ j, (findV f g j).s.size ≤ 100000) : Calls Try.prog 9 #[.pointer (some ⟨q, 0, none⟩), .int .i64 c, .string s] w
    fun e w' => e = .returned (parV (parA f g c (bl s))) ∧ KeepIn w0 T p B q N rp rB rq R W f f2 (parT f g c (bl s)) g2 w' ∧ Kept (fun n => n = N) w w' := by
  refine (ppar_w q N p B f g c s hs w h.game.v h.game.s h.nB hz).mono ?_
  rintro e w1 ⟨rfl, hv, hk⟩
  exact ⟨rfl, h.putV hv hk, hk⟩
theorem kr_walk (h : KeepIn w0 T p B q N rp rB rq R W f f2 g g2 w) (c : Int) (s : ByteArray) (hs : s.size ≤ 100000) (hz : ∀ j, (findV f2 g2 j).s.size ≤ 100000) : Calls Try.prog 11 #[.pointer (some ⟨rq, 0, none⟩), .int .i64 c, .string s] w
    fun e w' => e = .returned (foundV (walkA f2 g2 c (bl s))) ∧ KeepIn w0 T p B q N rp rB rq R W f f2 g (walkT f2 g2 c (bl s)) w' ∧ Kept (RW R W) w w' := by
  refine (rwalk_w h.both c s hs hz).mono ?_
  rintro e w1 ⟨rfl, hb, hk⟩
  exact ⟨rfl, h.putX hb hk, hk⟩
theorem kr_par (h : KeepIn w0 T p B q N rp rB rq R W f f2 g g2 w) (c : Int) (s : ByteArray) (hs : s.size ≤ 100000) (hz : ∀ j, (findV f2 g2 j).s.size ≤ 100000) : Calls Try.prog 14 #[.pointer (some ⟨rq, 0, none⟩), .int .i64 c, .string s] w
    fun e w' => e = .returned (parV (parA f2 g2 c (bl s))) ∧ KeepIn w0 T p B q N rp rB rq R W f f2 g (parT f2 g2 c (bl s)) w' ∧ Kept (RW R W) w w' := by
  refine (rpar_w h.both c s hs hz).mono ?_
  rintro e w1 ⟨rfl, hb, hk⟩
  exact ⟨rfl, h.putX hb hk, hk⟩
end
end Go.Proofs.Ythonlakpgncinaa
