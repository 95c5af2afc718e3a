
/- Directories, the reference's side; two views as a statement holds them; no conditions but lengths. -/
import Derived.Test.YthonlakpgncinaaKeA
import Derived.Test.YthonlakpgncinaaInA
import Derived.Test.YthonlakpgncinaaDiA
import Derived.Deep.CutBlock
namespace Go.Proofs.Ythonlakpgncinaa
open Go.RowKit
set_option maxRecDepth 100000
set_option linter.unusedSimpArgs false

theorem is_val {f : StF} {g : VwF} {i : Int} (h : isI f g i = true) : vgetF f g (10, i) = findV f g i ∧ findT g i = vgetT g (10, i) := by
  have hr := is_range h
  unfold isI findV at h
  unfold findV findT
  rw [if_pos hr] at h ⊢
  rw [if_pos hr]
  by_cases h0 : (vgetF f g (10, i)).n0 = 0
  · rw [if_pos h0] at h; simp [zeroV] at h
  · rw [if_neg h0]; exact ⟨rfl, rfl⟩

theorem not_is {f : StF} {g : VwF} {i : Int} (h : isI f g i = false) : findV f g i = zeroV := by
  unfold isI findV at h
  unfold findV
  split
  · rename_i hr
    rw [if_pos hr] at h
    split
    · rfl
    · rename_i h0; rw [if_neg h0] at h; simp at h; exact absurd h h0
  · rfl

theorem over_ext {s t : ByteArray} {o m : Nat} (hm : m = min s.size (o + t.size)) : s.extract 0 o ++ t ++ s.extract m s.size = overF s o t := by
  unfold overF
  apply bl_inj
  rw [bl_app, bl_app, bl_extract, bl_extract, bl_bs, List.drop_zero, Nat.sub_zero]
  congr 1
  have e1 : (bl s).length = s.size := bl_len s
  by_cases h : o + t.size ≤ s.size
  · have : m = o + t.size := by omega
    rw [this, List.take_of_length_le (by rw [List.length_drop]; omega)]
  · have : m = s.size := by omega
    rw [this, Nat.sub_self, List.take_zero, List.drop_eq_nil_of_le (by omega)]

end Go.Proofs.Ythonlakpgncinaa

namespace Go.Proofs.Ythonlakpgncinaa
open Go.RowKit
set_option maxRecDepth 100000
set_option linter.unusedSimpArgs false

theorem rdis_w {q R W p B : Nat} {f : StF} {g : VwF} {w : World} (h : RBoth q R W p B f g w) (d : Int) : Calls Try.prog 40 #[.pointer (some ⟨q, 0, none⟩), .int .i64 d] w
    fun e w' => e = .returned (.bool (isDirF f g d)) ∧ RBoth q R W p B f (findT g d) w' ∧ Kept (RW R W) w w' := by
  go_enter Try.func40, Try.ntmps40
  go_wp2_with fail
  refine (ris_w h d).mono ?_
  rintro e w1 ⟨rfl, hv1, hk1⟩
  have hn := not_is (f := f) (g := g) (i := d)
  have hv := is_val (f := f) (g := g) (i := d)
  have HD : Hid (isDirF f g d = decide ((findV f g d).n0 = 1)) := rfl
  cases hib : isI f g d with
  | false =>
    have HE : Hid (isDirF f g d = false) := by show _ = _; rw [HD.out, hn hib]; rfl
    have HZ : Hid (RBoth q R W p B f (findT g d) w1 ∧ Kept (RW R W) w w1) := ⟨hv1, hk1⟩
    clear hn hv hv1 hk1 hib
    go_wp2
    go_ret
    exact ⟨by rw [HE.out]; rfl, HZ.out⟩
  | true =>
    obtain ⟨hx1, hx2⟩ := hv hib
    clear hn hv hib
    have hgv : vgetF f (findT g d) (10, d) = findV f g d := by rw [hx2, get_get, hx1]
    have hgt : vgetT (findT g d) (10, d) = findT g d := by rw [hx2, (get_twice (f := f)).2]
    clear hx1 hx2
    obtain ⟨x, hx⟩ : ∃ x, findV f g d = x := ⟨_, rfl⟩
    rw [hx] at hgv HD
    clear hx
    go_wp2_with fail
    refine (rkey_w d _).mono ?_
    rintro e w2 ⟨rfl, hk2⟩
    go_wp2_with fail
    refine (rg_w (hv1.still hk2) 10 d).mono ?_
    rintro e w3 ⟨rfl, hv3, hk3⟩
    rw [hgt] at hv3
    rw [hgv]
    have HZ : Hid (RBoth q R W p B f (findT g d) w3 ∧ Kept (RW R W) w w3) := ⟨hv3, (hk1.trans hk2 (fun _ _ e => e.elim)).trans hk3 (fun _ _ e => e)⟩
    have hf := field_arr x w3
    have hxx := index_n0 x w3
    clear hv3 hk3 hk2 hk1 hv1 hgv hgt
    go_wp2
    go_ret
    exact ⟨ret_bool (by rw [HD.out]; by_cases h1 : x.n0 = 1 <;> simp [h1]), HZ.out⟩

def slotP (s : Bs) (e : E2) : Bool := if s = [] then gapP e else hasP s e
theorem slot_has {s : Bs} (h : s ≠ []) : slotP s = hasP s := by funext e; unfold slotP; rw [if_neg h]
theorem slot_gap : slotP [] = gapP := by funext e; unfold slotP; rw [if_pos rfl]
def slotV (l : Bs) (s : Bs) : Value := .tuple #[.int .i64 (if (entsF l).findIdx (slotP s) < nEnt l then (((entsF l).findIdx (slotP s) * 16 : Nat) : Int) else -1), .int .i64 (if (entsF l).findIdx (slotP s) < nEnt l then ((entsF l).getD ((entsF l).findIdx (slotP s)) ([], 0)).2 else 0)]

set_option maxHeartbeats 2000000 in
theorem rslot_w {q R W p B : Nat} {f : StF} {g : VwF} {w : World} (h : RBoth q R W p B f g w) (d : Int) (s : ByteArray) (hsz : (vgetF f g (10, d)).s.size ≤ 1000000) : Calls Try.prog 64 #[.pointer (some ⟨q, 0, none⟩), .int .i64 d, .string s] w
    fun e w' => e = .returned (slotV (bl (vgetF f g (10, d)).s) (bl s)) ∧ RBoth q R W p B f (vgetT g (10, d)) w' ∧ Kept (RW R W) w w' := by
  obtain ⟨nm, hnm⟩ : ∃ nm, bl s = nm := ⟨_, rfl⟩
  have hsn : s.toList = nm := by rw [toList_bl]; exact hnm
  rw [hnm]
  clear hnm
  go_enter Try.func64, Try.ntmps64
  go_wp2_with fail
  refine (rkey_w d _).mono ?_
  rintro e w1 ⟨rfl, hk1⟩
  go_wp2_with fail
  refine (rg_w (h.still hk1) 10 d).mono ?_
  rintro e w2 ⟨rfl, hv2, hk2⟩
  have HZ : Hid (RBoth q R W p B f (vgetT g (10, d)) w2 ∧ Kept (RW R W) w w2) := ⟨hv2, (hk1.mono (fun _ _ e => e.elim)).trans hk2 (fun _ _ e => e)⟩
  clear hv2 hk2 hk1 h
  obtain ⟨x, hx⟩ : ∃ x, vgetF f g (10, d) = x := ⟨_, rfl⟩
  have HX : Hid (vgetF f g (10, d) = x) := hx
  have HF := field_str x w2
  rw [hx] at hsz ⊢
  clear hx
  obtain ⟨t, ht⟩ : ∃ t, x.s = t := ⟨_, rfl⟩
  rw [ht] at hsz HF
  have HT : Hid (x.s = t) := ht
  clear ht
  obtain ⟨l, hl⟩ : ∃ l, bl t = l := ⟨_, rfl⟩
  have hlt : t.size = l.length := by rw [← hl, bl_len]
  obtain ⟨L, hL⟩ : ∃ L, nEnt l = L := ⟨_, rfl⟩
  have hL8 : L ≤ 8 := by rw [← hL]; exact nEnt_le l
  obtain ⟨K, hK⟩ : ∃ K, (entsF l).findIdx (slotP nm) = K := ⟨_, rfl⟩
  obtain ⟨A, hA⟩ : ∃ A : Int, (if K < L then ((K * 16 : Nat) : Int) else -1) = A := ⟨_, rfl⟩
  obtain ⟨C, hC⟩ : ∃ C : Int, (if K < L then ((entsF l).getD K ([], 0)).2 else 0) = C := ⟨_, rfl⟩
  have HV : Hid (slotV (bl (vgetF f g (10, d)).s) nm = .tuple #[.int .i64 A, .int .i64 C]) := by show _ = _; rw [HX.out, HT.out, hl, ← hA, ← hC, ← hK, ← hL]; rfl
  have HA : Hid ((if K < L then ((K * 16 : Nat) : Int) else -1) = A ∧ (if K < L then ((entsF l).getD K ([], 0)).2 else 0) = C) := ⟨hA, hC⟩
  clear hA hC
  have H0 : Hid (Kept (fun _ => False) w2 w2) := Kept.refl _ _
  have HS : Hid (t.size = l.length) := hlt
  clear hlt
  go_wp2_with fail
  go_loopw [9] (fun y wr => ∃ i M : Nat, y = .int .i64 M ∧ Hid (M = i * 16) ∧ i ≤ L ∧ Hid (i ≤ K ∧ Kept (fun _ => False) w2 wr)) (fun y _ => L * 16 - (intOf y).toNat)
  case atStart => exact ⟨0, 0, rfl, rfl, by omega, by omega, H0.out⟩
  case round =>
    obtain ⟨i, M, rfl, HM, hi, HI⟩ := hrel
    clear H0
    have hM := HM.out
    have hts := HS.out
    by_cases hlt : i < L
    · have g1 : M + 16 ≤ t.size := by unfold nEnt at hL; omega
      have g2 : M < 128 := by omega
      have g3 : M < L * 16 := by omega
      have t1 : (M : Int) + 16 ≤ t.size := by omega
      have t2 : (M : Int) < 128 := by omega
      obtain ⟨u, hu⟩ : ∃ u, t.extract M (M + 16) = u := ⟨_, rfl⟩
      have hul : bl u = slc l i := by
        rw [← hu, bl_extract, hl]
        unfold slc
        rw [hM, show i * 16 + 16 - i * 16 = 16 by omega]
      obtain ⟨e, he⟩ : ∃ e : E2, (Nm.nameF (bl u), Nm.ptrF (bl u)) = e := ⟨_, rfl⟩
      have hat : (entsF l)[i]? = some e := by rw [ents_at (by omega), ← he, hul]; rfl
      have hP := Nm.unpack_r u
      have h1 : Nm.nameF (bl u) = e.1 := by rw [← he]
      have h2 : Nm.ptrF (bl u) = e.2 := by rw [← he]
      rw [h1, h2] at hP
      clear hul he h1 h2 hM hts
      go_wp2_with fail
      refine (hP wr).mono ?_
      rintro r w5 ⟨rfl, hk5⟩
      have HK : Hid (Kept (fun _ => False) w2 w5) := HI.out.2.thru hk5
      have HiK : Hid (i ≤ K) := HI.out.1
      clear hk5 HI hP hu g1 t1
      go_upto_region 6 with fail
      go_cut [12] from 18 to 63 (fun v wx => v = .bool (hereB e.2) ∧ wx = w5)
      case first =>
        by_cases n1 : (1 : Int) ≤ e.2
        · by_cases n2 : e.2 < 16
          · have qh : hereB e.2 = true := here_iff.2 ⟨n1, n2⟩
            go_wp2
            go_meet
            case rel => exact ⟨by rw [qh], rfl⟩
          · have qh : hereB e.2 = false := by simp [hereB]; omega
            go_wp2
            go_meet
            case rel => exact ⟨by rw [qh], rfl⟩
        · have qh : hereB e.2 = false := by simp [hereB]; omega
          go_wp2
          go_meet
          case rel => exact ⟨by rw [qh], rfl⟩
      case rest =>
        obtain ⟨rfl, hwc⟩ := hcut
        subst hwc
        obtain ⟨z, hz⟩ : ∃ z, hereB e.2 = z := ⟨_, rfl⟩
        rw [hz]
        obtain ⟨en, hen⟩ : ∃ en, e.1 = en := ⟨_, rfl⟩
        have hes : (bs en).toList = en := by rw [toList_bl, bl_bs]
        have HP : Hid (slotP nm e = if nm = [] then !z else z && decide (en = nm)) := by show _ = _; unfold slotP gapP hasP; rw [hz, hen]
        rw [hen]
        clear hz hen
        go_upto_region 7 with fail
        go_cut [61] from 18 to 63 (fun v wx => v = .bool (slotP nm e) ∧ wx = wc)
        case first =>
          by_cases hn : nm = []
          · have HQ : Hid (slotP nm e = !z) := by show _ = _; rw [HP.out, if_pos hn]
            subst hn
            clear HP
            cases z with
            | true =>
              by_cases hx : en = []
              · subst hx
                go_wp2
                go_meet
                case rel => exact ⟨by rw [HQ.out]; rfl, rfl⟩
              · have hx2 : (en == []) = false := by simpa using hx
                go_wp2
                go_meet
                case rel => exact ⟨by rw [HQ.out]; rfl, rfl⟩
            | false =>
              go_wp2
              go_meet
              case rel => exact ⟨by rw [HQ.out]; rfl, rfl⟩
          · have HQ : Hid (slotP nm e = (z && decide (en = nm))) := by show _ = _; rw [HP.out, if_neg hn]
            have hn2 : (nm == []) = false := by simpa using hn
            clear HP hn
            cases z with
            | true =>
              by_cases hx : en = nm
              · have hx2 : (en == nm) = true := by simpa using hx
                have HR : Hid (slotP nm e = true) := by show _ = _; rw [HQ.out, hx]; simp
                clear HQ hx
                go_wp2
                go_meet
                case rel => exact ⟨by rw [HR.out], rfl⟩
              · have hx2 : (en == nm) = false := by simpa using hx
                have HR : Hid (slotP nm e = false) := by show _ = _; rw [HQ.out]; simp [hx]
                clear HQ hx
                go_wp2
                go_meet
                case rel => exact ⟨by rw [HR.out], rfl⟩
            | false =>
              go_wp2
              go_meet
              case rel => exact ⟨by rw [HQ.out]; rfl, rfl⟩
        case rest =>
          obtain ⟨rfl, hwc⟩ := hcut
          subst hwc
          clear HP hes
          cases hz : slotP nm e with
          | false =>
            have hn := find_on hat hz (by rw [hK]; exact HiK.out)
            have HN : Hid (i + 1 ≤ K) := by show _ ≤ _; rw [← hK]; exact hn
            clear hn HiK
            go_wp2
            go_roundw
            case rel => exact ⟨i + 1, M + 16, by go_num, by show _ = _; rw [HM.out]; omega, by omega, HN.out, HK.out⟩
            case measure => simp [intOf]; omega
          | true =>
            have hn := find_is hat hz (by rw [hK]; exact HiK.out)
            have HN : Hid (K = i) := by show _ = _; rw [← hK]; exact hn
            have HE : Hid (A = (M : Int) ∧ C = e.2) := by
              obtain ⟨a1, a2⟩ := HA.out
              rw [HN.out, if_pos hlt] at a1 a2
              refine ⟨by rw [← a1, HM.out], ?_⟩
              rw [← a2]
              have := (List.getElem?_eq_some_iff.1 hat)
              simp [List.getD, hat]
            clear hn HiK
            go_wp2
            go_ret2
            exact ⟨by rw [HV.out, HE.out.1, HE.out.2]; rfl, HZ.out.1.still HK.out, HZ.out.2.trans HK.out (fun _ _ e => e.elim)⟩
    · obtain rfl : i = L := by omega
      have HE : Hid (A = -1 ∧ C = 0) := by
        obtain ⟨a1, a2⟩ := HA.out
        have : ¬ K < i := by have := HI.out.1; omega
        rw [if_neg this] at a1 a2
        exact ⟨a1.symm, a2.symm⟩
      have HK : Hid (Kept (fun _ => False) w2 wr) := HI.out.2
      clear HI
      by_cases g1 : (M : Int) + 16 ≤ t.size
      · have g2 : ¬ (M : Int) < 128 := by unfold nEnt at hL; omega
        clear hM hts
        go_wp2
        go_ret2
        exact ⟨by rw [HV.out, HE.out.1, HE.out.2]; rfl, HZ.out.1.still HK.out, HZ.out.2.trans HK.out (fun _ _ e => e.elim)⟩
      · have hM8 : M ≤ 128 := by omega
        clear hM hts
        go_wp2
        go_ret2
        exact ⟨by rw [HV.out, HE.out.1, HE.out.2]; rfl, HZ.out.1.still HK.out, HZ.out.2.trans HK.out (fun _ _ e => e.elim)⟩
end Go.Proofs.Ythonlakpgncinaa

namespace Go.Proofs.Ythonlakpgncinaa
open Go.RowKit
set_option maxRecDepth 100000
set_option linter.unusedSimpArgs false

theorem dir_val {f : StF} {g : VwF} {d : Int} (h : isDirF f g d = true) : vgetF f (findT g d) (10, d) = findV f g d ∧ vgetT (findT g d) (10, d) = findT g d ∧ dirE f g d = entsF (bl (findV f g d).s) ∧ isI f g d = true := by
  have hd : dirE f g d = entsF (bl (findV f g d).s) := by unfold dirE; rw [if_pos h]
  have hi : isI f g d = true := by
    unfold isDirF at h
    have : (findV f g d).n0 = 1 := by simpa using h
    unfold isI
    rw [this]; rfl
  obtain ⟨hx1, hx2⟩ := is_val hi
  exact ⟨by rw [hx2, get_get, hx1], by rw [hx2, (get_twice (f := f)).2], hd, hi⟩

theorem slot_found {l s : Bs} (hr : Nm.rightF s = true) : slotV l s = match foundE (entsF l) s with | some n => .tuple #[.int .i64 (((entsF l).findIdx (hasP s) * 16 : Nat) : Int), .int .i64 n] | none => .tuple #[.int .i64 (-1), .int .i64 0] := by
  have hne : s ≠ [] := by
    rintro rfl
    exact absurd hr (by decide)
  unfold slotV foundE
  rw [slot_has hne, ents_len]
  by_cases h : (entsF l).findIdx (hasP s) < nEnt l
  · rw [if_pos h, if_pos h, if_pos ⟨hr, h⟩]
  · rw [if_neg h, if_neg h, if_neg (fun x => h x.2)]
theorem slot_free (l : Bs) : ∃ n, slotV l [] = .tuple #[.int .i64 (if gapA (entsF l) < nEnt l then ((gapA (entsF l) * 16 : Nat) : Int) else -1), .int .i64 n] := by
  unfold slotV
  rw [slot_gap]
  exact ⟨_, rfl⟩

theorem write_16 {f : StF} {g : VwF} {d : Int} {k : Nat} {pk : ByteArray} (h : isI f g d = true) (hk : k < 8) (hs : k * 16 ≤ (findV f g d).s.size) (hp : pk.size = 16) : wrOk f (findT g d) d ((k * 16 : Nat) : Int) = true ∧ writeA f (findT g d) d ((k * 16 : Nat) : Int) pk = 16 := by
  have hok : wrOk f (findT g d) d ((k * 16 : Nat) : Int) = true := by
    unfold wrOk isI
    rw [find_find]
    unfold isI at h
    rw [h, decide_eq_true (by omega), decide_eq_true (by omega), decide_eq_true (by omega)]
    rfl
  refine ⟨hok, ?_⟩
  unfold writeA
  rw [if_pos hok, cutD_size, Int.toNat_natCast, hp, Nat.min_eq_right (by omega)]
  rfl
theorem pack_16 (s : Bs) (i : Int) : (bs (Nm.packF s i)).size = 16 := by rw [bs_size, Nm.pack_len]

theorem rfind_w {q R W p B : Nat} {f : StF} {g : VwF} {w : World} (h : RBoth q R W p B f g w) (d : Int) (s : ByteArray) (hs0 : s.size ≤ 1000000) (hsz : (findV f g d).s.size ≤ 100000) : Calls Try.prog 32 #[.pointer (some ⟨q, 0, none⟩), .int .i64 d, .string s] w
    fun e w' => e = .returned (foundV (foundE (dirE f g d) (bl s))) ∧ RBoth q R W p B f (findT g d) w' ∧ Kept (RW R W) w w' := by
  obtain ⟨fo, hfo⟩ : ∃ fo, foundE (dirE f g d) (bl s) = fo := ⟨_, rfl⟩
  rw [hfo]
  have HF : Hid (foundE (dirE f g d) (bl s) = fo) := hfo
  clear hfo
  go_enter Try.func32, Try.ntmps32
  go_wp2_with fail
  refine (rdis_w h d).mono ?_
  rintro e w1 ⟨rfl, hv1, hk1⟩
  cases hd : isDirF f g d with
  | false =>
    have HE : Hid (foundV fo = .tuple #[.int .i64 0, .bool false]) := by
      show _ = _
      rw [← HF.out, dirE_no hd]
      unfold foundE
      rw [if_neg (by simp)]
      rfl
    have HZ : Hid (RBoth q R W p B f (findT g d) w1 ∧ Kept (RW R W) w w1) := ⟨hv1, hk1⟩
    clear hv1 hk1 h
    go_wp2
    go_ret2
    exact ⟨by rw [HE.out]; rfl, HZ.out⟩
  | true =>
    obtain ⟨d1, d2, d3, d4⟩ := dir_val hd
    go_wp2_with fail
    refine (Nm.right_r s hs0 w1).mono ?_
    rintro e w1' ⟨rfl, hw⟩
    subst hw
    cases hr : Nm.rightF (bl s) with
    | false =>
      have HE : Hid (foundV fo = .tuple #[.int .i64 0, .bool false]) := by
        show _ = _
        rw [← HF.out]
        unfold foundE
        rw [hr, if_neg (by simp)]
        rfl
      have HZ : Hid (RBoth q R W p B f (findT g d) w1' ∧ Kept (RW R W) w w1') := ⟨hv1, hk1⟩
      clear hv1 hk1 h d1 d2 d3 d4
      go_wp2
      go_ret2
      exact ⟨by rw [HE.out]; rfl, HZ.out⟩
    | true =>
      have hsl := slot_found (l := bl (findV f g d).s) hr
      rw [← d3, HF.out] at hsl
      have S := rslot_w hv1 d s (by rw [d1]; omega)
      rw [d1, d2, hsl] at S
      clear d1 d2 d3 d4 hsl
      go_wp2_with fail
      cases fo with
      | none =>
        refine S.mono ?_
        rintro e w2 ⟨rfl, hv2, hk2⟩
        have HZ : Hid (RBoth q R W p B f (findT g d) w2 ∧ Kept (RW R W) w w2) := ⟨hv2, hk1.trans hk2 (fun _ _ e => e)⟩
        clear hv2 hk2 hv1 hk1 h S
        go_wp2
        go_ret2
        exact ⟨rfl, HZ.out⟩
      | some n =>
        generalize (dirE f g d).findIdx (hasP (bl s)) * 16 = J at S
        refine S.mono ?_
        rintro e w2 ⟨rfl, hv2, hk2⟩
        have HZ : Hid (RBoth q R W p B f (findT g d) w2 ∧ Kept (RW R W) w w2) := ⟨hv2, hk1.trans hk2 (fun _ _ e => e)⟩
        have t1 : (0 : Int) ≤ J := by omega
        clear hv2 hk2 hv1 hk1 h S
        go_wp2
        go_ret2
        exact ⟨rfl, HZ.out⟩

theorem gap_at (l : Bs) (hl : l.length ≤ 1000000) (h8 : gapA (entsF l) < 8) : gapA (entsF l) * 16 ≤ l.length ∧ (¬ gapA (entsF l) < nEnt l → l.length / 16 = gapA (entsF l)) := by
  have hle : gapA (entsF l) ≤ (entsF l).length := List.findIdx_le_length
  rw [ents_len] at hle
  have e : nEnt l = min l.length 128 / 16 := rfl
  constructor
  · omega
  · intro h
    omega
theorem gap_full (l : Bs) (h8 : ¬ gapA (entsF l) < 8) : ¬ gapA (entsF l) < nEnt l ∧ 8 ≤ l.length / 16 := by
  have hle : gapA (entsF l) ≤ (entsF l).length := List.findIdx_le_length
  rw [ents_len] at hle
  have e : nEnt l = min l.length 128 / 16 := rfl
  constructor <;> omega

end Go.Proofs.Ythonlakpgncinaa

namespace Go.Proofs.Ythonlakpgncinaa
open Go.RowKit
set_option maxRecDepth 100000

theorem dir_again (f : StF) (g : VwF) (d : Int) : dirE f (findT g d) d = dirE f g d ∧ isDirF f (findT g d) d = isDirF f g d := by unfold dirE isDirF; rw [find_find]; exact ⟨rfl, rfl⟩
theorem MapIn.offC {κ ν : Type} {enc : κ → Value} {encv : ν → Value} {f : κ → Option ν} {B : Nat} {w : World} (h : MapIn enc encv B f w) {k o : Nat} {v : Value} (hc : w.cell? ⟨k, o, none⟩ = some v) : k ≠ B := by
  obtain ⟨es, clock, hb, _⟩ := h
  intro e
  subst e
  simp [World.cell?, hb] at hc
theorem srcM {x : Value} {xs : List Bs} {w w' : World} {X : Nat → Prop} (h : Nm.SrcS x xs w) (hk : Kept X w w') (hX : ∀ k o v, w.cell? ⟨k, o, none⟩ = some v → ¬ X k) : Nm.SrcS x xs w' := by
  rcases h with ⟨b, o, c, rfl, hb, hc⟩ | h
  · exact .inl ⟨b, o, c, rfl, Nat.lt_of_lt_of_le hb hk.size, fun j u hu => hk.cell (hc j u hu) (hX b _ _ (hc j u hu))⟩
  · exact .inr h

section
variable {w0 : World} {T p B q N rp rB rq R W : Nat} {f f2 : StF} {g g2 : VwF} {w : World}

theorem KeepIn.offR (h : KeepIn w0 T p B q N rp rB rq R W f f2 g g2 w) (k o : Nat) (v : Value) (hc : w.cell? ⟨k, o, none⟩ = some v) : ¬ RW R W k := fun e => by
  rcases e with e | e
  · exact h.game.rv.r.offC hc e
  · exact h.game.rv.w.offC hc e

theorem kv_dis (h : KeepIn w0 T p B q N rp rB rq R W f f2 g g2 w) (d : Int) : Calls Try.prog 19 #[.pointer (some ⟨q, 0, none⟩), .int .i64 d] w
    fun e w' => e = .returned (.bool (isDirF f g d)) ∧ KeepIn w0 T p B q N rp rB rq R W f f2 (findT g d) g2 w' ∧ Kept (fun n => n = N) w w' := by
  refine (dis_w q N p B f g d w h.game.v h.game.s h.nB).mono ?_
  rintro e w1 ⟨rfl, hv, hk⟩
  exact ⟨rfl, h.putV hv hk, hk⟩

theorem kv_dfind (h : KeepIn w0 T p B q N rp rB rq R W f f2 g g2 w) (d : Int) (s : ByteArray) (hs : s.size ≤ 1000000) (hz : (findV f g d).s.size ≤ 100000) : Calls Try.prog 18 #[.pointer (some ⟨q, 0, none⟩), .int .i64 d, .string s] w
    fun e w' => e = .returned (foundV (foundE (dirE f g d) (bl s))) ∧ KeepIn w0 T p B q N rp rB rq R W f f2 (findT g d) g2 w' ∧ Kept (fun n => n = N) w w' := by
  refine (dfind_w q N p B f g d s hs w h.game.v h.game.s h.nB hz).mono ?_
  rintro e w1 ⟨rfl, hv, hk⟩
  exact ⟨rfl, h.putV hv hk, hk⟩

theorem kv_dadd (h : KeepIn w0 T p B q N rp rB rq R W f f2 g g2 w) (d : Int) (s : ByteArray) (hs : s.size ≤ 1000000) (i : Int) (hz : (findV f g d).s.size ≤ 100000) : Calls Try.prog 22 #[.pointer (some ⟨q, 0, none⟩), .int .i64 d, .string s, .int .i64 i] w
    fun e w' => e = .returned (.bool (addOk f g d (bl s) i)) ∧ KeepIn w0 T p B q N rp rB rq R W f f2 (addT f g d (bl s) i) g2 w' ∧ Kept (fun n => n = N) w w' := by
  refine (dadd_w q N p B f g d s hs i w h.game.v h.game.s h.nB hz).mono ?_
  rintro e w1 ⟨rfl, hv, hk⟩
  exact ⟨rfl, h.putV hv hk, hk⟩

theorem kv_dnames (h : KeepIn w0 T p B q N rp rB rq R W f f2 g g2 w) (d : Int) (hz : (findV f g d).s.size ≤ 100000) : Calls Try.prog 43 #[.pointer (some ⟨q, 0, none⟩), .int .i64 d] w
    fun e w' => ∃ v, e = .returned v ∧ Nm.SrcS v (namesE (dirE f g d)) w' ∧ KeepIn w0 T p B q N rp rB rq R W f f2 (findT g d) g2 w' ∧ Kept (fun n => n = N) w w' := by
  refine (dnames_w q N p B f g d w h.game.v h.game.s h.nB hz).mono ?_
  rintro e w1 ⟨v, rfl, ha, hv, hk⟩
  exact ⟨v, rfl, ha, h.putV hv hk, hk⟩

theorem kr_dis (h : KeepIn w0 T p B q N rp rB rq R W f f2 g g2 w) (d : Int) : Calls Try.prog 40 #[.pointer (some ⟨rq, 0, none⟩), .int .i64 d] w
    fun e w' => e = .returned (.bool (isDirF f2 g2 d)) ∧ KeepIn w0 T p B q N rp rB rq R W f f2 g (findT g2 d) w' ∧ Kept (RW R W) w w' := by
  refine (rdis_w h.both d).mono ?_
  rintro e w1 ⟨rfl, hb, hk⟩
  exact ⟨rfl, h.putX hb hk, hk⟩

theorem kr_dfind (h : KeepIn w0 T p B q N rp rB rq R W f f2 g g2 w) (d : Int) (s : ByteArray) (hs : s.size ≤ 1000000) (hz : (findV f2 g2 d).s.size ≤ 100000) : Calls Try.prog 32 #[.pointer (some ⟨rq, 0, none⟩), .int .i64 d, .string s] w
    fun e w' => e = .returned (foundV (foundE (dirE f2 g2 d) (bl s))) ∧ KeepIn w0 T p B q N rp rB rq R W f f2 g (findT g2 d) w' ∧ Kept (RW R W) w w' := by
  refine (rfind_w h.both d s hs hz).mono ?_
  rintro e w1 ⟨rfl, hb, hk⟩
  exact ⟨rfl, h.putX hb hk, hk⟩

/-- A block of cells is none of the views' maps. -/
theorem KeepIn.off {X : Nat} {c : Array Value} {t : TypeId} (h : KeepIn w0 T p B q N rp rB rq R W f f2 g g2 w) (hX : w.heap[X]? = some (.cells c t (0, 0))) : X ≠ N ∧ ¬ RW R W X ∧ X ≠ B ∧ X ≠ rB :=
  ⟨h.game.v.map.off hX, fun e => by rcases e with e | e; exact h.game.rv.r.off hX e; exact h.game.rv.w.off hX e, h.game.s.map.off hX, h.game.rs.map.off hX⟩
end
end Go.Proofs.Ythonlakpgncinaa
