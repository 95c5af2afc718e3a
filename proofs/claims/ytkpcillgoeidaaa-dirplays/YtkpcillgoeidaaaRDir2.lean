
/- What the reference's Find, Add, Remove, Names, Bare do when they are called; no conditions but lengths. -/
import Derived.Test.YtkpcillgoeidaaaRDir
namespace Go.Proofs.Ytkpcillgoeidaaa
open Go.RowKit
set_option maxRecDepth 100000
set_option linter.unusedSimpArgs false

theorem dir_val {f : StF} {g : VwF} {d : Int} (h : isDirF f g d = true) : vgetF f (findT g d) (10, d) = findV f g d ∧ vgetT (findT g d) (10, d) = findT g d ∧ dirE f g d = entsF (bl (findV f g d).s) ∧ isI f g d = true := by
  have hd : dirE f g d = entsF (bl (findV f g d).s) := by unfold dirE; rw [if_pos h]
  have hi : isI f g d = true := by
    unfold isDirF at h
    have : (findV f g d).n0 = 1 := by simpa using h
    unfold isI
    rw [this]; rfl
  obtain ⟨hx1, hx2⟩ := is_val hi
  exact ⟨by rw [hx2, get_get, hx1], by rw [hx2, (get_twice (f := f)).2], hd, hi⟩

theorem slot_found {l s : Bs} (hr : Nm.rightF s = true) : slotV l s = match foundE (entsF l) s with | some n => .tuple #[.int .i64 (((entsF l).findIdx (hasP s) * 16 : Nat) : Int), .int .i64 n] | none => .tuple #[.int .i64 (-1), .int .i64 0] := by
  have hne : s ≠ [] := by
    rintro rfl
    exact absurd hr (by decide)
  unfold slotV foundE
  rw [slot_has hne, ents_len]
  by_cases h : (entsF l).findIdx (hasP s) < nEnt l
  · rw [if_pos h, if_pos h, if_pos ⟨hr, h⟩]
  · rw [if_neg h, if_neg h, if_neg (fun x => h x.2)]
theorem slot_free (l : Bs) : ∃ n, slotV l [] = .tuple #[.int .i64 (if gapA (entsF l) < nEnt l then ((gapA (entsF l) * 16 : Nat) : Int) else -1), .int .i64 n] := by
  unfold slotV
  rw [slot_gap]
  exact ⟨_, rfl⟩

theorem write_16 {f : StF} {g : VwF} {d : Int} {k : Nat} {pk : ByteArray} (h : isI f g d = true) (hk : k < 8) (hs : k * 16 ≤ (findV f g d).s.size) (hp : pk.size = 16) : wrOk f (findT g d) d ((k * 16 : Nat) : Int) = true ∧ writeA f (findT g d) d ((k * 16 : Nat) : Int) pk = 16 := by
  have hok : wrOk f (findT g d) d ((k * 16 : Nat) : Int) = true := by
    unfold wrOk isI
    rw [find_find]
    unfold isI at h
    rw [h, decide_eq_true (by omega), decide_eq_true (by omega), decide_eq_true (by omega)]
    rfl
  refine ⟨hok, ?_⟩
  unfold writeA
  rw [if_pos hok, cutD_size, Int.toNat_natCast, hp, Nat.min_eq_right (by omega)]
  rfl
theorem pack_16 (s : Bs) (i : Int) : (bs (Nm.packF s i)).size = 16 := by rw [bs_size, Nm.pack_len]

theorem rfind_w {q R W p B : Nat} {f : StF} {g : VwF} {w : World} (h : RBoth q R W p B f g w) (d : Int) (s : ByteArray) (hs0 : s.size ≤ 1000000) (hsz : (findV f g d).s.size ≤ 100000) : Calls Try.prog 18 #[.pointer (some ⟨q, 0, none⟩), .int .i64 d, .string s] w
    fun e w' => e = .returned (foundV (foundE (dirE f g d) (bl s))) ∧ RBoth q R W p B f (findT g d) w' ∧ Kept (RW R W) w w' := by
  obtain ⟨fo, hfo⟩ : ∃ fo, foundE (dirE f g d) (bl s) = fo := ⟨_, rfl⟩
  rw [hfo]
  have HF : Hid (foundE (dirE f g d) (bl s) = fo) := hfo
  clear hfo
  go_enter Try.func18, Try.ntmps18
  go_wp2_with fail
  refine (rdis_w h d).mono ?_
  rintro e w1 ⟨rfl, hv1, hk1⟩
  cases hd : isDirF f g d with
  | false =>
    have HE : Hid (foundV fo = .tuple #[.int .i64 0, .bool false]) := by
      show _ = _
      rw [← HF.out, dirE_no hd]
      unfold foundE
      rw [if_neg (by simp)]
      rfl
    have HZ : Hid (RBoth q R W p B f (findT g d) w1 ∧ Kept (RW R W) w w1) := ⟨hv1, hk1⟩
    clear hv1 hk1 h
    go_wp2
    go_ret2
    exact ⟨by rw [HE.out]; rfl, HZ.out⟩
  | true =>
    obtain ⟨d1, d2, d3, d4⟩ := dir_val hd
    go_wp2_with fail
    refine (Nm.right_r s hs0 w1).mono ?_
    rintro e w1' ⟨rfl, hw⟩
    subst hw
    cases hr : Nm.rightF (bl s) with
    | false =>
      have HE : Hid (foundV fo = .tuple #[.int .i64 0, .bool false]) := by
        show _ = _
        rw [← HF.out]
        unfold foundE
        rw [hr, if_neg (by simp)]
        rfl
      have HZ : Hid (RBoth q R W p B f (findT g d) w1' ∧ Kept (RW R W) w w1') := ⟨hv1, hk1⟩
      clear hv1 hk1 h d1 d2 d3 d4
      go_wp2
      go_ret2
      exact ⟨by rw [HE.out]; rfl, HZ.out⟩
    | true =>
      have hsl := slot_found (l := bl (findV f g d).s) hr
      rw [← d3, HF.out] at hsl
      have S := rslot_w hv1 d s (by rw [d1]; omega)
      rw [d1, d2, hsl] at S
      clear d1 d2 d3 d4 hsl
      go_wp2_with fail
      cases fo with
      | none =>
        refine S.mono ?_
        rintro e w2 ⟨rfl, hv2, hk2⟩
        have HZ : Hid (RBoth q R W p B f (findT g d) w2 ∧ Kept (RW R W) w w2) := ⟨hv2, hk1.trans hk2 (fun _ _ e => e)⟩
        clear hv2 hk2 hv1 hk1 h S
        go_wp2
        go_ret2
        exact ⟨rfl, HZ.out⟩
      | some n =>
        generalize (dirE f g d).findIdx (hasP (bl s)) * 16 = J at S
        refine S.mono ?_
        rintro e w2 ⟨rfl, hv2, hk2⟩
        have HZ : Hid (RBoth q R W p B f (findT g d) w2 ∧ Kept (RW R W) w w2) := ⟨hv2, hk1.trans hk2 (fun _ _ e => e)⟩
        have t1 : (0 : Int) ≤ J := by omega
        clear hv2 hk2 hv1 hk1 h S
        go_wp2
        go_ret2
        exact ⟨rfl, HZ.out⟩

set_option maxHeartbeats 1000000 in
theorem rremove_w {q R W p B : Nat} {f : StF} {g : VwF} {w : World} (h : RBoth q R W p B f g w) (d : Int) (s : ByteArray) (hs0 : s.size ≤ 1000000) (hsz : (findV f g d).s.size ≤ 100000) : Calls Try.prog 16 #[.pointer (some ⟨q, 0, none⟩), .int .i64 d, .string s] w
    fun e w' => e = .returned (.bool (foundE (dirE f g d) (bl s)).isSome) ∧ RBoth q R W p B f (rmT f g d (bl s)) w' ∧ Kept (RW R W) w w' := by
  have HR : Hid (rmT f g d (bl s) = if (foundE (dirE f g d) (bl s)).isSome = true then writeT f (findT g d) d (((dirE f g d).findIdx (hasP (bl s)) * 16 : Nat) : Int) (bs (Nm.packF [] 0)) else findT g d) := rfl
  have F := rfind_w h d s hs0 hsz
  obtain ⟨fo, hfo⟩ : ∃ fo, foundE (dirE f g d) (bl s) = fo := ⟨_, rfl⟩
  rw [hfo] at HR F ⊢
  go_enter Try.func16, Try.ntmps16
  go_wp2_with fail
  refine F.mono ?_
  rintro e w1 ⟨rfl, hv1, hk1⟩
  cases fo with
  | none =>
    have HZ : Hid (RBoth q R W p B f (rmT f g d (bl s)) w1 ∧ Kept (RW R W) w w1) := ⟨by rw [HR.out]; exact hv1, hk1⟩
    clear hv1 hk1 h F hfo
    unfold foundV
    go_wp2
    go_ret
    exact ⟨rfl, HZ.out⟩
  | some n =>
    obtain ⟨hp, hlt, -, hr⟩ := place_yes hfo
    have hd : isDirF f g d = true := by
      cases hd : isDirF f g d with
      | true => rfl
      | false => rw [dirE_no hd] at hlt; simp at hlt
    obtain ⟨d1, d2, d3, d4⟩ := dir_val hd
    have hsl := slot_found (l := bl (findV f g d).s) hr
    rw [← d3, hfo] at hsl
    have S := rslot_w hv1 d s (by rw [d1]; omega)
    rw [d1, d2, hsl] at S
    have hL := dirE_le f g d
    have hsz2 : (dirE f g d).length = nEnt (bl (findV f g d).s) := by rw [d3, ents_len]
    have hb : nEnt (bl (findV f g d).s) * 16 ≤ (findV f g d).s.size := by unfold nEnt; rw [bl_len]; omega
    rw [if_pos (show (some n).isSome = true from rfl)] at HR
    generalize (dirE f g d).findIdx (hasP (bl s)) = K at *
    obtain ⟨-, hwr⟩ := write_16 (f := f) (g := g) (d := d) (k := K) (pk := bs (Nm.packF [] 0)) d4 (by omega) (by omega) (pack_16 _ _)
    obtain ⟨J, hJ⟩ : ∃ J : Int, ((K * 16 : Nat) : Int) = J := ⟨_, rfl⟩
    obtain ⟨t, ht⟩ : ∃ t, bs (Nm.packF [] 0) = t := ⟨_, rfl⟩
    have P := Nm.pack_r ⟨#[]⟩ 0
    rw [show bl (⟨#[]⟩ : ByteArray) = [] from rfl, ht] at P
    simp only [hJ] at S
    rw [hJ, ht] at HR hwr
    clear d1 d2 d3 d4 hsl hp hlt hd hfo hL hsz2 hb hJ ht h F
    unfold foundV
    go_wp2_with fail
    refine S.mono ?_
    rintro e w2 ⟨rfl, hv2, hk2⟩
    clear S
    go_wp2_with fail
    refine (P _).mono ?_
    rintro e w3 ⟨rfl, hk3⟩
    go_wp2_with fail
    refine (rwrite_w (hv2.still hk3) d J t (by rw [find_find]; exact hsz)).mono ?_
    rintro e w4 ⟨rfl, hv4, hk4⟩
    have HZ : Hid (RBoth q R W p B f (rmT f g d (bl s)) w4 ∧ Kept (RW R W) w w4) := ⟨by rw [HR.out]; exact hv4, ((hk1.trans hk2 (fun _ _ e => e)).trans hk3 (fun _ _ e => e.elim)).trans hk4 (fun _ _ e => e)⟩
    rw [hwr]
    clear hv4 hk4 hk3 hv2 hk2 hv1 hk1 P hwr
    go_wp2
    go_ret
    exact ⟨rfl, HZ.out⟩

theorem gap_at (l : Bs) (hl : l.length ≤ 1000000) (h8 : gapA (entsF l) < 8) : gapA (entsF l) * 16 ≤ l.length ∧ (¬ gapA (entsF l) < nEnt l → l.length / 16 = gapA (entsF l)) := by
  have hle : gapA (entsF l) ≤ (entsF l).length := List.findIdx_le_length
  rw [ents_len] at hle
  have e : nEnt l = min l.length 128 / 16 := rfl
  constructor
  · omega
  · intro h
    omega
theorem gap_full (l : Bs) (h8 : ¬ gapA (entsF l) < 8) : ¬ gapA (entsF l) < nEnt l ∧ 8 ≤ l.length / 16 := by
  have hle : gapA (entsF l) ≤ (entsF l).length := List.findIdx_le_length
  rw [ents_len] at hle
  have e : nEnt l = min l.length 128 / 16 := rfl
  constructor <;> omega

set_option maxHeartbeats 2000000 in
theorem radd_w {q R W p B : Nat} {f : StF} {g : VwF} {w : World} (h : RBoth q R W p B f g w) (d : Int) (s : ByteArray) (hs0 : s.size ≤ 1000000) (i : Int) (hsz : (findV f g d).s.size ≤ 100000) : Calls Try.prog 15 #[.pointer (some ⟨q, 0, none⟩), .int .i64 d, .string s, .int .i64 i] w
    fun e w' => e = .returned (.bool (addOk f g d (bl s) i)) ∧ RBoth q R W p B f (addT f g d (bl s) i) w' ∧ Kept (RW R W) w w' := by
  obtain ⟨ok, hok⟩ : ∃ ok, addOk f g d (bl s) i = ok := ⟨_, rfl⟩
  have HA : Hid (addT f g d (bl s) i = if ok = true then writeT f (findT g d) d ((gapA (dirE f g d) * 16 : Nat) : Int) (bs (Nm.packF (bl s) i)) else findT g d) := by show _ = _; unfold addT; rw [hok]
  have HO : Hid (ok = (isDirF f g d && Nm.rightF (bl s) && hereB i && (foundE (dirE f g d) (bl s)).isNone && decide (gapA (dirE f g d) < 8))) := by show _ = _; rw [← hok]; rfl
  rw [hok]
  clear hok
  go_enter Try.func15, Try.ntmps15
  go_wp2_with fail
  refine (rdis_w h d).mono ?_
  rintro r w1 ⟨rfl, hv1, hk1⟩
  have R0 := Nm.right_r s hs0 w1
  cases hd : isDirF f g d with
  | false =>
    have HZ : Hid (ok = false ∧ RBoth q R W p B f (addT f g d (bl s) i) w1 ∧ Kept (RW R W) w w1) := by
      have : ok = false := by rw [HO.out, hd]; rfl
      exact ⟨this, by rw [HA.out, this]; exact hv1, hk1⟩
    clear hv1 hk1 HO HA h R0
    go_wp2
    go_ret
    exact ⟨by rw [HZ.out.1]; rfl, HZ.out.2⟩
  | true =>
    go_wp2_with fail
    refine R0.mono ?_
    rintro r w1' ⟨rfl, hw⟩
    subst hw
    clear R0
    have HK1 : Hid (Kept (RW R W) w w1') := hk1
    clear hk1 h
    cases hr : Nm.rightF (bl s) with
    | false =>
      have HZ : Hid (ok = false ∧ RBoth q R W p B f (addT f g d (bl s) i) w1') := by
        have : ok = false := by rw [HO.out, hd, hr]; rfl
        exact ⟨this, by rw [HA.out, this]; exact hv1⟩
      clear hv1 HO HA
      go_wp2
      go_ret
      exact ⟨by rw [HZ.out.1]; rfl, HZ.out.2, HK1.out⟩
    | true =>
      cases hi : hereB i with
      | false =>
        have HZ : Hid (ok = false ∧ RBoth q R W p B f (addT f g d (bl s) i) w1') := by
          have : ok = false := by rw [HO.out, hd, hr, hi]; rfl
          exact ⟨this, by rw [HA.out, this]; exact hv1⟩
        by_cases i1 : i < 1
        · clear hv1 HO HA hi
          go_wp2
          go_ret
          exact ⟨by rw [HZ.out.1]; rfl, HZ.out.2, HK1.out⟩
        · have i2 : ¬ i < 16 := by intro x; rw [here_iff.2 ⟨by omega, x⟩] at hi; exact absurd hi (by simp)
          clear hv1 HO HA hi
          go_wp2
          go_ret
          exact ⟨by rw [HZ.out.1]; rfl, HZ.out.2, HK1.out⟩
      | true =>
        obtain ⟨i1, i2⟩ := here_iff.1 hi
        have HO2 : Hid (ok = ((foundE (dirE f g d) (bl s)).isNone && decide (gapA (dirE f g d) < 8))) := by show _ = _; rw [HO.out, hd, hr, hi]; rfl
        clear HO hi
        obtain ⟨d1, d2, d3, d4⟩ := dir_val hd
        have hsl := slot_found (l := bl (findV f g d).s) hr
        obtain ⟨n2, hs2⟩ := slot_free (bl (findV f g d).s)
        have G1 := gap_at (bl (findV f g d).s) (by rw [bl_len]; omega)
        have G2 := gap_full (bl (findV f g d).s)
        rw [← d3] at hsl hs2 G1 G2
        rw [bl_len] at G1 G2
        have S1 := rslot_w hv1 d s (by rw [d1]; omega)
        rw [d1, d2, hsl] at S1
        clear hsl hd hr d3
        go_wp2_with fail
        cases hf : foundE (dirE f g d) (bl s) with
        | some n =>
          rw [hf] at S1
          have HZ : Hid (ok = false ∧ (∀ w'', RBoth q R W p B f (findT g d) w'' → RBoth q R W p B f (addT f g d (bl s) i) w'')) := by
            have : ok = false := by rw [HO2.out, hf]; rfl
            exact ⟨this, fun w'' hh => by rw [HA.out, this]; exact hh⟩
          generalize (dirE f g d).findIdx (hasP (bl s)) * 16 = J at S1
          have t1 : (0 : Int) ≤ J := by omega
          refine S1.mono ?_
          rintro r w2 ⟨rfl, hv2, hk2⟩
          have HY : Hid (RBoth q R W p B f (findT g d) w2 ∧ Kept (RW R W) w w2) := ⟨hv2, HK1.out.trans hk2 (fun _ _ e => e)⟩
          clear hv2 hk2 S1 hv1 HO2 HA d1 d2 d4 hs2 G1 G2 hf
          go_wp2
          go_ret
          exact ⟨by rw [HZ.out.1]; rfl, HZ.out.2 _ HY.out.1, HY.out.2⟩
        | none =>
          rw [hf] at S1
          refine S1.mono ?_
          rintro r w2 ⟨rfl, hv2, hk2⟩
          have HK2 : Hid (Kept (RW R W) w w2) := HK1.out.trans hk2 (fun _ _ e => e)
          have S2 := rslot_w hv2 d ⟨#[]⟩ (by rw [d1]; omega)
          rw [d1, d2, show bl (⟨#[]⟩ : ByteArray) = [] from rfl, hs2] at S2
          have HO3 : Hid (ok = decide (gapA (dirE f g d) < 8)) := by show _ = _; rw [HO2.out, hf]; rfl
          obtain ⟨N8, hN8⟩ : ∃ N8, nEnt (bl (findV f g d).s) = N8 := ⟨_, rfl⟩
          obtain ⟨Z, hZ⟩ : ∃ Z, (findV f g d).s.size = Z := ⟨_, rfl⟩
          have hW := fun (k : Nat) (pk : ByteArray) (a : k < 8) (b : k * 16 ≤ Z) (c : pk.size = 16) => (write_16 (f := f) (g := g) (d := d) (k := k) (pk := pk) d4 a (by rw [hZ]; exact b) c).2
          generalize gapA (dirE f g d) = K at *
          rw [hN8] at S2 G1 G2
          rw [hZ] at G1 G2
          obtain ⟨t, ht⟩ : ∃ t, bs (Nm.packF (bl s) i) = t := ⟨_, rfl⟩
          have ht16 : t.size = 16 := by rw [← ht]; exact pack_16 _ _
          rw [ht] at HA
          have P := Nm.pack_r s i
          rw [ht] at P
          clear S1 hf hk2 hv1 HO2 HK1 d4 hs2 ht hN8
          go_wp2_with fail
          refine S2.mono ?_
          rintro r w3 ⟨rfl, hv3, hk3⟩
          have HK3 : Hid (Kept (RW R W) w w3) := HK2.out.trans hk3 (fun _ _ e => e)
          clear S2 hv2 hk3 HK2
          by_cases hK : K < N8
          · rw [if_pos hK]
            have hK8 : K < 8 := by
              by_cases x : K < 8
              · exact x
              · exact absurd hK (G2 x).1
            obtain ⟨g1, -⟩ := G1 hK8
            have hok : ok = true := by rw [HO3.out]; exact decide_eq_true hK8
            rw [hok, if_pos rfl] at HA
            have hw := hW K t hK8 g1 ht16
            obtain ⟨J, hJ⟩ : ∃ J : Int, ((K * 16 : Nat) : Int) = J := ⟨_, rfl⟩
            have t1 : ¬ J < 0 := by omega
            have t2 : J + 16 ≤ 128 := by omega
            rw [hJ] at HA hw ⊢
            clear hJ hW G1 G2 HO3 d1 d2
            go_wp2_with fail
            refine (P _).mono ?_
            rintro e w4 ⟨rfl, hk4⟩
            go_wp2_with fail
            refine (rwrite_w (hv3.still hk4) d J t (by rw [find_find, hZ]; omega)).mono ?_
            rintro e w5 ⟨rfl, hv5, hk5⟩
            rw [hw]
            have HZ : Hid (RBoth q R W p B f (addT f g d (bl s) i) w5 ∧ Kept (RW R W) w w5) := ⟨by rw [HA.out]; exact hv5, (HK3.out.trans hk4 (fun _ _ e => e.elim)).trans hk5 (fun _ _ e => e)⟩
            clear hv5 hk5 hk4 hv3 hw P
            go_wp2
            go_ret
            exact ⟨by rw [hok]; rfl, HZ.out⟩
          · rw [if_neg hK]
            go_wp2_with fail
            refine (rkey_w d _).mono ?_
            rintro e w4 ⟨rfl, hk4⟩
            go_wp2_with fail
            refine (rg_w (hv3.still hk4) 10 d).mono ?_
            rintro e w5 ⟨rfl, hv5, hk5⟩
            rw [d1]
            rw [d2] at hv5
            have HK5 : Hid (Kept (RW R W) w w5) := (HK3.out.trans hk4 (fun _ _ e => e.elim)).trans hk5 (fun _ _ e => e)
            have hsz0 := hsz
            have hfs := field_str (findV f g d) w5
            obtain ⟨y, hy⟩ : ∃ y, (findV f g d).s = y := ⟨_, rfl⟩
            rw [hy] at hfs hZ
            generalize findV f g d = x at hsz hfs hy
            clear d1 d2 hk4 hk5 hv3 HK3
            by_cases h8 : K < 8
            · obtain ⟨g1, g2⟩ := G1 h8
              have hok : ok = true := by rw [HO3.out]; exact decide_eq_true h8
              rw [hok, if_pos rfl] at HA
              have hw := hW K t h8 g1 ht16
              obtain ⟨J, hJ⟩ : ∃ J : Int, ((K * 16 : Nat) : Int) = J := ⟨_, rfl⟩
              have eJ : (Z : Int) / 16 * 16 = J := by have := g2 hK; omega
              have t2 : J + 16 ≤ 128 := by omega
              have t3 : 0 ≤ J := by omega
              rw [hJ] at HA hw
              clear hJ hW G1 G2 HO3
              go_wp2_with fail
              refine (P _).mono ?_
              rintro e w6 ⟨rfl, hk6⟩
              go_wp2_with fail
              refine (rwrite_w (hv5.still hk6) d J t (by rw [find_find]; exact hsz0)).mono ?_
              rintro e w7 ⟨rfl, hv7, hk7⟩
              rw [hw]
              have HZ : Hid (RBoth q R W p B f (addT f g d (bl s) i) w7 ∧ Kept (RW R W) w w7) := ⟨by rw [HA.out]; exact hv7, (HK5.out.trans hk6 (fun _ _ e => e.elim)).trans hk7 (fun _ _ e => e)⟩
              clear hv7 hk7 hk6 hv5 hw P
              go_wp2
              go_ret
              exact ⟨by rw [hok]; rfl, HZ.out⟩
            · have hok : ok = false := by rw [HO3.out]; exact decide_eq_false h8
              have g8 := (G2 h8).2
              have t1 : ¬ (Z : Int) / 16 * 16 + 16 ≤ 128 := by omega
              have HZ : Hid (RBoth q R W p B f (addT f g d (bl s) i) w5) := by show RBoth _ _ _ _ _ _ _ _; rw [HA.out, hok]; exact hv5
              have hb : Z ≤ 100000 := by rw [← hZ, ← hy]; exact hsz
              clear hW G1 G2 HO3 hv5 P HA
              go_wp2
              go_ret
              exact ⟨by rw [hok]; rfl, HZ.out, HK5.out⟩

set_option maxHeartbeats 1000000 in
theorem rnames_w {q R W p B : Nat} {f : StF} {g : VwF} {w : World} (h : RBoth q R W p B f g w) (d : Int) (hsz : (findV f g d).s.size ≤ 100000) : Calls Try.prog 21 #[.pointer (some ⟨q, 0, none⟩), .int .i64 d] w
    fun e w' => ∃ v, e = .returned v ∧ Nm.SrcS v (namesE (dirE f g d)) w' ∧ RBoth q R W p B f (findT g d) w' ∧ Kept (RW R W) w w' := by
  obtain ⟨es, hes⟩ : ∃ es, dirE f g d = es := ⟨_, rfl⟩
  rw [hes]
  go_enter Try.func21, Try.ntmps21
  go_wp2_with fail
  refine (rdis_w h d).mono ?_
  rintro r w1 ⟨rfl, hv1, hk1⟩
  cases hd : isDirF f g d with
  | false =>
    rw [dirE_no hd] at hes
    subst hes
    have HZ : Hid (RBoth q R W p B f (findT g d) w1 ∧ Kept (RW R W) w w1) := ⟨hv1, hk1⟩
    clear hv1 hk1 h
    go_wp2
    go_ret
    exact ⟨_, rfl, (Nm.OwnS.nil _).src, HZ.out⟩
  | true =>
    obtain ⟨d1, d2, d3, d4⟩ := dir_val hd
    rw [hes] at d3
    clear hes hd h
    go_wp2_with fail
    refine (rkey_w d _).mono ?_
    rintro e w2 ⟨rfl, hk2⟩
    go_wp2_with fail
    refine (rg_w (hv1.still hk2) 10 d).mono ?_
    rintro e w3 ⟨rfl, hv3, hk3⟩
    rw [d1]
    rw [d2] at hv3
    have HZ : Hid (RBoth q R W p B f (findT g d) w3 ∧ Kept (RW R W) w w3) := ⟨hv3, (hk1.trans hk2 (fun _ _ e => e.elim)).trans hk3 (fun _ _ e => e)⟩
    have hfs := field_str (findV f g d) w3
    generalize findV f g d = x at *
    clear d1 d2 d4 hk1 hk2 hk3 hv1 hv3
    obtain ⟨t, ht⟩ : ∃ t, x.s = t := ⟨_, rfl⟩
    rw [ht] at hsz hfs d3
    clear ht
    obtain ⟨l, hl⟩ : ∃ l, bl t = l := ⟨_, rfl⟩
    have HS : Hid (t.size = l.length) := by show _ = _; rw [← hl, bl_len]
    rw [hl] at d3
    obtain ⟨L, hL⟩ : ∃ L, nEnt l = L := ⟨_, rfl⟩
    have hL8 : L ≤ 8 := by rw [← hL]; exact nEnt_le l
    have H0 : Hid (Nm.OwnS w3 (.slice none 0 0) (namesE (es.take 0)) w3) := Nm.OwnS.nil w3
    have HE : Hid (es = entsF l) := d3
    clear d3
    go_wp2_with fail
    go_loopw [5, 7] (fun v y wr => ∃ i M : Nat, y = .int .i64 M ∧ Hid (M = i * 16) ∧ i ≤ L ∧ Hid (Nm.OwnS w3 v (namesE (es.take i)) wr)) (fun _ y _ => L * 16 - (intOf y).toNat)
    case atStart => exact ⟨0, 0, rfl, rfl, by omega, H0.out⟩
    case round =>
      obtain ⟨i, M, rfl, HM, hi, HI⟩ := hrel
      clear H0
      have hM := HM.out
      have hts := HS.out
      by_cases hlt : i < L
      · have g1 : M + 16 ≤ t.size := by unfold nEnt at hL; omega
        have g2 : M < 128 := by omega
        have g3 : M < L * 16 := by omega
        have t1 : (M : Int) + 16 ≤ t.size := by omega
        have t2 : (M : Int) < 128 := by omega
        obtain ⟨u, hu⟩ : ∃ u, t.extract M (M + 16) = u := ⟨_, rfl⟩
        have hul : bl u = slc l i := by
          rw [← hu, bl_extract, hl]
          unfold slc
          rw [hM, show i * 16 + 16 - i * 16 = 16 by omega]
        obtain ⟨e, he⟩ : ∃ e : E2, (Nm.nameF (bl u), Nm.ptrF (bl u)) = e := ⟨_, rfl⟩
        have hat : es[i]? = some e := by rw [HE.out, ents_at (by omega), ← he, hul]; rfl
        have hP := Nm.unpack_r u
        have h1 : Nm.nameF (bl u) = e.1 := by rw [← he]
        have h2 : Nm.ptrF (bl u) = e.2 := by rw [← he]
        rw [h1, h2] at hP
        have HN := names_next hat
        have hlen : Hid ((namesE (es.take i)).length ≤ 8) := by have := names_len (es.take i); rw [List.length_take] at this; show _ ≤ _; omega
        clear hul he h1 h2 hM hts hat
        go_wp2_with fail
        refine (hP wr).mono ?_
        rintro r w5 ⟨rfl, hk5⟩
        have HO2 := HI.out.still hk5
        clear hk5 HI hP hu g1 t1
        go_upto_region 9 with fail
        go_cut [44] from 19 to 48 (fun v wx => v = .bool (hereB e.2) ∧ wx = w5)
        case first =>
          clear HO2
          by_cases n1 : (1 : Int) ≤ e.2
          · by_cases n2 : e.2 < 16
            · have qh : hereB e.2 = true := here_iff.2 ⟨n1, n2⟩
              go_wp2
              go_meet
              case rel => exact ⟨by rw [qh], rfl⟩
            · have qh : hereB e.2 = false := by simp [hereB]; omega
              go_wp2
              go_meet
              case rel => exact ⟨by rw [qh], rfl⟩
          · have qh : hereB e.2 = false := by simp [hereB]; omega
            go_wp2
            go_meet
            case rel => exact ⟨by rw [qh], rfl⟩
        case rest =>
          obtain ⟨rfl, hwc⟩ := hcut
          subst hwc
          cases hz : hereB e.2 with
          | false =>
            rw [hz, if_neg (by simp), List.append_nil] at HN
            have HQ : Hid (Nm.OwnS w3 u5 (namesE (es.take (i + 1))) wc) := by show Nm.OwnS _ _ _ _; rw [HN]; exact HO2
            clear HN HO2
            go_wp2
            go_roundw
            case rel => exact ⟨i + 1, M + 16, by go_num, by show _ = _; rw [HM.out]; omega, by omega, HQ.out⟩
            case measure => simp [intOf]; omega
          | true =>
            rw [hz, if_pos rfl] at HN
            have HN2 : Hid (namesE (es.take (i + 1)) = namesE (es.take i) ++ [e.1]) := HN
            have HQ : Hid (Nm.OwnS w3 u5 (namesE (es.take i)) (wc.alloc (.cells #[.string (bs e.1)] 9))) := HO2.alloc _
            have HS2 : Hid (Nm.SrcS (.slice (some ⟨wc.heap.size, 0, none⟩) 1 1) [e.1] (wc.alloc (.cells #[.string (bs e.1)] 9))) := Nm.SrcS.row (l := [e.1]) (alloc_at _ _) (by simp [Nm.strs]) 1
            clear HN HO2
            go_wp2_with (at_builtin; refine Nm.list_app rfl _ _ rfl w3 (namesE (es.take i)) [e.1] HQ.out HS2.out (by have := hlen.out; simp; omega) ?_; intro v w4 h4 _)
            have HQ4 : Hid (Nm.OwnS w3 v (namesE (es.take (i + 1))) w4) := by show Nm.OwnS _ _ _ _; rw [HN2.out]; exact h4
            clear h4 HQ HS2 HN2
            go_wp2
            go_roundw
            case rel => exact ⟨i + 1, M + 16, by go_num, by show _ = _; rw [HM.out]; omega, by omega, HQ4.out⟩
            case measure => simp [intOf]; omega
      · obtain rfl : i = L := by omega
        have HR : Hid (Nm.SrcS u5 (namesE es) wr ∧ RBoth q R W p B f (findT g d) wr ∧ Kept (RW R W) w wr) := by
          have := HI.out.src
          rw [List.take_of_length_le (by rw [HE.out, ents_len]; omega)] at this
          exact ⟨this, HZ.out.1.still HI.out.kept, HZ.out.2.trans HI.out.kept (fun _ _ e => e.elim)⟩
        clear HI HZ
        by_cases g1 : (M : Int) + 16 ≤ t.size
        · have g2 : ¬ (M : Int) < 128 := by unfold nEnt at hL; omega
          clear hM hts
          go_wp2
          go_ret
          exact ⟨_, rfl, HR.out⟩
        · have hM8 : M ≤ 128 := by omega
          clear hM hts
          go_wp2
          go_ret
          exact ⟨_, rfl, HR.out⟩

set_option maxHeartbeats 1000000 in
theorem rbare_w {q R W p B : Nat} {f : StF} {g : VwF} {w : World} (h : RBoth q R W p B f g w) (d : Int) (hsz : (findV f g d).s.size ≤ 100000) :
    Calls Try.prog 23 #[.pointer (some ⟨q, 0, none⟩), .int .i64 d] w
    fun e w' => e = .returned (.bool (bareE (dirE f g d))) ∧ RBoth q R W p B f (findT g d) w' ∧ Kept (RW R W) w w' := by
  have E := rnames_w h d hsz
  have hle := Nat.le_trans (names_len (dirE f g d)) (dirE_le f g d)
  rw [bare_is]
  obtain ⟨l, hl⟩ : ∃ l, namesE (dirE f g d) = l := ⟨_, rfl⟩
  rw [hl] at E hle ⊢
  clear hl
  obtain ⟨z, hz⟩ : ∃ z, l.all dotP = z := ⟨_, rfl⟩
  rw [hz]
  have HZ : Hid (z = l.all dotP) := hz.symm
  clear hz
  go_enter Try.func23, Try.ntmps23
  go_wp2_with fail
  refine E.mono ?_
  rintro r w1 ⟨v, rfl, hv, hv1, hk1⟩
  clear h E
  have HX : Hid (RBoth q R W p B f (findT g d) w1 ∧ Kept (RW R W) w w1) := ⟨hv1, hk1⟩
  clear hv1 hk1
  obtain ⟨ao, b, o, c, rfl, hao, hc⟩ := hv.form
  obtain ⟨L, hL⟩ : ∃ L, l.length = L := ⟨_, rfl⟩
  rw [hL] at hao hle hc ⊢
  have HC : Hid (∀ j, j < L → w1.cell? ⟨b, o + j, none⟩ = some (.string (bs (Nm.sd l j)))) := hc
  clear hv hc
  go_wp2_with fail
  go_loopw [11] (fun x wr => ∃ i : Nat, x = .int .i64 i ∧ i ≤ L ∧ wr = w1 ∧ Hid ((l.take i).all dotP = true)) (fun x _ => L - (intOf x).toNat)
  case atStart => exact ⟨0, rfl, by omega, rfl, rfl⟩
  case round =>
    obtain ⟨i, rfl, hi, rfl, HI⟩ := hrel
    by_cases hlt : i < L
    · have t1 : (i : Int) < L := by omega
      obtain rfl := hao (by omega)
      have c0 := HC.out i hlt
      have he := Nm.sd_get (l := l) (i := i) (by omega)
      have u : (bs (Nm.sd l i)).toList = Nm.sd l i := by rw [toList_bl, bl_bs]
      generalize Nm.sd l i = x at *
      have HN : Hid ((l.take (i + 1)).all dotP = dotP x) := by
        show _ = _
        rw [List.take_add_one, he, List.all_append, HI.out]
        simp
      by_cases x1 : x = [46]
      · have HP : Hid ((l.take (i + 1)).all dotP = true) := by show _ = _; rw [HN.out, x1]; rfl
        rw [x1] at u
        clear HN HI he
        go_wp2
        go_roundw
        case rel => exact ⟨i + 1, by go_num, by omega, trivial, HP.out⟩
        case measure => simp [intOf]; omega
      · by_cases x2 : x = [46, 46]
        · have HP : Hid ((l.take (i + 1)).all dotP = true) := by show _ = _; rw [HN.out, x2]; rfl
          rw [x2] at u
          clear HN HI he x1
          go_wp2
          go_roundw
          case rel => exact ⟨i + 1, by go_num, by omega, trivial, HP.out⟩
          case measure => simp [intOf]; omega
        · have HP : Hid (z = false) := by
            show _ = _
            rw [HZ.out]
            cases ha : l.all dotP with
            | false => rfl
            | true =>
              have := List.all_eq_true.1 ha x (List.mem_of_getElem? he)
              simp [dotP, x1, x2] at this
          have q1 : (x == [46]) = false := by simpa using x1
          have q2 : (x == [46, 46]) = false := by simpa using x2
          clear HN HI he x1 x2
          go_wp2
          go_ret
          exact ⟨by rw [HP.out]; rfl, HX.out⟩
    · obtain rfl : i = L := by omega
      have HP : Hid (z = true) := by
        show _ = _
        rw [HZ.out, ← HI.out, List.take_of_length_le (by omega)]
      clear HI HZ
      go_wp2
      go_ret
      exact ⟨by rw [HP.out]; rfl, HX.out⟩
end Go.Proofs.Ytkpcillgoeidaaa
