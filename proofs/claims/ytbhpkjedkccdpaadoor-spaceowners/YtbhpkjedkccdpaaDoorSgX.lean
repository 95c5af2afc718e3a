
/- Pages beyond what there is, below nought, or of nobody are refused, and nothing changes; whatever code does what space does. -/
import Derived.Test.YtbhpkjedkccdpaaDoorSgR
namespace Go.Proofs.YtbhpkjedkccdpaaDoor
open Go.RowKit
set_option maxRecDepth 100000
set_option linter.unusedSimpArgs false

theorem pool_mem (n i : Int) : (meV (fP n) (gP n) i).s.size ≤ 104 ∧ (prV (fP n) (gP n) i).s.size ≤ 194 := by
  constructor
  · show (vgetF (fP n) (gP n) (12, i)).s.size ≤ 104
    rw [pool_g2, if_neg (key_ne (by decide) _ _), if_neg (key_ne (by decide) _ _), if_neg (key_ne (by decide) _ _), if_neg (key_ne (by decide) _ _)]
    decide
  · show (vgetF (fP n) (gP n) (4, i)).s.size ≤ 194
    rw [pool_g2]
    by_cases c1 : ((4, i) : K2) = (4, 1)
    · rw [if_pos c1]; show ByteArray.empty.size ≤ 194; decide
    · rw [if_neg c1, if_neg (key_ne (by decide) _ _)]
      by_cases c2 : ((4, i) : K2) = (4, 0)
      · rw [if_pos c2]; show ByteArray.empty.size ≤ 194; decide
      · rw [if_neg c2, if_neg (key_ne (by decide) _ _)]; show ByteArray.empty.size ≤ 194; decide
/-- What is seen as at first. -/
def Seen (n : Int) (g : VwF) : Prop := ∀ j, vgetF (fP n) g j = vgetF (fP n) (gP n) j
section
variable {n : Int} {g : VwF}
theorem Seen.v (h : Seen n g) : SpV (fP n) n (fun _ => []) [] g := (pool_v n).same h
theorem Seen.mem (h : Seen n g) (i : Int) : (meV (fP n) g i).s.size ≤ 104 ∧ (prV (fP n) g i).s.size ≤ 194 := by
  have := pool_mem n i
  unfold meV prV
  rw [h, h]; exact this
theorem Seen.cnt (h : Seen n g) : cntB (poV (fP n) g).n0 = cntB n := by
  show cntB (vgetF (fP n) g (2, 0)).n0 = _
  rw [h, pool_g2, if_neg (by decide), if_neg (by decide), if_neg (by decide), if_pos rfl]; rfl
theorem Seen.other (h : Seen n g) {i : Int} (hi : ¬ (0 ≤ i ∧ i < 2)) : isR (fP n) g i = false := by rw [sees_isR h]; exact pool_other n hi
theorem Seen.free (h : Seen n g) : Seen n (vgetT g (2, 0)) := fun j => by rw [get_get]; exact h j
theorem Seen.no (h : Seen n g) {i m : Int} (hg : grOk (fP n) g i m = false) : Seen n (grT (fP n) g i m) := fun j => by rw [gr_no hg]; exact h j
theorem Seen.sno (h : Seen n g) {i m : Int} (hg : shOk (fP n) g i m = false) : Seen n (shT (fP n) g i m) := fun j => by rw [sh_no hg]; exact h j
theorem Seen.much (h : Seen n g) {k : Nat} (hk : cntB n < k ∨ 6 < k) : grOk (fP n) g 0 (k : Int) = false := by
  have := h.v.may (p := 0) (by omega) (n := k)
  rw [h.cnt] at this
  rw [show grOk (fP n) g 0 (k : Int) = grOk (fP n) g ((0 : Nat) : Int) (k : Int) from rfl, this]
  rcases hk with c | c
  · rw [decide_eq_false (by omega)]; rfl
  · rw [decide_eq_false (show ¬ k + ([] : List Nat).length ≤ 6 by simp; omega)]; simp
theorem gr_low {f : StF} {i m : Int} (hm : m < 0) : grOk f g i m = false := by unfold grOk grMay spIn; rw [decide_eq_false (by omega : ¬ 0 ≤ m)]; simp
theorem sh_low {f : StF} {i m : Int} (hm : m < 0) : shOk f g i m = false := by unfold shOk spIn; rw [decide_eq_false (by omega : ¬ 0 ≤ m)]; simp
theorem gr_none {f : StF} {i m : Int} (h : isR f g i = false) : grOk f g i m = false := by unfold grOk grMay spIn; rw [h]; rfl
theorem sh_none {f : StF} {i m : Int} (h : isR f g i = false) : shOk f g i m = false := by unfold shOk spIn; rw [h]; rfl
end

set_option maxHeartbeats 2000000 in
theorem refuses_of (S : SpaceDoes) (a0 a1 a2 : Int) (w : World) (ht : TabIn w) : Calls Tryd.prog 7 #[.int .i64 a0, .int .i64 a1, .int .i64 a2] w fun e w' => e = .returned (.bool true) ∧ Kept (fun _ => False) w w' := by
  have HT : Hid (TabIn w) := ht
  clear ht
  go_enter Tryd.func7, Tryd.ntmps7
  go_wp2_with fail
  refine (within_any a0 0 5 (by omega) (by omega) (by omega) w).mono ?_
  rintro e w0 ⟨rfl, hw⟩
  subst hw
  obtain ⟨k, hk1, hk2⟩ : ∃ k : Nat, (k : Int) = 0 + a0 % (5 - 0 + 1) ∧ k ≤ 5 := ⟨(0 + a0 % (5 - 0 + 1)).toNat, by omega, by omega⟩
  rw [← hk1]
  clear hk1
  have k0 : (0 : Int) ≤ (k : Int) := by omega
  have k64 : (k : Int) ≤ 64 := by omega
  have hk5 : (k : Int) ≤ 5 := by omega
  have hpw : wrap64 (2 ^ k) = 2 ^ k ∧ wrap64 (2 ^ k - 1) = 2 ^ k - 1 := by
    obtain rfl | rfl | rfl | rfl | rfl | rfl : k = 0 ∨ k = 1 ∨ k = 2 ∨ k = 3 ∨ k = 4 ∨ k = 5 := by omega
    all_goals exact ⟨by decide +kernel, by decide +kernel⟩
  obtain ⟨hp1, hp2⟩ := hpw
  have hc := cnt_ones k hk2
  go_wp2_with fail
  obtain ⟨n, hn⟩ : ∃ n, (2 : Int) ^ k - 1 = n := ⟨_, rfl⟩
  rw [hn] at hc ⊢
  clear hp1 hp2 hn
  refine (pool_w n w0 HT.out).mono ?_
  rintro e w1 ⟨T, p, B, q, N, rfl, h1⟩
  have s1 : Seen n (gP n) := fun j => rfl
  have c1 := h1.t
  go_wp2_with fail
  refine (S.free h1).mono ?_
  rintro e w2 ⟨rfl, h2, -⟩
  rw [s1.cnt, hc]
  have s2 := s1.free
  clear h1 c1 s1
  generalize vgetT (gP n) (2, 0) = g2 at *
  go_wp2_with fail
  refine (S.grow h2 0 ((k : Int) + 1) (s2.mem 0).1 (s2.mem 0).2).mono ?_
  rintro e w3 ⟨rfl, h3, -⟩
  have e3 : grOk (fP n) g2 0 ((k : Int) + 1) = false := s2.much (k := k + 1) (.inl (by omega))
  rw [e3]
  have s3 := s2.no e3
  clear h2 s2 e3
  generalize grT (fP n) g2 0 ((k : Int) + 1) = g3 at *
  go_wp2_with fail
  refine (S.grow h3 0 7 (s3.mem 0).1 (s3.mem 0).2).mono ?_
  rintro e w4 ⟨rfl, h4, -⟩
  have e4 : grOk (fP n) g3 0 7 = false := s3.much (k := 7) (.inr (by omega))
  rw [e4]
  have s4 := s3.no e4
  clear h3 s3 e4
  generalize grT (fP n) g3 0 7 = g4 at *
  go_wp2_with fail
  refine (within_any a1 0 9 (by omega) (by omega) (by omega) w4).mono ?_
  rintro e w5 ⟨rfl, hw⟩
  subst hw
  obtain ⟨x, hx, hx1, hx2⟩ : ∃ x : Int, x = 0 + a1 % (9 - 0 + 1) ∧ 0 ≤ x ∧ x ≤ 9 := ⟨_, rfl, by omega, by omega⟩
  rw [← hx]
  have HX : Hid (x = 0 + a1 % (9 - 0 + 1)) := hx
  clear hx
  go_wp2_with fail
  refine (S.grow h4 0 (-1 - x) (s4.mem 0).1 (s4.mem 0).2).mono ?_
  rintro e w6 ⟨rfl, h6, -⟩
  have e6 : grOk (fP n) g4 0 (-1 - x) = false := gr_low (by omega)
  rw [e6]
  have s6 := s4.no e6
  clear h4 s4 e6
  generalize grT (fP n) g4 0 (-1 - x) = g6 at *
  go_wp2_with fail
  refine (within_any a2 0 20 (by omega) (by omega) (by omega) w6).mono ?_
  rintro e w7 ⟨rfl, hw⟩
  subst hw
  obtain ⟨y, hy, hy1, hy2⟩ : ∃ y : Int, y = 0 + a2 % (20 - 0 + 1) ∧ 0 ≤ y ∧ y ≤ 20 := ⟨_, rfl, by omega, by omega⟩
  rw [← hy]
  clear hy
  go_wp2_with fail
  refine (S.grow h6 (2 + y) 1 (s6.mem _).1 (s6.mem _).2).mono ?_
  rintro e w8 ⟨rfl, h8, -⟩
  have e8 : grOk (fP n) g6 (2 + y) 1 = false := gr_none (s6.other (by omega))
  rw [e8]
  have s8 := s6.no e8
  clear h6 s6 e8
  generalize grT (fP n) g6 (2 + y) 1 = g8 at *
  go_wp2_with fail
  refine (S.shrink h8 0 1 (by omega)).mono ?_
  rintro e w9 ⟨v9, rfl, -, -, h9, -⟩
  have e9 : shOk (fP n) g8 0 1 = false := by
    have := s8.v.shrinks (p := 0) (by omega) (n := 1)
    rw [show shOk (fP n) g8 0 1 = shOk (fP n) g8 ((0 : Nat) : Int) ((1 : Nat) : Int) from rfl, this]; rfl
  rw [e9]
  have s9 := s8.sno e9
  clear h8 s8 e9
  generalize shT (fP n) g8 0 1 = g9 at *
  go_wp2_with fail
  refine (within_any a1 0 9 (by omega) (by omega) (by omega) w9).mono ?_
  rintro e w10 ⟨rfl, hw⟩
  subst hw
  rw [← HX.out]
  go_wp2_with fail
  refine (S.shrink h9 0 (-1 - x) (by omega)).mono ?_
  rintro e w11 ⟨v11, rfl, -, -, h11, -⟩
  have e11 : shOk (fP n) g9 0 (-1 - x) = false := sh_low (by omega)
  rw [e11]
  have s11 := s9.sno e11
  clear h9 s9 e11
  generalize shT (fP n) g9 0 (-1 - x) = g11 at *
  go_wp2_with fail
  refine (S.shrink h11 5 0 (by omega)).mono ?_
  rintro e w12 ⟨v12, rfl, -, -, h12, -⟩
  have e12 : shOk (fP n) g11 5 0 = false := sh_none (s11.other (by omega))
  rw [e12]
  have s12 := s11.sno e12
  clear h11 s11 e12
  generalize shT (fP n) g11 5 0 = g12 at *
  go_wp2_with fail
  refine (S.shrink h12 0 0 (by omega)).mono ?_
  rintro e w13 ⟨v13, rfl, x13, -, h13, -⟩
  have e13 : shOk (fP n) g12 0 0 = true := by
    have := s12.v.shrinks (p := 0) (by omega) (n := 0)
    rw [show shOk (fP n) g12 0 0 = shOk (fP n) g12 ((0 : Nat) : Int) ((0 : Nat) : Int) from rfl, this]; rfl
  have l13 : shL (fP n) g12 0 0 = [] := by
    unfold shL
    rw [if_pos e13]
    have := (s12.v.gone (p := 0) (by omega) 0).1
    rw [show goneN (prV (fP n) g12 0) 0 = goneN (prV (fP n) g12 ((0 : Nat) : Int)) ((0 : Nat) : Int) from rfl, this]; rfl
  rw [e13]
  rw [l13] at x13
  have v13' : SpV (fP n) n (fun _ => []) [] (shT (fP n) g12 0 0) := (s12.v.shrink (p := 0) (by omega) (n := 0) (by simp)).like (by unfold upn; simp) (by unfold upn; simp) (by simp)
  have n13 : cntB (poV (fP n) (shT (fP n) g12 0 0)).n0 = k := by rw [sh_n0, s12.cnt, hc]
  clear h12 s12 e13 l13
  generalize shT (fP n) g12 0 0 = g13 at *
  obtain ⟨ao, bb, oo, cc, hv13, -, -⟩ : ∃ (ao : Option Addr) (b o c : Nat), v13 = .slice ao 0 c ∧ True ∧ True := by
    rcases x13.form with ⟨b, o, c, e⟩ | ⟨e, -⟩
    · exact ⟨_, b, o, c, e, trivial, trivial⟩
    · exact ⟨none, 0, 0, 0, e, trivial, trivial⟩
  subst hv13
  clear x13
  go_wp2_with fail
  refine (S.free h13).mono ?_
  rintro e w14 ⟨rfl, h14, -⟩
  rw [n13]
  have v14 : SpV (fP n) n (fun _ => []) [] (vgetT g13 (2, 0)) := v13'.same (fun j => get_get)
  have n14 : cntB (poV (fP n) (vgetT g13 (2, 0))).n0 = k := by rw [show poV (fP n) (vgetT g13 (2, 0)) = poV (fP n) g13 from get_get]; exact n13
  clear h13 v13' n13
  generalize vgetT g13 (2, 0) = g14 at *
  go_wp2_with fail
  refine (S.pages h14 0).mono ?_
  rintro e w15 ⟨v15, rfl, x15, -, h15, -⟩
  have l15 : pgL (fP n) g14 0 = [] := v14.pages (p := 0) (by omega)
  rw [l15] at x15
  have v15' : SpV (fP n) n (fun _ => []) [] (pgT (fP n) g14 0) := v14.same (get_pgT 0)
  have n15 : cntB (poV (fP n) (pgT (fP n) g14 0)).n0 = k := by rw [show poV (fP n) (pgT (fP n) g14 0) = poV (fP n) g14 from get_pgT 0 _]; exact n14
  clear h14 v14 n14 l15
  generalize pgT (fP n) g14 0 = g15 at *
  obtain ⟨a5, c5, hv15⟩ : ∃ (ao : Option Addr) (c : Nat), v15 = .slice ao 0 c := by
    rcases x15.form with ⟨b, o, c, e⟩ | ⟨e, -⟩
    · exact ⟨_, c, e⟩
    · exact ⟨none, 0, e⟩
  subst hv15
  clear x15
  go_wp2_with fail
  refine (S.grow h15 0 (k : Int) (v15'.mem (p := 0) (by omega)).1 (v15'.mem (p := 0) (by omega)).2).mono ?_
  rintro e w16 ⟨rfl, h16, -⟩
  have e16 : grOk (fP n) g15 0 (k : Int) = true := by
    have := v15'.may (p := 0) (by omega) (n := k)
    rw [show grOk (fP n) g15 0 (k : Int) = grOk (fP n) g15 ((0 : Nat) : Int) (k : Int) from rfl, this, n15, decide_eq_true (Nat.le_refl _), decide_eq_true (show k + ([] : List Nat).length ≤ 6 by simp; omega)]; rfl
  have n16 : cntB (poV (fP n) (grT (fP n) g15 0 (k : Int))).n0 = 0 := by
    have := v15'.grow_n0 (p := 0) (by omega) (n := k) (by omega) (by simp; omega)
    rw [n15] at this
    rw [show grT (fP n) g15 0 (k : Int) = grT (fP n) g15 ((0 : Nat) : Int) (k : Int) from rfl]
    omega
  rw [e16]
  clear h15 v15' n15 e16
  generalize grT (fP n) g15 0 (k : Int) = g16 at *
  go_wp2_with fail
  refine (S.free h16).mono ?_
  rintro e w17 ⟨rfl, h17, -⟩
  rw [n16]
  have HK : Hid (Kept (fun _ => False) w0 w17) := h17.kept
  clear h16 n16 h17
  go_wp2_with fail
  refine (runs_of S w17 (HT.out.still HK.out)).mono ?_
  rintro e w18 ⟨rfl, k18⟩
  have HZ : Hid (Kept (fun _ => False) w0 w18) := HK.out.thru k18
  clear HK k18
  go_wp2_with fail
  go_ret
  exact ⟨rfl, HZ.out⟩
end Go.Proofs.YtbhpkjedkccdpaaDoor
