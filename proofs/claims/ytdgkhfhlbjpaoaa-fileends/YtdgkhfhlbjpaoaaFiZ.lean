
/- The two files of a pipe, a file of the console: what each call leaves, as plain functions; no conditions but lengths. -/
import Derived.Test.YtdgkhfhlbjpaoaaFiR
namespace Go.Proofs.Ytdgkhfhlbjpaoaa
open Go.RowKit
set_option maxRecDepth 100000
set_option linter.unusedSimpArgs false

/-- An end of pipe 0: its kind, mode; a pipe: readers, writers, bytes. -/
def eV (c m : Int) : V := ⟨c, 1, 0, 0, m, 0, 0, 0, 0, 0, 0, 0, 0, 0, 0, 0, ByteArray.empty⟩
def pV (r w : Int) (s : ByteArray) : V := ⟨r, w, 0, 0, 0, 0, 0, 0, 0, 0, 0, 0, 0, 0, 0, 0, s⟩

section
variable {f : StF} {g : VwF}
theorem pip_lk (i q : Int) : pipV f (lkT g i) q = pipV f g q ∧ isP f (lkT g i) q = isP f g q := ⟨get_lk i _, isP_eq (get_lk i _) q⟩
theorem prd_lk (i q n : Int) : prdS f (lkT g i) q n = prdS f g q n ∧ prdK f (lkT g i) q n = prdK f g q n := by
  unfold prdS prdK prdOk
  rw [(pip_lk i q).1, (pip_lk i q).2]
  exact ⟨rfl, rfl⟩
theorem pwr_lk (i q : Int) (d : ByteArray) : pwrA f (lkT g i) q d = pwrA f g q d ∧ pwrK f (lkT g i) q d = pwrK f g q d := by
  unfold pwrA pwrK
  rw [(pip_lk i q).1, (pip_lk i q).2]
  exact ⟨rfl, rfl⟩
theorem read_no {i n c m : Int} (hO : isO f g i = true) (hx : filV f g i = eV c m) (hm : hasB m 0 = false) (hn : 0 ≤ n) : frd f g i n = ⟨ByteArray.empty, 1, lkT g i⟩ := by
  unfold frd
  rw [if_pos ⟨hO, hn⟩, hx, if_neg (show ¬ hasB (eV c m).n4 0 = true from by rw [show (eV c m).n4 = m from rfl, hm]; decide)]
theorem fwr_no {i c m : Int} (d : ByteArray) (hO : isO f g i = true) (hx : filV f g i = eV c m) (hm : hasB m 1 = false) : fwr f g i d = ⟨-1, 1, lkT g i⟩ := by
  unfold fwr
  rw [if_pos hO, hx, if_neg (show ¬ hasB (eV c m).n4 1 = true from by rw [show (eV c m).n4 = m from rfl, hm]; decide)]
theorem read_end {i n m : Int} (hO : isO f g i = true) (hx : filV f g i = eV 2 m) (hm : hasB m 0 = true) (hn : 0 ≤ n) : frd f g i n = ⟨prdS f g 0 n, prdK f g 0 n, prdT f (lkT g i) 0 n⟩ := by
  unfold frd
  rw [if_pos ⟨hO, hn⟩, hx, if_pos (show hasB (eV 2 m).n4 0 = true from hm), if_pos (show (eV 2 m).n0 = 2 from rfl)]
  show (⟨prdS f (lkT g i) 0 n, prdK f (lkT g i) 0 n, _⟩ : RdO) = _
  rw [(prd_lk i 0 n).1, (prd_lk i 0 n).2]
  rfl
theorem write_end {i m : Int} (d : ByteArray) (hO : isO f g i = true) (hx : filV f g i = eV 3 m) (hm : hasB m 1 = true) : fwr f g i d = ⟨pwrA f g 0 d, pwrK f g 0 d, pwrT f (lkT g i) 0 d⟩ := by
  unfold fwr
  rw [if_pos hO, hx, if_pos (show hasB (eV 3 m).n4 1 = true from hm), if_pos (show (eV 3 m).n0 = 3 from rfl)]
  show (⟨pwrA f (lkT g i) 0 d, pwrK f (lkT g i) 0 d, _⟩ : WrO) = _
  rw [(pwr_lk i 0 d).1, (pwr_lk i 0 d).2]
  rfl
end

structure PE (w : Int) (s : ByteArray) (g : VwF) : Prop where
  tab : (vgetF f0 g (5, 0)).n0 = if w = 1 then 3 else 1
  fr : vgetF f0 g (6, 0) = eV 2 1
  fw : w = 1 → vgetF f0 g (6, 1) = eV 3 2
  pt : (vgetF f0 g (7, 0)).n0 = 1
  pp : vgetF f0 g (8, 0) = pV 1 w s
  co : vgetF f0 g (11, 0) = zeroV
  it : (vgetF f0 g (9, 0)).n0 = 0

section
variable {w : Int} {s : ByteArray} {g g' : VwF}
theorem PE.same (h : PE w s g) (hg : ∀ j, vgetF f0 g' j = vgetF f0 g j) : PE w s g' :=
  ⟨by rw [hg]; exact h.tab, by rw [hg]; exact h.fr, by rw [hg]; exact h.fw, by rw [hg]; exact h.pt, by rw [hg]; exact h.pp, by rw [hg]; exact h.co, by rw [hg]; exact h.it⟩
/-- The pipe's bytes turn, and no more. -/
theorem PE.turn {s' : ByteArray} (h : PE w s g) (hg : ∀ j : K2, j ≠ (8, 0) → vgetF f0 g' j = vgetF f0 g j) (hp : vgetF f0 g' (8, 0) = pV 1 w s') : PE w s' g' :=
  ⟨by rw [hg _ (key_ne (by decide) _ _)]; exact h.tab, by rw [hg _ (key_ne (by decide) _ _)]; exact h.fr, by rw [hg _ (key_ne (by decide) _ _)]; exact h.fw, by rw [hg _ (key_ne (by decide) _ _)]; exact h.pt, hp,
    by rw [hg _ (key_ne (by decide) _ _)]; exact h.co, by rw [hg _ (key_ne (by decide) _ _)]; exact h.it⟩
theorem PE.isP (h : PE w s g) : isP f0 g 0 = true := by
  rw [(isP_in (by decide)).1]
  show hasB (vgetF f0 g (7, 0)).n0 0 = true
  rw [h.pt]; decide +kernel
theorem PE.o0 (h : PE w s g) : isO f0 g 0 = true := by
  rw [(isO_in (by decide)).1]
  show hasB (vgetF f0 g (5, 0)).n0 0 = true
  rw [h.tab]
  split <;> decide +kernel
theorem PE.o1 (h : PE 1 s g) : isO f0 g 1 = true := by
  rw [(isO_in (by decide)).1]
  show hasB (vgetF f0 g (5, 0)).n0 1 = true
  rw [h.tab]
  decide +kernel
theorem PE.write (h : PE 1 ByteArray.empty g) {d : ByteArray} (h1 : 1 ≤ d.size) (h2 : d.size ≤ 16) : wrV (fwr f0 g 1 d) = .tuple #[.int .i64 (d.size : Nat), .int .i64 0] ∧ PE 1 d (fwr f0 g 1 d).g := by
  have hp : pipV f0 g 0 = pV 1 1 ByteArray.empty := h.pp
  have hN : pwrN (pV 1 1 ByteArray.empty) d = d.size := by
    show min (16 - ByteArray.empty.size) d.size = d.size
    rw [show ByteArray.empty.size = 0 from rfl]; omega
  have e := write_end (f := f0) (g := g) d h.o1 (h.fw rfl) (by decide +kernel)
  have e1 : pwrA f0 g 0 d = (d.size : Nat) := by
    unfold pwrA
    rw [if_pos h.isP, hp, if_pos (show 0 < (pV 1 1 ByteArray.empty).n0 from by show (0 : Int) < 1; decide), if_neg (by omega), hN]
  have e2 : pwrK f0 g 0 d = 0 := by
    unfold pwrK
    rw [if_pos h.isP, hp, if_pos (show 0 < (pV 1 1 ByteArray.empty).n0 from by show (0 : Int) < 1; decide), if_pos (.inr (by show ByteArray.empty.size < 16; decide))]
  rw [e, e1, e2]
  refine ⟨rfl, ?_⟩
  refine h.turn (fun j hj => ?_) ?_
  · show vgetF f0 (pwrT f0 (lkT g 1) 0 d) j = _
    rw [pwr_off _ _ hj, get_lk]
  · have := pwr_pip (f := f0) (g := lkT g 1) 0 d 0
    rw [(pip_lk 1 0).1, (pip_lk 1 0).2, hp, if_pos ⟨rfl, h.isP, by
      unfold pwrGo
      rw [decide_eq_true (show 0 < (pV 1 1 ByteArray.empty).n0 from by show (0 : Int) < 1; decide), decide_eq_true (show d.size ≠ 0 by omega), decide_eq_true (show (pV 1 1 ByteArray.empty).s.size < 16 from by show ByteArray.empty.size < 16; decide)]
      rfl⟩] at this
    show pipV f0 (pwrT f0 (lkT g 1) 0 d) 0 = _
    rw [this]
    show pV 1 1 (moreS _ d) = _
    congr 1
    unfold moreS
    rw [hN]
    show bs (bl ByteArray.empty ++ (bl d).take d.size) = d
    rw [← bl_len, List.take_length, show bl ByteArray.empty = [] from rfl, List.nil_append, bs_bl]
theorem PE.read (h : PE w s g) {n : Nat} (h1 : s.size ≤ n) (h0 : 1 ≤ s.size) : rdV (frd f0 g 0 n) = .tuple #[.string s, .int .i64 0] ∧ PE w ByteArray.empty (frd f0 g 0 n).g := by
  have hp : pipV f0 g 0 = pV 1 w s := h.pp
  have hok : prdOk f0 g 0 n = true := by unfold prdOk; rw [h.isP, decide_eq_true (show (0 : Int) ≤ n by omega)]; rfl
  have e := read_end (f := f0) (g := g) (n := n) h.o0 h.fr (by decide +kernel) (by omega)
  have e1 : prdS f0 g 0 n = s := by
    unfold prdS
    rw [if_pos hok, hp]
    show bs ((bl s).take (n : Int).toNat) = s
    rw [Int.toNat_natCast, List.take_of_length_le (by rw [bl_len]; omega), bs_bl]
  have e2 : prdK f0 g 0 n = 0 := by
    unfold prdK
    rw [if_pos hok, hp, if_pos (.inr (.inl (by show s.size ≠ 0; omega)))]
  rw [e, e1, e2]
  refine ⟨rfl, ?_⟩
  refine h.turn (fun j hj => ?_) ?_
  · show vgetF f0 (prdT f0 (lkT g 0) 0 n) j = _
    rw [prd_off _ _ hj, get_lk]
  · have := prd_pip (f := f0) (g := lkT g 0) 0 n 0
    have hok' : prdOk f0 (lkT g 0) 0 n = true := by unfold prdOk; rw [(pip_lk 0 0).2, h.isP, decide_eq_true (show (0 : Int) ≤ n by omega)]; rfl
    rw [(pip_lk 0 0).1, hp, if_pos ⟨rfl, hok'⟩] at this
    show pipV f0 (prdT f0 (lkT g 0) 0 n) 0 = _
    rw [this]
    show pV 1 w (bs ((bl s).drop (n : Int).toNat)) = _
    rw [Int.toNat_natCast, List.drop_eq_nil_of_le (by rw [bl_len]; omega)]
    rfl
/-- A read of nothing. -/
theorem PE.wait (h : PE w ByteArray.empty g) : rdV (frd f0 g 0 1) = .tuple #[.string ⟨#[]⟩, .int .i64 (if w ≤ 0 then 0 else 2)] ∧ PE w ByteArray.empty (frd f0 g 0 1).g := by
  have hp : pipV f0 g 0 = pV 1 w ByteArray.empty := h.pp
  have hok : prdOk f0 g 0 1 = true := by unfold prdOk; rw [h.isP]; rfl
  have e := read_end (f := f0) (g := g) (n := 1) h.o0 h.fr (by decide +kernel) (by omega)
  have e1 : prdS f0 g 0 1 = ByteArray.empty := by
    unfold prdS
    rw [if_pos hok, hp]
    rfl
  have e2 : prdK f0 g 0 1 = if w ≤ 0 then 0 else 2 := by
    unfold prdK
    rw [if_pos hok, hp]
    show (if (1 : Int) = 0 ∨ ByteArray.empty.size ≠ 0 ∨ w ≤ 0 then (0 : Int) else 2) = _
    by_cases c : w ≤ 0
    · rw [if_pos c, if_pos (.inr (.inr c))]
    · rw [if_neg c, if_neg (by rw [show ByteArray.empty.size = 0 from rfl]; omega)]
  rw [e, e1, e2]
  refine ⟨rfl, h.turn (fun j hj => ?_) ?_⟩
  · show vgetF f0 (prdT f0 (lkT g 0) 0 1) j = _
    rw [prd_off _ _ hj, get_lk]
  · have := prd_pip (f := f0) (g := lkT g 0) 0 1 0
    have hok' : prdOk f0 (lkT g 0) 0 1 = true := by unfold prdOk; rw [(pip_lk 0 0).2, h.isP]; rfl
    rw [(pip_lk 0 0).1, hp, if_pos ⟨rfl, hok'⟩] at this
    show pipV f0 (prdT f0 (lkT g 0) 0 1) 0 = _
    rw [this]
    rfl
theorem PE.bad (h : PE 1 s g) : wrV (fwr f0 g 0 xtext) = .tuple #[.int .i64 (-1), .int .i64 1] ∧ PE 1 s (fwr f0 g 0 xtext).g := by
  have e := fwr_no (f := f0) (g := g) xtext h.o0 h.fr (by decide +kernel)
  rw [e]
  exact ⟨rfl, h.same fun j => get_lk 0 j⟩
theorem PE.odd (h : PE 1 s g) : rdV (frd f0 g 1 1) = .tuple #[.string ⟨#[]⟩, .int .i64 1] ∧ PE 1 s (frd f0 g 1 1).g := by
  have e := read_no (f := f0) (g := g) (n := 1) h.o1 (h.fw rfl) (by decide +kernel) (by omega)
  rw [e]
  exact ⟨rfl, h.same fun j => get_lk 1 j⟩
theorem PE.less (h : PE 1 ByteArray.empty g) : PE 0 ByteArray.empty (clsT f0 g 1) := by
  have hc : cls1 (filV f0 g 1) = ⟨3, 0, 0, 0, 2, 0, 0, 0, 0, 0, 0, 0, 0, 0, 0, 0, ByteArray.empty⟩ := by
    show cls1 (vgetF f0 g (6, 1)) = _
    rw [h.fw rfl]
    show (⟨3, wrap64 (1 - 1), 0, 0, 2, 0, 0, 0, 0, 0, 0, 0, 0, 0, 0, 0, ByteArray.empty⟩ : V) = _
    rw [show wrap64 (1 - 1) = 0 by decide +kernel]
  obtain ⟨e1, e2⟩ := cls_goes (f := f0) (g := g) (i := 1) h.o1 (by rw [hc]; show ¬ (0 : Int) < 0; decide)
  rw [e1, hc]
  show PE 0 ByteArray.empty (endT f0 (shutT f0 (lkT g 1) 1) 0 true (-1))
  generalize shutT f0 (lkT g 1) 1 = u at *
  have hP : Go.Proofs.Ytdgkhfhlbjpaoaa.isP f0 u 0 = true := by rw [isP_eq (show tabV f0 u = tabV f0 g from by show vgetF f0 u (7, 0) = _; rw [e2, if_neg (key_ne (by decide) _ _), if_neg (key_ne (by decide) _ _)]; rfl)]; exact h.isP
  have hp : pipV f0 u 0 = pV 1 1 ByteArray.empty := by show vgetF f0 u (8, 0) = _; rw [e2, if_neg (key_ne (by decide) _ _), if_neg (key_ne (by decide) _ _)]; exact h.pp
  have he : endV (pV 1 1 ByteArray.empty) true (-1) = pV 1 0 ByteArray.empty := by
    unfold endV
    rw [if_pos rfl]
    show (⟨1, wrap64 (1 + -1), 0, 0, 0, 0, 0, 0, 0, 0, 0, 0, 0, 0, 0, 0, ByteArray.empty⟩ : V) = _
    rw [show wrap64 (1 + -1) = 0 by decide +kernel]; rfl
  have hl : leftV (pV 1 0 ByteArray.empty) := .inl (by show (0 : Int) < 1; decide)
  have off : ∀ j : K2, j ≠ (8, 0) → j ≠ (7, 0) → j ≠ (5, 0) → j ≠ (6, 1) → vgetF f0 (endT f0 u 0 true (-1)) j = vgetF f0 g j := fun j j1 j2 j3 j4 => by
    rw [end_off _ _ _ j1 j2, e2, if_neg j3, if_neg j4]
  have ht := end_tab (f := f0) (g := u) 0 true (-1)
  have hq := end_pip (f := f0) (g := u) 0 true (-1) 0
  rw [hp, he, if_neg (fun c => c.2 hl)] at ht
  rw [hp, he, if_pos ⟨rfl, hP⟩, if_pos hl] at hq
  refine ⟨?_, by rw [off _ (key_ne (by decide) _ _) (key_ne (by decide) _ _) (key_ne (by decide) _ _) (key_ne2 (by decide) _ _)]; exact h.fr, fun c => absurd c (by decide), ?_, hq, by rw [off _ (key_ne (by decide) _ _) (key_ne (by decide) _ _) (key_ne (by decide) _ _) (key_ne (by decide) _ _)]; exact h.co,
    by rw [off _ (key_ne (by decide) _ _) (key_ne (by decide) _ _) (key_ne (by decide) _ _) (key_ne (by decide) _ _)]; exact h.it⟩
  · rw [end_off _ _ _ (key_ne (by decide) _ _) (key_ne (by decide) _ _), e2, if_pos rfl]
    show clrN (vgetF f0 g (5, 0)).n0 1 = 1
    rw [h.tab]; decide +kernel
  · show (tabV f0 (endT f0 u 0 true (-1))).n0 = 1
    rw [ht]
    show (vgetF f0 u (7, 0)).n0 = 1
    rw [e2, if_neg (key_ne (by decide) _ _), if_neg (key_ne (by decide) _ _)]; exact h.pt
end

/-- Nothing is open. -/
structure PN (g : VwF) : Prop where
  tab : (vgetF f0 g (5, 0)).n0 = 0
  pt : Go.Proofs.Ytdgkhfhlbjpaoaa.isP f0 g 0 = false
  co : vgetF f0 g (11, 0) = zeroV
  it : (vgetF f0 g (9, 0)).n0 = 0
section
variable {w : Int} {s : ByteArray} {g g' : VwF}
theorem PE.none (h : PE 0 ByteArray.empty g) : PN (clsT f0 g 0) := by
  have hc : cls1 (filV f0 g 0) = ⟨2, 0, 0, 0, 1, 0, 0, 0, 0, 0, 0, 0, 0, 0, 0, 0, ByteArray.empty⟩ := by
    show cls1 (vgetF f0 g (6, 0)) = _
    rw [h.fr]
    show (⟨2, wrap64 (1 - 1), 0, 0, 1, 0, 0, 0, 0, 0, 0, 0, 0, 0, 0, 0, ByteArray.empty⟩ : V) = _
    rw [show wrap64 (1 - 1) = 0 by decide +kernel]
  obtain ⟨e1, e2⟩ := cls_goes (f := f0) (g := g) (i := 0) h.o0 (by rw [hc]; show ¬ (0 : Int) < 0; decide)
  rw [e1, hc]
  show PN (endT f0 (shutT f0 (lkT g 0) 0) 0 false (-1))
  generalize shutT f0 (lkT g 0) 0 = u at *
  have hP : Go.Proofs.Ytdgkhfhlbjpaoaa.isP f0 u 0 = true := by rw [isP_eq (show tabV f0 u = tabV f0 g from by show vgetF f0 u (7, 0) = _; rw [e2, if_neg (key_ne (by decide) _ _), if_neg (key_ne (by decide) _ _)]; rfl)]; exact h.isP
  have hp : pipV f0 u 0 = pV 1 0 ByteArray.empty := by show vgetF f0 u (8, 0) = _; rw [e2, if_neg (key_ne (by decide) _ _), if_neg (key_ne (by decide) _ _)]; exact h.pp
  have he : endV (pV 1 0 ByteArray.empty) false (-1) = pV 0 0 ByteArray.empty := by
    unfold endV
    rw [if_neg (by decide)]
    show (⟨wrap64 (1 + -1), 0, 0, 0, 0, 0, 0, 0, 0, 0, 0, 0, 0, 0, 0, 0, ByteArray.empty⟩ : V) = _
    rw [show wrap64 (1 + -1) = 0 by decide +kernel]; rfl
  have hl : ¬ leftV (pV 0 0 ByteArray.empty) := by show ¬ ((0 : Int) < 0 ∨ (0 : Int) < 0); decide
  have off : ∀ j : K2, j ≠ (8, 0) → j ≠ (7, 0) → j ≠ (5, 0) → j ≠ (6, 0) → vgetF f0 (endT f0 u 0 false (-1)) j = vgetF f0 g j := fun j j1 j2 j3 j4 => by
    rw [end_off _ _ _ j1 j2, e2, if_neg j3, if_neg j4]
  have ht := end_tab (f := f0) (g := u) 0 false (-1)
  rw [hp, he, if_pos ⟨hP, hl⟩] at ht
  refine ⟨?_, ?_, by rw [off _ (key_ne (by decide) _ _) (key_ne (by decide) _ _) (key_ne (by decide) _ _) (key_ne (by decide) _ _)]; exact h.co, by rw [off _ (key_ne (by decide) _ _) (key_ne (by decide) _ _) (key_ne (by decide) _ _) (key_ne (by decide) _ _)]; exact h.it⟩
  · rw [end_off _ _ _ (key_ne (by decide) _ _) (key_ne (by decide) _ _), e2, if_pos rfl]
    show clrN (vgetF f0 g (5, 0)).n0 0 = 0
    rw [h.tab]; decide +kernel
  · rw [(isP_in (by decide)).1, ht]
    show hasB (clrN (vgetF f0 u (7, 0)).n0 0) 0 = false
    rw [e2, if_neg (key_ne (by decide) _ _), if_neg (key_ne (by decide) _ _), h.pt]
    decide +kernel
theorem PN.same (h : PN g) (hg : ∀ j, vgetF f0 g' j = vgetF f0 g j) : PN g' :=
  ⟨by rw [hg]; exact h.tab, by rw [isP_eq (hg _)]; exact h.pt, by rw [hg]; exact h.co, by rw [hg]; exact h.it⟩

/-- A file of the console is open. -/
structure PC (x : V) (g : VwF) : Prop where
  tab : (vgetF f0 g (5, 0)).n0 = 1
  fc : vgetF f0 g (6, 0) = ⟨1, 1, 1, 0, 3, 0, 0, 0, 0, 0, 0, 0, 0, 0, 0, 0, ByteArray.empty⟩
  ino : findV f0 g 1 = numV 3
  co : vgetF f0 g (11, 0) = x
theorem PN.alloc (h : PN g) : allocA f0 g = 1 ∧ opnA f0 (allocT f0 g 3) = 0 ∧ PC zeroV (opnT f0 (allocT f0 g 3) 1 1 3) := by
  have ha : allocA f0 g = 1 := by
    show freeN (vgetF f0 g (9, 0)).n0 = 1
    rw [h.it]; decide +kernel
  have hf := alloc_find (f := f0) (g := g) (typ := 3) (by decide) (by rw [ha]; decide) 1
  rw [ha, if_pos rfl] at hf
  have off : ∀ j : K2, j ≠ (10, 1) → j ≠ (9, 0) → vgetF f0 (allocT f0 g 3) j = vgetF f0 g j := fun j j1 j2 => allo_off 3 (by rw [ha]; exact j1) j2
  have ht : (vgetF f0 (allocT f0 g 3) (5, 0)).n0 = 0 := by rw [off _ (key_ne (by decide) _ _) (key_ne (by decide) _ _)]; exact h.tab
  have ho : opnA f0 (allocT f0 g 3) = 0 := by
    show freeF (vgetF f0 (allocT f0 g 3) (5, 0)).n0 = 0
    rw [ht]; decide +kernel
  have hg := opn_get (f := f0) (g := allocT f0 g 3) 1 1 3 (by rw [ho]; decide)
  rw [ho] at hg
  refine ⟨ha, ho, ⟨?_, by rw [hg, if_pos rfl]; rfl, ?_, ?_⟩⟩
  · rw [hg, if_neg (key_ne (by decide) _ _), if_pos rfl]
    show orN (vgetF f0 (allocT f0 g 3) (5, 0)).n0 0 = 1
    rw [ht]; decide +kernel
  · rw [find_eq (show _ = vgetF f0 (allocT f0 g 3) (10, 1) by rw [hg, if_neg (key_ne (by decide) _ _), if_neg (key_ne (by decide) _ _)])]; exact hf
  · rw [hg, if_neg (key_ne (by decide) _ _), if_neg (key_ne (by decide) _ _), off _ (key_ne (by decide) _ _) (key_ne (by decide) _ _)]; exact h.co
theorem PC.same {x : V} (h : PC x g) (hg : ∀ j, vgetF f0 g' j = vgetF f0 g j) : PC x g' :=
  ⟨by rw [hg]; exact h.tab, by rw [hg]; exact h.fc, by rw [find_eq (hg _)]; exact h.ino, by rw [hg]; exact h.co⟩
theorem PC.put {x : V} (h : PC x g) (y : V) : PC y (vputT g (11, 0) y) :=
  ⟨by rw [get_put_other plc_c11 (key_ne (by decide) _ _)]; exact h.tab, by rw [get_put_other plc_c11 (key_ne (by decide) _ _)]; exact h.fc, by rw [find_eq (get_put_other plc_c11 (key_ne (by decide) _ _))]; exact h.ino, get_put plc_c11⟩
theorem PC.o0 {x : V} (h : PC x g) : isO f0 g 0 = true ∧ isI f0 g 1 = true := by
  refine ⟨?_, by unfold isI; rw [h.ino]; rfl⟩
  rw [(isO_in (by decide)).1]
  show hasB (vgetF f0 g (5, 0)).n0 0 = true
  rw [h.tab]; decide +kernel
theorem PC.read {x : V} (h : PC x g) {n : Nat} (hn : 1 ≤ n) : rdV (frd f0 g 0 n) = .tuple #[.string (bs ((bl x.s).take n)), .int .i64 (if x.s.size = 0 then 2 else 0)] ∧ ∃ y : V, y.n0 = x.n0 ∧ PC y (frd f0 g 0 n).g := by
  have e : frd f0 g 0 n = coR f0 (findT (lkT g 0) 1) n := by
    unfold frd
    rw [if_pos ⟨h.o0.1, by omega⟩, show filV f0 g 0 = _ from h.fc, if_pos (by decide +kernel), if_neg (by decide), if_pos rfl]
    unfold inoR
    have e1 : findV f0 (lkT g 0) 1 = numV 3 := by rw [find_eq (get_lk 0 _)]; exact h.ino
    have e2 : isI f0 (lkT g 0) 1 = true := by unfold isI; rw [e1]; rfl
    rw [if_pos e2, if_pos (show (findV f0 (lkT g 0) 1).n0 = 3 from by rw [e1]; rfl)]
  have hc : conV f0 (findT (lkT g 0) 1) = x := by show vgetF f0 _ (11, 0) = x; rw [get_findT, get_lk]; exact h.co
  have h2 : PC x (findT (lkT g 0) 1) := h.same fun j => by rw [get_findT, get_lk]
  rw [e]
  generalize findT (lkT g 0) 1 = u at *
  unfold coR
  rw [if_pos (show (0 : Int) < n by omega), hc, Int.toNat_natCast]
  by_cases c : x.s.size = 0
  · rw [if_neg (by omega), if_pos c]
    refine ⟨?_, x, rfl, h2.same (g' := vgetT u (11, 0)) fun j => get_get⟩
    have : bl x.s = [] := List.eq_nil_of_length_eq_zero (by rw [bl_len]; exact c)
    rw [this, List.take_nil]; rfl
  · rw [if_pos c, if_neg c]
    refine ⟨rfl, _, ?_, (h2.same (g' := vgetT u (11, 0)) fun j => get_get).put _⟩
    rfl
theorem con_n0 (x : V) (d : Bs) (hx : 0 ≤ x.n0) (hd : x.n0 + d.length ≤ 1000) : (conW x d).n0 = x.n0 + d.length := by
  unfold conW
  induction d generalizing x with
  | nil => show x.n0 = x.n0 + ((0 : Nat) : Int); omega
  | cons b d ih =>
    rw [List.length_cons] at hd
    have e : (con1 x b).n0 = x.n0 + 1 := by show wrap64 (x.n0 + 1) = _; unfold wrap64; omega
    show (d.foldl con1 (con1 x b)).n0 = _
    rw [ih _ (by omega) (by omega), e, List.length_cons]
    omega
theorem PC.write {x : V} (h : PC x g) {d : ByteArray} (hx : x.n0 = 0) (hd : d.size ≤ 200) : wrV (fwr f0 g 0 d) = .tuple #[.int .i64 (d.size : Nat), .int .i64 0] ∧ (vgetF f0 (fwr f0 g 0 d).g (11, 0)).n0 = (d.size : Nat) := by
  have e : fwr f0 g 0 d = ⟨(d.size : Nat), 0, coT f0 (findT (lkT g 0) 1) d⟩ := by
    unfold fwr
    rw [if_pos h.o0.1, show filV f0 g 0 = _ from h.fc, if_pos (by decide +kernel), if_neg (by decide), if_pos rfl]
    unfold inoW
    have e1 : findV f0 (lkT g 0) 1 = numV 3 := by rw [find_eq (get_lk 0 _)]; exact h.ino
    have e2 : isI f0 (lkT g 0) 1 = true := by unfold isI; rw [e1]; rfl
    rw [if_pos e2, if_pos (show (findV f0 (lkT g 0) 1).n0 = 3 from by rw [e1]; rfl)]
  have hc : conV f0 (findT (lkT g 0) 1) = x := by show vgetF f0 _ (11, 0) = x; rw [get_findT, get_lk]; exact h.co
  rw [e]
  refine ⟨rfl, ?_⟩
  show (vgetF f0 (vputT _ (11, 0) (conW (conV f0 _) (bl d))) (11, 0)).n0 = _
  rw [get_put plc_c11, hc, con_n0 _ _ (by omega) (by rw [bl_len]; omega), bl_len, hx]
  omega
end

def z1 : VwF := palT f0 g0
def z2 : VwF := opnT f0 z1 2 0 1
def z3 : VwF := opnT f0 z2 3 0 2
theorem ends0 : palA f0 g0 = 0 ∧ opnA f0 z1 = 0 ∧ opnA f0 z2 = 1 ∧ PE 1 ByteArray.empty z3 := by
  refine ⟨by decide +kernel, by decide +kernel, by decide +kernel, ⟨by decide +kernel, by kernel_rfl, fun _ => by kernel_rfl, by decide +kernel, by kernel_rfl, by kernel_rfl, by decide +kernel⟩⟩
end Go.Proofs.Ytdgkhfhlbjpaoaa
