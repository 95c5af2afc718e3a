
/- Many files of one inode: what each call leaves, as plain functions; no conditions. -/
import Derived.Test.YtdgkhfhlbjpaoaaFiR
namespace Go.Proofs.Ytdgkhfhlbjpaoaa
open Go.RowKit
set_option maxRecDepth 100000
set_option linter.unusedSimpArgs false

theorem wrap_small {x : Int} (h : -1000 ≤ x) (h' : x ≤ 1000) : wrap64 x = x := by unfold wrap64; omega

/-- S tells which files are not open. -/
structure ManyF (S : Nat → Bool) (g : VwF) : Prop where
  tab : ∃ m : Nat, m < 65536 ∧ (vgetF f0 g (5, 0)).n0 = (m : Int) ∧ ∀ j, j < 12 → m.testBit j = !S j
  fil : ∀ i : Nat, i < 12 → S i = false → (vgetF f0 g (6, (i : Int))).n0 = 1 ∧ (vgetF f0 g (6, (i : Int))).n1 = 1 ∧ (vgetF f0 g (6, (i : Int))).n2 = 1
  is : isI f0 g 1 = true
  lk : (findV f0 g 1).n1 = 1

section
variable {S : Nat → Bool} {g g' : VwF}
theorem ManyF.same (h : ManyF S g) (hg : ∀ j, vgetF f0 g' j = vgetF f0 g j) : ManyF S g' := by
  have e : findV f0 g' 1 = findV f0 g 1 := find_eq (hg _)
  refine ⟨?_, fun i h1 h2 => ?_, ?_, ?_⟩
  · rw [hg]; exact h.tab
  · rw [hg]; exact h.fil i h1 h2
  · rw [is_eq e]; exact h.is
  · rw [e]; exact h.lk
theorem ManyF.op (h : ManyF S g) {i : Nat} (hi : i < 12) : isO f0 g (i : Int) = !S i := by
  obtain ⟨m, h1, h2, h3⟩ := h.tab
  rw [(isO_in (by omega)).1, ← h3 i hi]
  show hasB (vgetF f0 g (5, 0)).n0 _ = _
  rw [h2, hasB_nat]
theorem ManyF.at_ (h : ManyF S g) {k : Nat} (hk : k < 12) (h1 : S k = true) (h2 : ∀ j, j < k → S j = false) : opnA f0 g = (k : Int) := by
  refine freeF_at (by omega) (by omega) (fun j j1 j2 => ?_) ?_
  · have := h.op (i := j.toNat) (by omega)
    rw [show ((j.toNat : Nat) : Int) = j by omega, (isO_in (by omega)).1, h2 _ (by omega)] at this
    exact this
  · have := h.op (i := k) hk
    rw [(isO_in (by omega)).1, h1] at this
    exact this
theorem ManyF.open_ (h : ManyF S g) {k : Nat} (hk : k < 12) (h1 : S k = true) (h2 : ∀ j, j < k → S j = false) (mode : Int) : opnA f0 g = (k : Int) ∧ ManyF (fun j => if j = k then false else S j) (opnT f0 g 1 1 mode) := by
  have ha := h.at_ hk h1 h2
  have hget := opn_get (f := f0) (g := g) 1 1 mode (by rw [ha]; omega)
  rw [ha] at hget
  obtain ⟨m, m1, m2, m3⟩ := h.tab
  have e : findV f0 (opnT f0 g 1 1 mode) 1 = findV f0 g 1 := find_eq (by rw [hget, if_neg (key_ne (by decide) _ _), if_neg (key_ne (by decide) _ _)])
  refine ⟨ha, ?_, fun i i1 i2 => ?_, ?_, ?_⟩
  · obtain ⟨o1, o2⟩ := or_nat m1 (show k < 16 by omega)
    refine ⟨m ||| 2 ^ k, o2, ?_, fun j hj => ?_⟩
    · rw [hget, if_neg (key_ne (by decide) _ _), if_pos rfl]
      show orN (vgetF f0 g (5, 0)).n0 k = _
      rw [m2, o1]
    · rw [Nat.testBit_or, m3 j hj, Nat.testBit_two_pow]
      by_cases c : j = k
      · subst c; simp
      · have : ¬ k = j := fun x => c x.symm
        simp [c, this]
  · by_cases c : i = k
    · subst c
      rw [hget, if_pos rfl]
      exact ⟨rfl, rfl, rfl⟩
    · rw [hget, if_neg (key_ne2 (by omega) _ _), if_neg (key_ne (by decide) _ _)]
      exact h.fil i i1 (by simpa [c] using i2)
  · rw [is_eq e]; exact h.is
  · rw [e]; exact h.lk
theorem ManyF.full (h : ManyF S g) (h2 : ∀ j, j < 12 → S j = false) (mode : Int) : opnA f0 g = 12 ∧ ManyF S (opnT f0 g 1 1 mode) := by
  have ha : opnA f0 g = 12 := freeF_none (fun j j1 j2 => by
    have := h.op (i := j.toNat) (by omega)
    rw [show ((j.toNat : Nat) : Int) = j by omega, (isO_in (by omega)).1, h2 _ (by omega)] at this
    exact this)
  refine ⟨ha, h.same fun j => ?_⟩
  rw [opn_full _ _ _ (by rw [ha]; omega)]
  exact get_get
theorem ManyF.change (h : ManyF S g) (b : Int) : ManyF S (changeT f0 g 1 0 b) := by
  have hw : (chgV (findV f0 g 1) 0 b).n1 = 1 := by
    show wrap64 ((findV f0 g 1).n1 + 0) = 1
    rw [h.lk]; decide +kernel
  have hf := change_find (f := f0) (g := g) 0 b h.is 1
  rw [if_pos rfl, if_pos (.inl (by rw [hw]; decide))] at hf
  refine ⟨?_, fun i h1 h2 => ?_, ?_, ?_⟩
  · rw [change_off _ _ _ (key_ne (by decide) _ _) (key_ne (by decide) _ _)]; exact h.tab
  · rw [change_off _ _ _ (key_ne (by decide) _ _) (key_ne (by decide) _ _)]; exact h.fil i h1 h2
  · show decide ((findV f0 (changeT f0 g 1 0 b) 1).n0 ≠ 0) = true
    rw [hf]
    exact h.is
  · rw [hf]; exact hw
theorem ManyF.look (h : ManyF S g) (i : Int) : ManyF S (isOT g i) := h.same fun j => get_isOT i j
theorem ManyF.close (h : ManyF S g) {i : Nat} (hi : i < 12) (h1 : S i = false) : ManyF (fun j => if j = i then true else S j) (clsT f0 g (i : Int)) := by
  have hO : isO f0 g (i : Int) = true := by rw [h.op hi, h1]; rfl
  obtain ⟨v0, v1, v2⟩ := h.fil i hi h1
  have hn : ¬ 0 < (cls1 (filV f0 g (i : Int))).n1 := by
    show ¬ 0 < wrap64 ((vgetF f0 g (6, (i : Int))).n1 - 1)
    rw [v1]; decide +kernel
  obtain ⟨e1, e2⟩ := cls_goes hO hn
  rw [e1]
  have e3 : relT f0 (shutT f0 (lkT g (i : Int)) (i : Int)) (cls1 (filV f0 g (i : Int))) = changeT f0 (shutT f0 (lkT g (i : Int)) (i : Int)) 1 0 (-1) := by
    unfold relT
    rw [if_pos (show (cls1 (filV f0 g (i : Int))).n0 = 1 from v0), show (cls1 (filV f0 g (i : Int))).n2 = 1 from v2]
  rw [e3]
  refine ManyF.change ?_ _
  obtain ⟨m, m1, m2, m3⟩ := h.tab
  have e : findV f0 (shutT f0 (lkT g (i : Int)) (i : Int)) 1 = findV f0 g 1 := find_eq (by rw [e2, if_neg (key_ne (by decide) _ _), if_neg (key_ne (by decide) _ _)])
  refine ⟨?_, fun k k1 k2 => ?_, ?_, ?_⟩
  · obtain ⟨m', o1, o2, o3⟩ := clr_nat m1 (show i < 16 by omega)
    refine ⟨m', o2, ?_, fun j hj => ?_⟩
    · rw [e2, if_pos rfl]
      show clrN (vgetF f0 g (5, 0)).n0 i = _
      rw [m2, o1]
    · rw [o3, m3 j hj]
      by_cases c : j = i
      · subst c; simp
      · simp [c]
  · have c : ¬ k = i := fun x => by simp [x] at k2
    rw [e2, if_neg (key_ne (by decide) _ _), if_neg (key_ne2 (by omega) _ _)]
    exact h.fil k k1 (by simpa [c] using k2)
  · rw [is_eq e]; exact h.is
  · rw [e]; exact h.lk
theorem ManyF.gone (h : ManyF S g) {i : Nat} (hi : i < 12) (h1 : S i = true) : isO f0 g (i : Int) = false ∧ ManyF S (clsT f0 g (i : Int)) ∧ ManyF S (dupT f0 g (i : Int)) := by
  have hO : isO f0 g (i : Int) = false := by rw [h.op hi, h1]; rfl
  refine ⟨hO, ?_, ?_⟩
  · rw [cls_no hO]; exact h.look _
  · rw [dup_no hO]; exact h.look _
/-- What is no file. -/
theorem odd_file {i : Int} (hi : ¬ (0 ≤ i ∧ i < 12)) (n : Int) : isO f0 g i = false ∧ frd f0 g i n = ⟨ByteArray.empty, 1, g⟩ ∧ fst f0 g i = ⟨0, 0, 0, 0, false, g⟩ ∧ clsT f0 g i = g := by
  obtain ⟨e1, e2⟩ := isO_out (f := f0) (g := g) hi
  refine ⟨e1, ?_, ?_, ?_⟩
  · unfold frd; rw [if_neg (by rw [e1]; simp), e2]
  · unfold fst; rw [if_neg (by rw [e1]; simp), e2]
  · rw [cls_no e1, e2]
end

def m1 : VwF := allocT f0 g0 2
theorem many0 : isI f0 m1 1 = true ∧ ManyF (fun _ => true) (changeT f0 m1 1 1 0) := by
  have e1 : isI f0 m1 1 = true := by decide +kernel
  refine ⟨e1, ⟨0, by decide, by decide +kernel, fun j hj => by simp⟩, fun i _ h => by simp at h, by decide +kernel, by decide +kernel⟩
end Go.Proofs.Ytdgkhfhlbjpaoaa
