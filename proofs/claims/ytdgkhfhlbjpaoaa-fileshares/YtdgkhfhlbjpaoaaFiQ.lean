
/- Two files of one inode: what each call leaves, as plain functions; no conditions. -/
import Derived.Test.YtdgkhfhlbjpaoaaFiR
namespace Go.Proofs.Ytdgkhfhlbjpaoaa
open Go.RowKit
set_option maxRecDepth 100000
set_option linter.unusedSimpArgs false

theorem wrap_few {x : Int} (h : -1000 ≤ x) (h' : x ≤ 1000) : wrap64 x = x := by unfold wrap64; omega

/-- A file of an inode: its holders, inode, offset, mode; an inode of a file: its holders, bytes. -/
def fV (n i a m : Int) : V := ⟨1, n, i, a, m, 0, 0, 0, 0, 0, 0, 0, 0, 0, 0, 0, ByteArray.empty⟩
def iV (h : Int) (o : ByteArray) : V := ⟨2, 0, h, 0, 0, 0, 0, 0, 0, 0, 0, 0, 0, 0, 0, 0, o⟩

section
variable {f : StF} {g : VwF}
theorem is_lk (i j : Int) : isI f (lkT g i) j = isI f g j ∧ findV f (lkT g i) j = findV f g j := by
  have e : findV f (lkT g i) j = findV f g j := find_eq (get_lk i _)
  exact ⟨is_eq e, e⟩
theorem write_lk (i j off : Int) (d : ByteArray) : writeA f (lkT g i) j off d = writeA f g j off d ∧ wrOk f (lkT g i) j off = wrOk f g j off := by
  unfold writeA wrOk
  rw [(is_lk i j).1, (is_lk i j).2]
  exact ⟨rfl, rfl⟩
/-- A read of a file of an inode that is no device. -/
theorem read_file {i n a m k : Int} {v : V} (hO : isO f g i = true) (hx : filV f g i = fV k 1 a m) (hm : hasB m 0 = true) (hv : findV f g 1 = v) (v0 : v.n0 = 2) (hn : 0 ≤ n) :
    frd f g i n = ⟨partF v.s a n, 0, vputT (findT (lkT g i) 1) (6, i) (fV k 1 (wrap64 (a + ((partF v.s a n).size : Nat))) m)⟩ ∧
    (∀ j, vgetF f (frd f g i n).g j = if j = (6, i) then fV k 1 (wrap64 (a + ((partF v.s a n).size : Nat))) m else vgetF f g j) := by
  obtain ⟨r1, r2⟩ := isO_range hO
  have hi : isI f g 1 = true := by unfold isI; rw [hv, v0]; rfl
  have e : frd f g i n = ⟨partF v.s a n, 0, vputT (findT (lkT g i) 1) (6, i) (fV k 1 (wrap64 (a + ((partF v.s a n).size : Nat))) m)⟩ := by
    unfold frd
    rw [if_pos ⟨hO, hn⟩, hx, if_pos (show hasB (fV k 1 a m).n4 0 = true from hm), if_neg (show ¬ (fV k 1 a m).n0 = 2 from by show ¬ (1 : Int) = 2; decide), if_pos (show (fV k 1 a m).n0 = 1 from rfl)]
    unfold inoR
    rw [if_pos (show isI f (lkT g i) (fV k 1 a m).n2 = true from by rw [(is_lk i _).1]; exact hi), (is_lk i _).2, show findV f g (fV k 1 a m).n2 = v from hv, if_neg (show ¬ v.n0 = 3 from by rw [v0]; decide)]
    rfl
  refine ⟨e, fun j => ?_⟩
  rw [e]
  show vgetF f (vputT _ _ _) j = _
  rw [get_putX (plc_f6 r1 r2), get_findT, get_lk]
/-- A write. -/
theorem write_file {i a m k : Int} {d : ByteArray} {v : V} (hO : isO f g i = true) (hx : filV f g i = fV k 1 a m) (hm : hasB m 1 = true) (hv : findV f g 1 = v) (v0 : v.n0 = 2) (w0 : 0 ≤ a) (w1 : a ≤ 128) (w2 : a ≤ v.s.size) :
    ((cutD d a.toNat).size = 0 ∧ d.size ≠ 0 → fwr f g i d = ⟨-1, 1, writeT f (lkT g i) 1 a d⟩) ∧
    (¬ ((cutD d a.toNat).size = 0 ∧ d.size ≠ 0) → fwr f g i d = ⟨((cutD d a.toNat).size : Nat), 0, vputT (writeT f (lkT g i) 1 a d) (6, i) (fV k 1 (wrap64 (a + ((cutD d a.toNat).size : Nat))) m)⟩) ∧
    findV f (writeT f (lkT g i) 1 a d) 1 = withS v (overF v.s a.toNat (cutD d a.toNat)) ∧ (∀ j : K2, j ≠ (10, 1) → vgetF f (writeT f (lkT g i) 1 a d) j = vgetF f g j) := by
  obtain ⟨r1, r2⟩ := isO_range hO
  have hi : isI f g 1 = true := by unfold isI; rw [hv, v0]; rfl
  have hk : wrOk f g 1 a = true := by
    unfold wrOk
    rw [hi, hv, decide_eq_true w0, decide_eq_true w1, decide_eq_true w2]; rfl
  have ha : writeA f g 1 a d = ((cutD d a.toNat).size : Int) := by unfold writeA; rw [if_pos hk]
  have e : fwr f g i d = if writeA f g 1 a d < 0 ∨ (writeA f g 1 a d = 0 ∧ d.size ≠ 0) then ⟨-1, 1, writeT f (lkT g i) 1 a d⟩ else ⟨writeA f g 1 a d, 0, vputT (writeT f (lkT g i) 1 a d) (6, i) (fV k 1 (wrap64 (a + writeA f g 1 a d)) m)⟩ := by
    unfold fwr
    rw [if_pos hO, hx, if_pos (show hasB (fV k 1 a m).n4 1 = true from hm), if_neg (show ¬ (fV k 1 a m).n0 = 3 from by show ¬ (1 : Int) = 3; decide), if_pos (show (fV k 1 a m).n0 = 1 from rfl)]
    unfold inoW
    rw [if_pos (show isI f (lkT g i) (fV k 1 a m).n2 = true from by rw [(is_lk i _).1]; exact hi), (is_lk i _).2, show findV f g (fV k 1 a m).n2 = v from hv, if_neg (show ¬ v.n0 = 3 from by rw [v0]; decide), (write_lk i _ _ d).1]
    rfl
  rw [ha] at e
  refine ⟨fun h => ?_, fun h => ?_, ?_, fun j hj => ?_⟩
  · rw [e, if_pos (.inr ⟨by rw [h.1]; rfl, h.2⟩)]
  · rw [e, if_neg (by omega)]
  · rw [write_find d (by rw [(write_lk i _ _ d).2]; exact hk), if_pos rfl, (is_lk i _).2, hv]
  · rw [write_off _ _ _ hj, get_lk]
end

theorem part_cut {o : ByteArray} {a m : Nat} (h : a ≤ o.size) (hm : 1 ≤ m) : partF o (a : Int) (m : Int) = o.extract a (min o.size (a + m)) ∧ (partF o (a : Int) (m : Int)).size = min m (o.size - a) := by
  unfold partF
  rw [if_pos ⟨by omega, by omega⟩]
  simp only [Int.toNat_natCast]
  refine ⟨?_, ?_⟩
  · rw [extract_bs]
    congr 1
    rw [List.take_eq_take_iff, List.length_drop, bl_len]
    omega
  · rw [bs_size, List.length_take, List.length_drop, bl_len]
theorem over_none {o e : ByteArray} (a : Nat) (h : e.size = 0) : overF o a e = o := by
  unfold overF
  have : bl e = [] := List.eq_nil_of_length_eq_zero (by rw [bl_len]; exact h)
  rw [this, h]
  simp [bs_bl]

structure ShF (n : Int) (o : ByteArray) (a r : Nat) (g : VwF) : Prop where
  tab : (vgetF f0 g (5, 0)).n0 = 3
  fa : vgetF f0 g (6, 0) = fV n 1 a 3
  fb : vgetF f0 g (6, 1) = fV 1 1 r 1
  ino : findV f0 g 1 = iV 2 o
  ha : a ≤ o.size
  hr : r ≤ o.size
  ho : o.size ≤ 128

section
variable {n : Int} {o : ByteArray} {a r : Nat} {g g' : VwF}
theorem ShF.same (h : ShF n o a r g) (hg : ∀ j, vgetF f0 g' j = vgetF f0 g j) : ShF n o a r g' :=
  ⟨by rw [hg]; exact h.tab, by rw [hg]; exact h.fa, by rw [hg]; exact h.fb, by rw [find_eq (hg _)]; exact h.ino, h.ha, h.hr, h.ho⟩
theorem ShF.opens (h : ShF n o a r g) : isO f0 g 0 = true ∧ isO f0 g 1 = true := by
  rw [(isO_in (by decide)).1, (isO_in (by decide)).1]
  show hasB (vgetF f0 g (5, 0)).n0 0 = true ∧ hasB (vgetF f0 g (5, 0)).n0 1 = true
  rw [h.tab]
  decide +kernel
theorem ShF.is (h : ShF n o a r g) : isI f0 g 1 = true := by unfold isI; rw [h.ino]; rfl
theorem ShF.read_a (h : ShF n o a r g) {m : Nat} (hm : 1 ≤ m) : rdV (frd f0 g 0 m) = .tuple #[.string (partF o a m), .int .i64 0] ∧ ShF n o (a + (partF o a m).size) r (frd f0 g 0 m).g := by
  obtain ⟨e1, e2⟩ := read_file (n := (m : Int)) h.opens.1 h.fa (by decide +kernel) h.ino rfl (by omega)
  obtain ⟨p1, p2⟩ := part_cut h.ha hm
  have ha := h.ha
  have ho := h.ho
  change frd f0 g 0 m = ⟨partF o a m, 0, _⟩ at e1
  change ∀ j, vgetF f0 (frd f0 g 0 m).g j = if j = (6, 0) then fV n 1 (wrap64 ((a : Int) + ((partF o a m).size : Nat))) 3 else _ at e2
  rw [wrap_few (by omega) (by omega)] at e2
  refine ⟨by rw [e1]; rfl, ⟨by rw [e2, if_neg (key_ne (by decide) _ _)]; exact h.tab, by rw [e2, if_pos rfl, Int.natCast_add], by rw [e2, if_neg (key_ne2 (by decide) _ _)]; exact h.fb,
    by rw [find_eq (show vgetF f0 (frd f0 g 0 m).g (10, 1) = vgetF f0 g (10, 1) by rw [e2, if_neg (key_ne (by decide) _ _)])]; exact h.ino, by omega, h.hr, h.ho⟩⟩
theorem ShF.read_b (h : ShF n o a r g) {m : Nat} (hm : 1 ≤ m) : rdV (frd f0 g 1 m) = .tuple #[.string (partF o r m), .int .i64 0] ∧ ShF n o a (r + (partF o r m).size) (frd f0 g 1 m).g := by
  obtain ⟨e1, e2⟩ := read_file (n := (m : Int)) h.opens.2 h.fb (by decide +kernel) h.ino rfl (by omega)
  obtain ⟨p1, p2⟩ := part_cut h.hr hm
  have ha := h.hr
  have ho := h.ho
  change frd f0 g 1 m = ⟨partF o r m, 0, _⟩ at e1
  change ∀ j, vgetF f0 (frd f0 g 1 m).g j = if j = (6, 1) then fV 1 1 (wrap64 ((r : Int) + ((partF o r m).size : Nat))) 1 else _ at e2
  rw [wrap_few (by omega) (by omega)] at e2
  refine ⟨by rw [e1]; rfl, ⟨by rw [e2, if_neg (key_ne (by decide) _ _)]; exact h.tab, by rw [e2, if_neg (key_ne2 (by decide) _ _)]; exact h.fa, by rw [e2, if_pos rfl, Int.natCast_add],
    by rw [find_eq (show vgetF f0 (frd f0 g 1 m).g (10, 1) = vgetF f0 g (10, 1) by rw [e2, if_neg (key_ne (by decide) _ _)])]; exact h.ino, h.ha, by omega, h.ho⟩⟩
theorem ShF.write_no (h : ShF n o a r g) {d : ByteArray} (hd : 1 ≤ d.size) (h128 : a = 128) : wrV (fwr f0 g 0 d) = .tuple #[.int .i64 (-1), .int .i64 1] ∧ ShF n o a r (fwr f0 g 0 d).g := by
  have ha := h.ha
  have ho := h.ho
  obtain ⟨e1, -, e3, e4⟩ := write_file (d := d) h.opens.1 h.fa (by decide +kernel) h.ino rfl (by omega) (by omega) (show (a : Int) ≤ o.size by omega)
  have hc : (cutD d (a : Int).toNat).size = 0 := by rw [cutD_size, Int.toNat_natCast]; omega
  have e := e1 ⟨hc, by omega⟩
  rw [e]
  refine ⟨rfl, ?_⟩
  refine ⟨by rw [e4 _ (key_ne (by decide) _ _)]; exact h.tab, by rw [e4 _ (key_ne (by decide) _ _)]; exact h.fa, by rw [e4 _ (key_ne (by decide) _ _)]; exact h.fb, ?_, h.ha, h.hr, h.ho⟩
  rw [e3]
  show withS (iV 2 o) (overF o _ _) = _
  rw [over_none _ hc]
  rfl
theorem ShF.write_ok (h : ShF n o a r g) {d : ByteArray} {k : Nat} (hd : 1 ≤ d.size) (hk : k = min (128 - a) d.size) (h128 : k ≠ 0) : wrV (fwr f0 g 0 d) = .tuple #[.int .i64 k, .int .i64 0] ∧ ShF n (overF o a (cutD d a)) (a + k) r (fwr f0 g 0 d).g := by
  have ha := h.ha
  have hr := h.hr
  have ho := h.ho
  obtain ⟨-, e2, e3, e4⟩ := write_file (d := d) h.opens.1 h.fa (by decide +kernel) h.ino rfl (by omega) (by omega) (show (a : Int) ≤ o.size by omega)
  rw [Int.toNat_natCast] at e2 e3
  have hc : (cutD d a).size = k := by rw [cutD_size, hk]
  rw [hc] at e2
  have e := e2 (by omega)
  rw [wrap_few (by omega) (by omega)] at e
  rw [e]
  refine ⟨rfl, ?_⟩
  have hs : (overF o a (cutD d a)).size = max o.size (a + k) := by rw [over_size _ _ _ h.ha, hc]
  have hg : ∀ j : K2, j ≠ (10, 1) → j ≠ (6, 0) → vgetF f0 (vputT (writeT f0 (lkT g 0) 1 a d) (6, 0) (fV n 1 ((a : Int) + (k : Nat)) 3)) j = vgetF f0 g j := fun j j1 j2 => by
    rw [get_putX (plc_f6 (by decide) (by decide)), if_neg j2, e4 j j1]
  refine ⟨by rw [hg _ (key_ne (by decide) _ _) (key_ne (by decide) _ _)]; exact h.tab, by rw [get_putX (plc_f6 (by decide) (by decide)), if_pos rfl, Int.natCast_add], by rw [hg _ (key_ne (by decide) _ _) (key_ne2 (by decide) _ _)]; exact h.fb, ?_, by omega, by omega, by omega⟩
  rw [find_eq (get_put_other (plc_f6 (by decide) (by decide)) (key_ne (by decide) _ _)), e3]
  rfl
theorem ShF.dup (h : ShF n o a r g) (n0 : 0 ≤ n) (n1 : n ≤ 100) : ShF (n + 1) o a r (dupT f0 g 0) := by
  have hg := dup_get (f := f0) (g := g) (i := 0) h.opens.1
  refine ⟨by rw [hg, if_neg (key_ne (by decide) _ _)]; exact h.tab, ?_, by rw [hg, if_neg (key_ne2 (by decide) _ _)]; exact h.fb, by rw [find_eq (show _ = vgetF f0 g (10, 1) by rw [hg, if_neg (key_ne (by decide) _ _)])]; exact h.ino, h.ha, h.hr, h.ho⟩
  rw [hg, if_pos rfl]
  show dup1 (vgetF f0 g (6, 0)) = _
  rw [h.fa]
  show fV (wrap64 (n + 1)) 1 a 3 = _
  rw [wrap_few (by omega) (by omega)]
theorem ShF.cls (h : ShF n o a r g) (n0 : 2 ≤ n) (n1 : n ≤ 100) : ShF (n - 1) o a r (clsT f0 g 0) := by
  have hc : cls1 (filV f0 g 0) = fV (n - 1) 1 a 3 := by
    show cls1 (vgetF f0 g (6, 0)) = _
    rw [h.fa]
    show fV (wrap64 (n - 1)) 1 a 3 = _
    rw [wrap_few (by omega) (by omega)]
  have hg := cls_stays (f := f0) (g := g) (i := 0) h.opens.1 (by rw [hc]; show 0 < n - 1; omega)
  rw [hc] at hg
  exact ⟨by rw [hg, if_neg (key_ne (by decide) _ _)]; exact h.tab, by rw [hg, if_pos rfl], by rw [hg, if_neg (key_ne2 (by decide) _ _)]; exact h.fb, by rw [find_eq (show _ = vgetF f0 g (10, 1) by rw [hg, if_neg (key_ne (by decide) _ _)])]; exact h.ino, h.ha, h.hr, h.ho⟩
end

/-- The first file went. -/
structure Sh2 (o : ByteArray) (r : Nat) (g : VwF) : Prop where
  tab : (vgetF f0 g (5, 0)).n0 = 2
  fb : vgetF f0 g (6, 1) = fV 1 1 r 1
  ino : findV f0 g 1 = iV 1 o
section
variable {o : ByteArray} {a r : Nat} {g g' : VwF}
theorem Sh2.same (h : Sh2 o r g) (hg : ∀ j, vgetF f0 g' j = vgetF f0 g j) : Sh2 o r g' :=
  ⟨by rw [hg]; exact h.tab, by rw [hg]; exact h.fb, by rw [find_eq (hg _)]; exact h.ino⟩
theorem Sh2.opens (h : Sh2 o r g) : isO f0 g 0 = false ∧ isO f0 g 1 = true ∧ isI f0 g 1 = true := by
  rw [(isO_in (by decide)).1, (isO_in (by decide)).1]
  refine ⟨?_, ?_, by unfold isI; rw [h.ino]; rfl⟩
  · show hasB (vgetF f0 g (5, 0)).n0 0 = false
    rw [h.tab]; decide +kernel
  · show hasB (vgetF f0 g (5, 0)).n0 1 = true
    rw [h.tab]; decide +kernel
theorem ShF.last (h : ShF 1 o a r g) : Sh2 o r (clsT f0 g 0) := by
  have hc : cls1 (filV f0 g 0) = fV 0 1 a 3 := by
    show cls1 (vgetF f0 g (6, 0)) = _
    rw [h.fa]
    show fV (wrap64 (1 - 1)) 1 a 3 = _
    rw [wrap_few (by omega) (by omega)]; rfl
  obtain ⟨e1, e2⟩ := cls_goes (f := f0) (g := g) (i := 0) h.opens.1 (by rw [hc]; show ¬ (0 : Int) < 0; decide)
  rw [e1, hc]
  have e3 : relT f0 (shutT f0 (lkT g 0) 0) (fV 0 1 a 3) = changeT f0 (shutT f0 (lkT g 0) 0) 1 0 (-1) := by unfold relT; rw [if_pos (show (fV 0 1 _ _).n0 = 1 from rfl)]; rfl
  rw [e3]
  have e4 : findV f0 (shutT f0 (lkT g 0) 0) 1 = iV 2 o := by rw [find_eq (show _ = vgetF f0 g (10, 1) by rw [e2, if_neg (key_ne (by decide) _ _), if_neg (key_ne (by decide) _ _)])]; exact h.ino
  have e5 : isI f0 (shutT f0 (lkT g 0) 0) 1 = true := by unfold isI; rw [e4]; rfl
  have e6 := change_find (f := f0) 0 (-1) e5 1
  have e7 : chgV (iV 2 o) 0 (-1) = iV 1 o := by
    show (⟨2, wrap64 (0 + 0), wrap64 (2 + -1), 0, 0, 0, 0, 0, 0, 0, 0, 0, 0, 0, 0, 0, o⟩ : V) = _
    rw [wrap_few (by omega) (by omega), wrap_few (by omega) (by omega)]; rfl
  rw [if_pos rfl, e4, e7, if_pos (.inr (by show (0 : Int) < 1; decide))] at e6
  refine ⟨?_, ?_, e6⟩
  · rw [change_off _ _ _ (key_ne (by decide) _ _) (key_ne (by decide) _ _), e2, if_pos rfl]
    show clrN (vgetF f0 g (5, 0)).n0 0 = 2
    rw [h.tab]; decide +kernel
  · rw [change_off _ _ _ (key_ne (by decide) _ _) (key_ne (by decide) _ _), e2, if_neg (key_ne (by decide) _ _), if_neg (key_ne2 (by decide) _ _)]
    exact h.fb
theorem Sh2.last (h : Sh2 o r g) : isI f0 (clsT f0 g 1) 1 = false ∧ ∀ g', (∀ j, vgetF f0 g' j = vgetF f0 (clsT f0 g 1) j) → isO f0 g' 1 = false := by
  have hc : cls1 (filV f0 g 1) = fV 0 1 r 1 := by
    show cls1 (vgetF f0 g (6, 1)) = _
    rw [h.fb]
    show fV (wrap64 (1 - 1)) 1 r 1 = _
    rw [wrap_few (by omega) (by omega)]; rfl
  obtain ⟨e1, e2⟩ := cls_goes (f := f0) (g := g) (i := 1) h.opens.2.1 (by rw [hc]; show ¬ (0 : Int) < 0; decide)
  rw [e1, hc]
  have e3 : relT f0 (shutT f0 (lkT g 1) 1) (fV 0 1 r 1) = changeT f0 (shutT f0 (lkT g 1) 1) 1 0 (-1) := by unfold relT; rw [if_pos (show (fV 0 1 _ _).n0 = 1 from rfl)]; rfl
  rw [e3]
  have e4 : findV f0 (shutT f0 (lkT g 1) 1) 1 = iV 1 o := by rw [find_eq (show _ = vgetF f0 g (10, 1) by rw [e2, if_neg (key_ne (by decide) _ _), if_neg (key_ne (by decide) _ _)])]; exact h.ino
  have e5 : isI f0 (shutT f0 (lkT g 1) 1) 1 = true := by unfold isI; rw [e4]; rfl
  have e6 := change_find (f := f0) 0 (-1) e5 1
  have e7 : chgV (iV 1 o) 0 (-1) = iV 0 o := by
    show (⟨2, wrap64 (0 + 0), wrap64 (1 + -1), 0, 0, 0, 0, 0, 0, 0, 0, 0, 0, 0, 0, 0, o⟩ : V) = _
    rw [wrap_few (by omega) (by omega), wrap_few (by omega) (by omega)]; rfl
  rw [if_pos rfl, e4, e7, if_neg (by show ¬ ((0 : Int) < 0 ∨ (0 : Int) < 0); decide)] at e6
  refine ⟨by unfold isI; rw [e6]; rfl, fun g' hg => ?_⟩
  rw [(isO_in (by decide)).1]
  show hasB (vgetF f0 g' (5, 0)).n0 1 = false
  rw [hg, change_off _ _ _ (key_ne (by decide) _ _) (key_ne (by decide) _ _), e2, if_pos rfl]
  show hasB (clrN (vgetF f0 g (5, 0)).n0 1) 1 = false
  rw [h.tab]; decide +kernel
end

def s1 : VwF := allocT f0 g0 2
def s2 : VwF := changeT f0 s1 1 0 2
def s3 : VwF := opnT f0 s2 1 1 3
def s4 : VwF := opnT f0 s3 1 1 1
theorem sh0 : isI f0 s1 1 = true ∧ opnA f0 s2 = 0 ∧ opnA f0 s3 = 1 ∧ ShF 1 ByteArray.empty 0 0 s4 := by
  refine ⟨by decide +kernel, by decide +kernel, by decide +kernel, ⟨by decide +kernel, by kernel_rfl, by kernel_rfl, by kernel_rfl, Nat.le_refl _, Nat.le_refl _, by decide⟩⟩
end Go.Proofs.Ytdgkhfhlbjpaoaa
