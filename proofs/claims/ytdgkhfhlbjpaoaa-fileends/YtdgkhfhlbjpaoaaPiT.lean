
/- Pipes as plain functions of what a store and a view have; no conditions. -/
import Derived.Test.YtdgkhfhlbjpaoaaSmA
namespace Go.Proofs.Ytdgkhfhlbjpaoaa
open Go.RowKit
set_option maxRecDepth 100000
set_option linter.unusedSimpArgs false

def tk7 : K2 := (7, 0)
def pk (q : Int) : K2 := (8, q)
theorem plc_t7 : 0 ≤ plc (7, 0) := by decide
theorem four {q : Int} (h : 0 ≤ q) (h' : q < 4) : q = 0 ∨ q = 1 ∨ q = 2 ∨ q = 3 := by omega
theorem plc_p8 {q : Int} (h : 0 ≤ q) (h' : q < 4) : 0 ≤ plc (8, q) := by
  rcases four h h' with rfl | rfl | rfl | rfl <;> decide
theorem p8_ne (q : Int) : ((7, 0) : K2) ≠ (8, q) := by intro e; injection e with e1 _; omega

/-- The table; pipe q's value. -/
def tabV (f : StF) (g : VwF) : V := vgetF f g (7, 0)
def pipV (f : StF) (g : VwF) (q : Int) : V := vgetF f g (8, q)
def isP (f : StF) (g : VwF) (q : Int) : Bool := decide (0 ≤ q ∧ q < 4) && hasB (tabV f g).n0 q
def isPT (g : VwF) (q : Int) : VwF := if 0 ≤ q ∧ q < 4 then vgetT g (7, 0) else g
/-- The view behind a look at pipe q. -/
def seeT (g : VwF) (q : Int) : VwF := vgetT (isPT g q) (8, q)

def freeP (n : Int) : Int := ((List.range 4).find? (fun j : Nat => !hasB n (j : Int))).elim 4 (fun j : Nat => (j : Int))
def newP : V := ⟨1, 1, 0, 0, 0, 0, 0, 0, 0, 0, 0, 0, 0, 0, 0, 0, ByteArray.empty⟩
def palA (f : StF) (g : VwF) : Int := freeP (tabV f g).n0
def palT (f : StF) (g : VwF) : VwF := if palA f g < 4 then vputT (vputT (vgetT g (7, 0)) (7, 0) (withN (tabV f g) (orN (tabV f g).n0 (palA f g)))) (8, palA f g) newP else vgetT g (7, 0)
def palV (i : Int) : Value := .tuple #[.int .i64 (if i < 4 then i else 0), .bool (decide (i < 4))]

def prdOk (f : StF) (g : VwF) (q n : Int) : Bool := isP f g q && decide (0 ≤ n)
def prdS (f : StF) (g : VwF) (q n : Int) : ByteArray := if prdOk f g q n = true then bs ((bl (pipV f g q).s).take n.toNat) else ByteArray.empty
def prdK (f : StF) (g : VwF) (q n : Int) : Int := if prdOk f g q n = true then (if n = 0 ∨ (pipV f g q).s.size ≠ 0 ∨ (pipV f g q).n1 ≤ 0 then 0 else 2) else 1
def prdT (f : StF) (g : VwF) (q n : Int) : VwF :=
  if prdOk f g q n = true then (if n ≠ 0 ∧ (pipV f g q).s.size ≠ 0 then vputT (seeT g q) (8, q) (withS (pipV f g q) (bs ((bl (pipV f g q).s).drop n.toNat))) else seeT g q) else isPT g q
def prdV (s : ByteArray) (k : Int) : Value := .tuple #[.string s, .int .i64 k]

def pwrGo (x : V) (d : ByteArray) : Bool := decide (0 < x.n0) && decide (d.size ≠ 0) && decide (x.s.size < 16)
def pwrN (x : V) (d : ByteArray) : Nat := min (16 - x.s.size) d.size
def pwrA (f : StF) (g : VwF) (q : Int) (d : ByteArray) : Int :=
  if isP f g q = true then (if 0 < (pipV f g q).n0 then (if d.size = 0 then 0 else (pwrN (pipV f g q) d : Nat)) else -1) else -1
def pwrK (f : StF) (g : VwF) (q : Int) (d : ByteArray) : Int :=
  if isP f g q = true then (if 0 < (pipV f g q).n0 then (if d.size = 0 ∨ (pipV f g q).s.size < 16 then 0 else 2) else 1) else 1
def moreS (x : V) (d : ByteArray) : ByteArray := bs (bl x.s ++ (bl d).take (pwrN x d))
def pwrT (f : StF) (g : VwF) (q : Int) (d : ByteArray) : VwF :=
  if isP f g q = true then (if pwrGo (pipV f g q) d = true then vputT (seeT g q) (8, q) (withS (pipV f g q) (moreS (pipV f g q) d)) else seeT g q) else isPT g q
def pwrV (a k : Int) : Value := .tuple #[.int .i64 a, .int .i64 k]

def endV (x : V) (wr : Bool) (b : Int) : V := if wr = true then { x with n1 := wrap64 (x.n1 + b) } else { x with n0 := wrap64 (x.n0 + b) }
abbrev leftV (x : V) : Prop := 0 < x.n0 ∨ 0 < x.n1
/-- What is left when pipe q goes. -/
def lostT (f : StF) (g : VwF) (q : Int) : VwF := vputT (vgetT (vputT g (8, q) zeroV) (7, 0)) (7, 0) (withN (tabV f g) (clrN (tabV f g).n0 q))
def endT (f : StF) (g : VwF) (q : Int) (wr : Bool) (b : Int) : VwF :=
  if isP f g q = true then (if leftV (endV (pipV f g q) wr b) then vputT (seeT g q) (8, q) (endV (pipV f g q) wr b) else lostT f (seeT g q) q) else isPT g q

theorem isP_range {f : StF} {g : VwF} {q : Int} (h : isP f g q = true) : 0 ≤ q ∧ q < 4 := by
  unfold isP at h; simp only [Bool.and_eq_true, decide_eq_true_eq] at h; exact h.1
theorem isP_out {f : StF} {g : VwF} {q : Int} (h : ¬ (0 ≤ q ∧ q < 4)) : isP f g q = false ∧ isPT g q = g := by
  unfold isP isPT; rw [if_neg h, decide_eq_false h]; exact ⟨rfl, rfl⟩
theorem isP_in {f : StF} {g : VwF} {q : Int} (h : 0 ≤ q ∧ q < 4) : isP f g q = hasB (tabV f g).n0 q ∧ isPT g q = vgetT g (7, 0) := by
  unfold isP isPT; rw [if_pos h, decide_eq_true h]; exact ⟨rfl, rfl⟩

theorem freeP_at {n i : Int} (h1 : 0 ≤ i) (h2 : i < 4) (ha : ∀ j, 0 ≤ j → j < i → hasB n j = true) (hi : hasB n i = false) : freeP n = i := by
  unfold freeP
  have : (List.range 4).find? (fun j : Nat => !hasB n (j : Int)) = some i.toNat := by
    rw [List.find?_range_eq_some]
    refine ⟨?_, by simp; omega, fun j hj => ?_⟩
    · rw [show ((i.toNat : Nat) : Int) = i by omega, hi]; rfl
    · rw [ha _ (by omega) (by omega)]; rfl
  rw [this]
  show ((i.toNat : Nat) : Int) = i
  omega
theorem freeP_none {n : Int} (ha : ∀ j, 0 ≤ j → j < 4 → hasB n j = true) : freeP n = 4 := by
  unfold freeP
  have : (List.range 4).find? (fun j : Nat => !hasB n (j : Int)) = none := by
    rw [List.find?_eq_none]
    intro j hj
    have : j < 4 := by simpa using hj
    rw [ha _ (by omega) (by omega)]; simp
  rw [this]; rfl
theorem freeP_pos (n : Int) : 0 ≤ freeP n := by
  unfold freeP
  cases (List.range 4).find? (fun j : Nat => !hasB n (j : Int)) with
  | none => show (0 : Int) ≤ 4; omega
  | some j => show (0 : Int) ≤ (j : Int); omega

section
variable {f : StF} {g : VwF}
theorem tab_get (k : K2) : tabV f (vgetT g k) = tabV f g := get_get
theorem pip_get (k : K2) (q : Int) : pipV f (vgetT g k) q = pipV f g q := get_get
theorem tab_isPT (q : Int) : tabV f (isPT g q) = tabV f g := by unfold isPT; split; exact tab_get _; rfl
theorem pip_isPT (q r : Int) : pipV f (isPT g q) r = pipV f g r := by unfold isPT; split; exact pip_get _ _; rfl
theorem tab_see (q : Int) : tabV f (seeT g q) = tabV f g := by unfold seeT; rw [tab_get, tab_isPT]
theorem pip_see (q r : Int) : pipV f (seeT g q) r = pipV f g r := by unfold seeT; rw [pip_get, pip_isPT]
theorem tab_put {q : Int} (h : 0 ≤ q) (h' : q < 4) (x : V) : tabV f (vputT g (8, q) x) = tabV f g := get_put_other (plc_p8 h h') (p8_ne q)
theorem tab_putT (x : V) : tabV f (vputT g (7, 0) x) = x := get_put plc_t7
theorem pip_put {q : Int} (h : 0 ≤ q) (h' : q < 4) (x : V) (r : Int) : pipV f (vputT g (8, q) x) r = if r = q then x else pipV f g r := by
  by_cases e : r = q
  · subst e; rw [if_pos rfl]; exact get_put (plc_p8 h h')
  · rw [if_neg e]; exact get_put_other (plc_p8 h h') (fun c => e (by injection c))
theorem pip_putT (x : V) (r : Int) : pipV f (vputT g (7, 0) x) r = pipV f g r := get_put_other plc_t7 (fun c => p8_ne r c.symm)
theorem isP_eq {g' : VwF} (h : tabV f g' = tabV f g) (q : Int) : isP f g' q = isP f g q := by unfold isP; rw [h]
end

/-- The reference turns the table first. -/
theorem lost_same {f : StF} {g : VwF} {q : Int} (h : 0 ≤ q) (h' : q < 4) : lostT f g q = vputT (vputT (vgetT g (7, 0)) (7, 0) (withN (tabV f g) (clrN (tabV f g).n0 q))) (8, q) zeroV := by
  have hi := plc_p8 h h'
  have ht := plc_t7
  have hne := p8_ne q
  unfold lostT
  generalize withN (tabV f g) (clrN (tabV f g).n0 q) = y
  have e1 : noteF (vgetT (vputT g (8, q) zeroV) (7, 0)) (7, 0) = noteF (vgetT g (7, 0)) (7, 0) := by
    rw [note_get ht, if_pos rfl, note_get ht, if_pos rfl, note_put hi, if_neg hne]
  have e2 : noteF (vputT (vgetT g (7, 0)) (7, 0) y) (8, q) = noteF g (8, q) := by
    rw [note_put ht, if_neg (fun e => hne e.symm), note_get ht, if_neg (fun e => hne e.symm)]
  funext j
  unfold vputT at e1 e2 ⊢
  rw [if_pos ht, if_pos hi, if_pos ht] at *
  simp only [if_pos hi, if_pos ht] at *
  rw [e1, e2]
  unfold vgetT
  simp only [if_pos ht]
  unfold upd
  by_cases c1 : j = (7, 0)
  · subst c1; simp
  · by_cases c2 : j = (8, q)
    · subst c2; simp [c1]
    · simp [c1, c2]

section
variable {f : StF} {g : VwF}
/-- What each call leaves: the table, the pipes. -/
theorem prd_tab (q n : Int) : tabV f (prdT f g q n) = tabV f g := by
  unfold prdT
  split
  · rename_i h
    have hq : isP f g q = true := by unfold prdOk at h; simp only [Bool.and_eq_true] at h; exact h.1
    obtain ⟨h1, h2⟩ := isP_range hq
    split
    · rw [tab_put h1 h2, tab_see]
    · rw [tab_see]
  · rw [tab_isPT]
theorem prd_pip (q n r : Int) : pipV f (prdT f g q n) r = if r = q ∧ prdOk f g q n = true then withS (pipV f g q) (bs ((bl (pipV f g q).s).drop n.toNat)) else pipV f g r := by
  unfold prdT
  split
  · rename_i h
    have hq : isP f g q = true := by unfold prdOk at h; simp only [Bool.and_eq_true] at h; exact h.1
    obtain ⟨h1, h2⟩ := isP_range hq
    split
    · rw [pip_put h1 h2, pip_see]
      by_cases e : r = q
      · rw [if_pos e, if_pos ⟨e, h⟩]
      · rw [if_neg e, if_neg (fun c => e c.1)]
    · rename_i h3
      rw [pip_see]
      by_cases e : r = q
      · rw [if_pos ⟨e, h⟩, e]
        have h4 : (bl (pipV f g q).s).drop n.toNat = bl (pipV f g q).s := by
          by_cases c : n = 0
          · rw [c]; rfl
          · have : (pipV f g q).s.size = 0 := by
              by_cases c2 : (pipV f g q).s.size = 0
              · exact c2
              · exact absurd ⟨c, c2⟩ h3
            rw [← bl_len] at this
            rw [List.eq_nil_of_length_eq_zero this, List.drop_nil]
        rw [h4, bs_bl]
        rfl
      · rw [if_neg (fun c => e c.1)]
  · rename_i h
    rw [if_neg (fun c => h c.2), pip_isPT]
theorem pwr_tab (q : Int) (d : ByteArray) : tabV f (pwrT f g q d) = tabV f g := by
  unfold pwrT
  split
  · rename_i h
    obtain ⟨h1, h2⟩ := isP_range h
    split
    · rw [tab_put h1 h2, tab_see]
    · rw [tab_see]
  · rw [tab_isPT]
theorem pwr_pip (q : Int) (d : ByteArray) (r : Int) : pipV f (pwrT f g q d) r = if r = q ∧ isP f g q = true ∧ pwrGo (pipV f g q) d = true then withS (pipV f g q) (moreS (pipV f g q) d) else pipV f g r := by
  unfold pwrT
  split
  · rename_i h
    obtain ⟨h1, h2⟩ := isP_range h
    split
    · rename_i h3
      rw [pip_put h1 h2, pip_see]
      by_cases e : r = q
      · rw [if_pos e, if_pos ⟨e, h, h3⟩]
      · rw [if_neg e, if_neg (fun c => e c.1)]
    · rename_i h3
      rw [pip_see, if_neg (fun c => h3 c.2.2)]
  · rename_i h
    rw [if_neg (fun c => h c.2.1), pip_isPT]
theorem end_tab (q : Int) (wr : Bool) (b : Int) : tabV f (endT f g q wr b) = if isP f g q = true ∧ ¬ leftV (endV (pipV f g q) wr b) then withN (tabV f g) (clrN (tabV f g).n0 q) else tabV f g := by
  unfold endT
  split
  · rename_i h
    obtain ⟨h1, h2⟩ := isP_range h
    split
    · rename_i h3
      rw [tab_put h1 h2, tab_see, if_neg (fun c => c.2 h3)]
    · rename_i h3
      unfold lostT
      rw [tab_putT, tab_see, if_pos ⟨h, h3⟩]
  · rename_i h
    rw [tab_isPT, if_neg (fun c => h c.1)]
theorem end_pip (q : Int) (wr : Bool) (b r : Int) : pipV f (endT f g q wr b) r = if r = q ∧ isP f g q = true then (if leftV (endV (pipV f g q) wr b) then endV (pipV f g q) wr b else zeroV) else pipV f g r := by
  unfold endT
  split
  · rename_i h
    obtain ⟨h1, h2⟩ := isP_range h
    split
    · rename_i h3
      rw [pip_put h1 h2, pip_see]
      by_cases e : r = q
      · rw [if_pos e, if_pos ⟨e, h⟩]
      · rw [if_neg e, if_neg (fun c => e c.1)]
    · rename_i h3
      unfold lostT
      rw [pip_putT, pip_get, pip_put h1 h2, pip_see]
      by_cases e : r = q
      · rw [if_pos e, if_pos ⟨e, h⟩]
      · rw [if_neg e, if_neg (fun c => e c.1)]
  · rename_i h
    rw [if_neg (fun c => h c.2), pip_isPT]
theorem pal_tab : tabV f (palT f g) = if palA f g < 4 then withN (tabV f g) (orN (tabV f g).n0 (palA f g)) else tabV f g := by
  have h0 : 0 ≤ palA f g := freeP_pos _
  unfold palT
  split
  · rename_i h
    rw [tab_put h0 h, tab_putT]
  · rw [tab_get]
theorem pal_pip (r : Int) : pipV f (palT f g) r = if palA f g < 4 ∧ r = palA f g then newP else pipV f g r := by
  have h0 : 0 ≤ palA f g := freeP_pos _
  unfold palT
  split
  · rename_i h
    rw [pip_put h0 h, pip_putT, pip_get]
    by_cases e : r = palA f g
    · rw [if_pos e, if_pos ⟨h, e⟩]
    · rw [if_neg e, if_neg (fun c => e c.2)]
  · rename_i h
    rw [if_neg (fun c => h c.1), pip_get]
end
section
variable {f : StF} {g : VwF}
theorem Small.isPT (h : Small f g) (q : Int) : Small f (isPT g q) := by unfold Go.Proofs.Ytdgkhfhlbjpaoaa.isPT; split; exact h.get _; exact h
theorem Small.see (h : Small f g) (q : Int) : Small f (seeT g q) := (h.isPT q).get _
theorem Small.pal (h : Small f g) : Small f (palT f g) := by
  unfold palT
  split
  · exact ((h.get _).put (7, 0) (x := withN (tabV f g) (orN (tabV f g).n0 (palA f g))) (h.val (7, 0))).put (8, palA f g) (x := newP) (by show ByteArray.empty.size ≤ 200; decide)
  · exact h.get _
theorem Small.prd (h : Small f g) (q n : Int) : Small f (prdT f g q n) := by
  unfold prdT
  split
  · split
    · refine (h.see q).put (8, q) (x := withS (pipV f g q) (bs ((bl (pipV f g q).s).drop n.toNat))) ?_
      show (bs _).size ≤ 200
      rw [bs_size, List.length_drop, bl_len]
      have := h.val (8, q)
      unfold pipV
      omega
    · exact h.see q
  · exact h.isPT q
theorem more_size (x : V) (d : ByteArray) : (moreS x d).size = x.s.size + pwrN x d := by
  unfold moreS
  rw [bs_size, List.length_append, List.length_take, bl_len, bl_len]
  unfold pwrN
  omega
theorem Small.pwr (h : Small f g) (q : Int) (d : ByteArray) : Small f (pwrT f g q d) := by
  unfold pwrT
  split
  · split
    · rename_i h3
      refine (h.see q).put (8, q) (x := withS (pipV f g q) (moreS (pipV f g q) d)) ?_
      show (moreS _ _).size ≤ 200
      rw [more_size]
      unfold pwrGo at h3
      simp only [Bool.and_eq_true, decide_eq_true_eq] at h3
      unfold pwrN
      omega
    · exact h.see q
  · exact h.isPT q
theorem endV_s (x : V) (wr : Bool) (b : Int) : (endV x wr b).s = x.s := by unfold endV; cases wr <;> rfl
theorem Small.ends (h : Small f g) (q : Int) (wr : Bool) (b : Int) : Small f (endT f g q wr b) := by
  unfold endT
  split
  · split
    · refine (h.see q).put (8, q) ?_
      rw [endV_s]
      exact h.val (8, q)
    · have h1 : Small f (vputT (seeT g q) (8, q) zeroV) := (h.see q).put _ zero_small
      unfold lostT
      refine (h1.get _).put (7, 0) (x := withN _ _) ?_
      show (tabV f (seeT g q)).s.size ≤ 200
      rw [tab_see]
      exact h.val (7, 0)
  · exact h.isPT q
end
end Go.Proofs.Ytdgkhfhlbjpaoaa
