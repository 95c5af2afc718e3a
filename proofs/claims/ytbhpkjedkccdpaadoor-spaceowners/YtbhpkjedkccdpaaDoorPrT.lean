
/- Processes as plain functions of what a store and a view have; no conditions. -/
import Derived.Test.YtbhpkjedkccdpaaDoorPrB
namespace Go.Proofs.YtbhpkjedkccdpaaDoor
open Go.RowKit
set_option maxRecDepth 100000
set_option linter.unusedSimpArgs false

theorem plc_t3 : 0 ≤ plc (3, 0) := by decide
theorem plc_r4 {i : Int} (h : 0 ≤ i) (h' : i < 8) : 0 ≤ plc (4, i) := by
  have e1 : cnt 4 = 8 := by decide
  have e2 : 0 ≤ ahd 4 := by decide
  show 0 ≤ (if i < 0 ∨ cnt 4 ≤ i then (-1 : Int) else ahd 4 + i)
  rw [e1, if_neg (by omega)]; omega
theorem plc_m12 {i : Int} (h : 0 ≤ i) (h' : i < 8) : 0 ≤ plc (12, i) := by
  have e1 : cnt 12 = 8 := by decide
  have e2 : 0 ≤ ahd 12 := by decide
  show 0 ≤ (if i < 0 ∨ cnt 12 ≤ i then (-1 : Int) else ahd 12 + i)
  rw [e1, if_neg (by omega)]; omega

/-- The table's numbers; process i's. -/
abbrev ptV (f : StF) (g : VwF) : V := vgetF f g (3, 0)
abbrev prV (f : StF) (g : VwF) (i : Int) : V := vgetF f g (4, i)
def isU (f : StF) (g : VwF) (i : Int) : Bool := decide (0 ≤ i ∧ i < 8) && hasB (ptV f g).n0 i
def usT (g : VwF) (i : Int) : VwF := if 0 ≤ i ∧ i < 8 then vgetT g (3, 0) else g
def stA (f : StF) (g : VwF) (i : Int) : Int := if isU f g i = true then (prV f g i).n0 else 0
def stT (f : StF) (g : VwF) (i : Int) : VwF := if isU f g i = true then vgetT (usT g i) (4, i) else usT g i
def isR (f : StF) (g : VwF) (i : Int) : Bool := stA f g i != 0

/-- What New comes to. -/
def free8 (n : Int) : Int := ((List.range 8).find? (fun j : Nat => !hasB n (j : Int))).elim 8 (fun j : Nat => (j : Int))
def prN (parent pid : Int) : V := ⟨1, parent, pid, 0, 0, 0, 0, 0, 0, 0, 0, 0, 0, 0, 0, 0, ByteArray.empty⟩
def nwA (f : StF) (g : VwF) : Int := free8 (ptV f g).n0
def nwV (x : V) (i : Int) : V := { x with n0 := orN x.n0 i, n1 := wrap64 (x.n1 + 1) }
def nwT (f : StF) (g : VwF) (par : Int) : VwF := if nwA f g < 8 then vputT (vputT (vgetT g (3, 0)) (3, 0) (nwV (ptV f g) (nwA f g))) (4, nwA f g) (prN (wrap64 (par + 1)) (nwV (ptV f g) (nwA f g)).n1) else vgetT g (3, 0)
def nwR (i : Int) : Value := .tuple #[.int .i64 (if i < 8 then i else 0), .bool (decide (i < 8))]

/-- What Free comes to. -/
def goT (f : StF) (g : VwF) (i : Int) : VwF := vputT (vgetT (vputT (vputT g (4, i) zeroV) (12, i) zeroV) (3, 0)) (3, 0) (withN (ptV f g) (clrN (ptV f g).n0 i))
def frT (f : StF) (g : VwF) (i : Int) : VwF := if isR f g i = true then goT f (stT f g i) i else stT f g i

/-- What is asked of one process, of the first n of them. -/
def parB (f : StF) (g : VwF) (k m : Int) : Bool := isR f g k && ((prV f g k).n1 == m)
def pidB (f : StF) (g : VwF) (k m : Int) : Bool := isR f g k && ((prV f g k).n2 == m)
def hsT (f : StF) (g : VwF) (k : Int) : VwF := if isR f g k = true then vgetT (stT f g k) (4, k) else stT f g k
def runnT (f : StF) (g : VwF) : Nat → VwF
  | 0 => g
  | n + 1 => hsT f (runnT f g n) (n : Int)
def kidsN (f : StF) (g : VwF) (m : Int) (n : Nat) : List Int := ((List.range n).filter (fun k : Nat => parB f g (k : Int) m)).map (fun k : Nat => (k : Int))
def pidA (f : StF) (g : VwF) (m : Int) : Int := ((List.range 8).find? (fun j : Nat => pidB f g (j : Int) m)).elim 8 (fun j : Nat => (j : Int))
def pidT (f : StF) (g : VwF) (m : Int) : VwF := runnT f g (if pidA f g m < 8 then (pidA f g m).toNat + 1 else 8)

/-- Descriptors. -/
def dsc (x : V) (d : Int) : Int := if d = 0 then x.n8 else if d = 1 then x.n9 else if d = 2 then x.n10 else if d = 3 then x.n11 else if d = 4 then x.n12 else x.n13
def setD (x : V) (d a : Int) : V := if d = 0 then { x with n8 := a } else if d = 1 then { x with n9 := a } else if d = 2 then { x with n10 := a } else if d = 3 then { x with n11 := a } else if d = 4 then { x with n12 := a } else { x with n13 := a }
def fdR (f : StF) (g : VwF) (i d : Int) : Bool := isR f g i && decide (0 ≤ d ∧ d < 6)
def fdB (f : StF) (g : VwF) (i d : Int) : Bool := fdR f g i d && decide (1 ≤ dsc (prV f g i) d ∧ dsc (prV f g i) d ≤ 12)
def fdA (f : StF) (g : VwF) (i d : Int) : Int := if fdB f g i d = true then dsc (prV f g i) d - 1 else 0
def fdT (f : StF) (g : VwF) (i d : Int) : VwF := if fdR f g i d = true then vgetT (stT f g i) (4, i) else stT f g i
def fdV (f : StF) (g : VwF) (i d : Int) : Value := .tuple #[.int .i64 (fdA f g i d), .bool (fdB f g i d)]
def sdB (f : StF) (g : VwF) (i d a : Int) : Bool := fdR f g i d && decide (a < 12)
def sdN (a : Int) : Int := if a < 0 then 0 else a + 1
def sdT (f : StF) (g : VwF) (i d a : Int) : VwF := if sdB f g i d a = true then vputT (vgetT (stT f g i) (4, i)) (4, i) (setD (prV f g i) d (sdN a)) else stT f g i
def ffN (f : StF) (g : VwF) (i : Int) : Nat → VwF
  | 0 => stT f g i
  | n + 1 => fdT f (ffN f g i n) i (n : Int)
def ffA (f : StF) (g : VwF) (i : Int) : Int := ((List.range 6).find? (fun j : Nat => !fdB f g i (j : Int))).elim 6 (fun j : Nat => (j : Int))
def ffB (f : StF) (g : VwF) (i : Int) : Bool := isR f g i && decide (ffA f g i < 6)
def ffT (f : StF) (g : VwF) (i : Int) : VwF := if isR f g i = true then ffN f g i (if ffA f g i < 6 then (ffA f g i).toNat + 1 else 6) else stT f g i
def ffV (f : StF) (g : VwF) (i : Int) : Value := .tuple #[.int .i64 (if ffB f g i = true then ffA f g i else 0), .bool (ffB f g i)]

theorem find_first {P : Nat → Bool} {n i : Nat} (h : i < n) (ha : ∀ j, j < i → P j = false) (hi : P i = true) : (List.range n).find? P = some i := by
  rw [List.find?_range_eq_some]
  exact ⟨hi, by simp; omega, fun j hj => by rw [ha j hj]; rfl⟩
theorem find_not {P : Nat → Bool} {n : Nat} (ha : ∀ j, j < n → P j = false) : (List.range n).find? P = none := by
  rw [List.find?_eq_none]
  intro j hj
  rw [ha j (by simpa using hj)]; simp
theorem elim_pos {o : Option Nat} {n : Nat} : 0 ≤ o.elim (n : Int) (fun j : Nat => (j : Int)) := by cases o <;> simp
theorem free8_at {n i : Int} (h1 : 0 ≤ i) (h2 : i < 8) (ha : ∀ j, 0 ≤ j → j < i → hasB n j = true) (hi : hasB n i = false) : free8 n = i := by
  unfold free8
  rw [find_first (i := i.toNat) (by omega) (fun j hj => by rw [ha _ (by omega) (by omega)]; rfl) (by rw [show ((i.toNat : Nat) : Int) = i by omega, hi]; rfl)]
  show ((i.toNat : Nat) : Int) = i
  omega
theorem free8_none {n : Int} (ha : ∀ j, 0 ≤ j → j < 8 → hasB n j = true) : free8 n = 8 := by
  unfold free8
  rw [find_not (fun j hj => by rw [ha _ (by omega) (by omega)]; rfl)]; rfl
theorem free8_pos (n : Int) : 0 ≤ free8 n := elim_pos (n := 8)

section
variable {f : StF} {g : VwF}
theorem isU_range {i : Int} (h : isU f g i = true) : 0 ≤ i ∧ i < 8 := by
  unfold isU at h; simp only [Bool.and_eq_true, decide_eq_true_eq] at h; exact h.1
theorem isU_out {i : Int} (h : ¬ (0 ≤ i ∧ i < 8)) : isU f g i = false ∧ usT g i = g := by
  unfold isU usT; rw [if_neg h, decide_eq_false h]; exact ⟨rfl, rfl⟩
theorem isU_in {i : Int} (h : 0 ≤ i ∧ i < 8) : isU f g i = hasB (ptV f g).n0 i ∧ usT g i = vgetT g (3, 0) := by
  unfold isU usT; rw [if_pos h, decide_eq_true h]; exact ⟨rfl, rfl⟩
theorem isR_u {i : Int} (h : isR f g i = true) : isU f g i = true := by
  unfold isR stA at h
  by_cases e : isU f g i = true
  · exact e
  · rw [if_neg e] at h; simp at h
theorem isR_range {i : Int} (h : isR f g i = true) : 0 ≤ i ∧ i < 8 := isU_range (isR_u h)
theorem fdR_range {i d : Int} (h : fdR f g i d = true) : isR f g i = true ∧ 0 ≤ d ∧ d < 6 := by
  unfold fdR at h; simp only [Bool.and_eq_true, decide_eq_true_eq] at h; exact h

theorem get_usT (i : Int) (j : K2) : vgetF f (usT g i) j = vgetF f g j := by unfold usT; split; exact get_get; rfl
theorem get_stT (i : Int) (j : K2) : vgetF f (stT f g i) j = vgetF f g j := by
  unfold stT
  split
  · rw [get_get, get_usT]
  · exact get_usT _ _
theorem get_hsT (i : Int) (j : K2) : vgetF f (hsT f g i) j = vgetF f g j := by
  unfold hsT
  split
  · rw [get_get, get_stT]
  · exact get_stT _ _
theorem get_runn (n : Nat) (j : K2) : vgetF f (runnT f g n) j = vgetF f g j := by
  induction n with
  | zero => rfl
  | succ n ih => show vgetF f (hsT f _ _) j = _; rw [get_hsT, ih]
theorem get_fdT (i d : Int) (j : K2) : vgetF f (fdT f g i d) j = vgetF f g j := by
  unfold fdT
  split
  · rw [get_get, get_stT]
  · exact get_stT _ _
theorem get_ffN (i : Int) (n : Nat) (j : K2) : vgetF f (ffN f g i n) j = vgetF f g j := by
  induction n with
  | zero => exact get_stT _ _
  | succ n ih => show vgetF f (fdT f _ _ _) j = _; rw [get_fdT, ih]
theorem get_pidT (m : Int) (j : K2) : vgetF f (pidT f g m) j = vgetF f g j := get_runn _ _
theorem get_ffT (i : Int) (j : K2) : vgetF f (ffT f g i) j = vgetF f g j := by
  unfold ffT
  split
  · exact get_ffN _ _ _
  · exact get_stT _ _

/-- Who sees the same is told the same. -/
theorem sees_isU {g' : VwF} (h : ∀ j, vgetF f g' j = vgetF f g j) (i : Int) : isU f g' i = isU f g i := by unfold isU; rw [show ptV f g' = ptV f g from h _]
theorem sees_stA {g' : VwF} (h : ∀ j, vgetF f g' j = vgetF f g j) (i : Int) : stA f g' i = stA f g i := by unfold stA; rw [sees_isU h, show prV f g' i = prV f g i from h _]
theorem sees_isR {g' : VwF} (h : ∀ j, vgetF f g' j = vgetF f g j) (i : Int) : isR f g' i = isR f g i := by unfold isR; rw [sees_stA h]
theorem sees_parB {g' : VwF} (h : ∀ j, vgetF f g' j = vgetF f g j) (i m : Int) : parB f g' i m = parB f g i m := by unfold parB; rw [sees_isR h, show prV f g' i = prV f g i from h _]
theorem sees_pidB {g' : VwF} (h : ∀ j, vgetF f g' j = vgetF f g j) (i m : Int) : pidB f g' i m = pidB f g i m := by unfold pidB; rw [sees_isR h, show prV f g' i = prV f g i from h _]
theorem sees_fdR {g' : VwF} (h : ∀ j, vgetF f g' j = vgetF f g j) (i d : Int) : fdR f g' i d = fdR f g i d := by unfold fdR; rw [sees_isR h]
theorem sees_fdB {g' : VwF} (h : ∀ j, vgetF f g' j = vgetF f g j) (i d : Int) : fdB f g' i d = fdB f g i d := by unfold fdB; rw [sees_fdR h, show prV f g' i = prV f g i from h _]
theorem sees_fdA {g' : VwF} (h : ∀ j, vgetF f g' j = vgetF f g j) (i d : Int) : fdA f g' i d = fdA f g i d := by unfold fdA; rw [sees_fdB h, show prV f g' i = prV f g i from h _]
theorem sees_fdV {g' : VwF} (h : ∀ j, vgetF f g' j = vgetF f g j) (i d : Int) : fdV f g' i d = fdV f g i d := by unfold fdV; rw [sees_fdA h, sees_fdB h]
theorem sees_ffA {g' : VwF} (h : ∀ j, vgetF f g' j = vgetF f g j) (i : Int) : ffA f g' i = ffA f g i := by unfold ffA; simp only [sees_fdB h]
theorem sees_ffB {g' : VwF} (h : ∀ j, vgetF f g' j = vgetF f g j) (i : Int) : ffB f g' i = ffB f g i := by unfold ffB; rw [sees_isR h, sees_ffA h]
theorem sees_kids {g' : VwF} (h : ∀ j, vgetF f g' j = vgetF f g j) (m : Int) (n : Nat) : kidsN f g' m n = kidsN f g m n := by unfold kidsN; simp only [sees_parB h]
theorem sees_pidA {g' : VwF} (h : ∀ j, vgetF f g' j = vgetF f g j) (m : Int) : pidA f g' m = pidA f g m := by unfold pidA; simp only [sees_pidB h]
theorem sees_nwA {g' : VwF} (h : ∀ j, vgetF f g' j = vgetF f g j) : nwA f g' = nwA f g := by unfold nwA; rw [show ptV f g' = ptV f g from h _]

theorem kids_succ (m : Int) (n : Nat) : kidsN f g m (n + 1) = kidsN f g m n ++ if parB f g (n : Int) m = true then [(n : Int)] else [] := by
  unfold kidsN
  rw [List.range_succ, List.filter_append, List.map_append]
  congr 1
  by_cases e : parB f g (n : Int) m = true <;> simp [e]
theorem kids_len (m : Int) (n : Nat) : (kidsN f g m n).length ≤ n := by
  unfold kidsN
  rw [List.length_map]
  exact Nat.le_trans (List.length_filter_le _ _) (by simp)
theorem pidA_at {m : Int} {i : Nat} (h2 : i < 8) (ha : ∀ j : Nat, j < i → pidB f g (j : Int) m = false) (hi : pidB f g (i : Int) m = true) : pidA f g m = (i : Int) := by
  unfold pidA; rw [find_first h2 ha hi]; rfl
theorem pidA_none {m : Int} (ha : ∀ j : Nat, j < 8 → pidB f g (j : Int) m = false) : pidA f g m = 8 := by unfold pidA; rw [find_not ha]; rfl
theorem pidA_pos (m : Int) : 0 ≤ pidA f g m := elim_pos (n := 8)
theorem ffA_at {k : Int} {i : Nat} (h2 : i < 6) (ha : ∀ j : Nat, j < i → fdB f g k (j : Int) = true) (hi : fdB f g k (i : Int) = false) : ffA f g k = (i : Int) := by
  unfold ffA; rw [find_first h2 (fun j hj => by rw [ha j hj]; rfl) (by rw [hi]; rfl)]; rfl
theorem ffA_none {k : Int} (ha : ∀ j : Nat, j < 6 → fdB f g k (j : Int) = true) : ffA f g k = 6 := by unfold ffA; rw [find_not (fun j hj => by rw [ha j hj]; rfl)]; rfl
theorem ffA_pos (k : Int) : 0 ≤ ffA f g k := elim_pos (n := 6)

/-- What each call leaves. -/
theorem nw_get (par : Int) (h : nwA f g < 8) (j : K2) : vgetF f (nwT f g par) j =
    if j = (4, nwA f g) then prN (wrap64 (par + 1)) (nwV (ptV f g) (nwA f g)).n1 else if j = (3, 0) then nwV (ptV f g) (nwA f g) else vgetF f g j := by
  have h0 : 0 ≤ nwA f g := free8_pos _
  unfold nwT
  rw [if_pos h, get_putX (plc_r4 h0 h), get_putX plc_t3, get_get]
theorem nw_full (par : Int) (h : ¬ nwA f g < 8) : nwT f g par = vgetT g (3, 0) := by unfold nwT; rw [if_neg h]
theorem go_get {i : Int} (r1 : 0 ≤ i) (r2 : i < 8) (j : K2) : vgetF f (goT f g i) j =
    if j = (3, 0) then withN (ptV f g) (clrN (ptV f g).n0 i) else if j = (12, i) then zeroV else if j = (4, i) then zeroV else vgetF f g j := by
  unfold goT
  rw [get_putX plc_t3, get_get, get_putX (plc_m12 r1 r2), get_putX (plc_r4 r1 r2)]
theorem fr_get {i : Int} (h : isR f g i = true) (j : K2) : vgetF f (frT f g i) j =
    if j = (3, 0) then withN (ptV f g) (clrN (ptV f g).n0 i) else if j = (12, i) then zeroV else if j = (4, i) then zeroV else vgetF f g j := by
  obtain ⟨r1, r2⟩ := isR_range h
  unfold frT
  rw [if_pos h, go_get r1 r2, get_stT, show ptV f (stT f g i) = ptV f g from get_stT _ _]
theorem fr_no {i : Int} (h : isR f g i = false) : frT f g i = stT f g i := by unfold frT; rw [if_neg (by simp [h])]
theorem sd_get {i d a : Int} (h : sdB f g i d a = true) (j : K2) : vgetF f (sdT f g i d a) j = if j = (4, i) then setD (prV f g i) d (sdN a) else vgetF f g j := by
  have hr : fdR f g i d = true := by unfold sdB at h; simp only [Bool.and_eq_true] at h; exact h.1
  obtain ⟨r1, r2⟩ := isR_range (fdR_range hr).1
  unfold sdT
  rw [if_pos h, get_putX (plc_r4 r1 r2), get_get, get_stT]
theorem sd_no {i d a : Int} (h : sdB f g i d a = false) : sdT f g i d a = stT f g i := by unfold sdT; rw [if_neg (by simp [h])]
end

theorem below6 {d : Int} (h : 0 ≤ d) (h' : d < 6) : d = 0 ∨ d = 1 ∨ d = 2 ∨ d = 3 ∨ d = 4 ∨ d = 5 := by omega
theorem dsc_set (x : V) {d : Int} (h : 0 ≤ d) (h' : d < 6) (a : Int) {e : Int} (k : 0 ≤ e) (k' : e < 6) : dsc (setD x d a) e = if e = d then a else dsc x e := by
  rcases below6 h h' with rfl | rfl | rfl | rfl | rfl | rfl <;> rcases below6 k k' with rfl | rfl | rfl | rfl | rfl | rfl <;> rfl
theorem set_s (x : V) (d a : Int) : (setD x d a).s = x.s := by
  unfold setD; repeat' split
  all_goals rfl
theorem set_n0 (x : V) (d a : Int) : (setD x d a).n0 = x.n0 := by
  unfold setD; repeat' split
  all_goals rfl

section
variable {f : StF} {g : VwF}
theorem Small.usT (h : Small f g) (i : Int) : Small f (usT g i) := by unfold Go.Proofs.YtbhpkjedkccdpaaDoor.usT; split; exact h.get _; exact h
theorem Small.stT (h : Small f g) (i : Int) : Small f (stT f g i) := by
  unfold Go.Proofs.YtbhpkjedkccdpaaDoor.stT
  split
  · exact (h.usT i).get _
  · exact h.usT i
theorem Small.hsT (h : Small f g) (i : Int) : Small f (hsT f g i) := by
  unfold Go.Proofs.YtbhpkjedkccdpaaDoor.hsT
  split
  · exact (h.stT i).get _
  · exact h.stT i
theorem Small.runn (h : Small f g) (n : Nat) : Small f (runnT f g n) := by
  induction n with
  | zero => exact h
  | succ n ih => exact ih.hsT _
theorem Small.fdT (h : Small f g) (i d : Int) : Small f (fdT f g i d) := by
  unfold Go.Proofs.YtbhpkjedkccdpaaDoor.fdT
  split
  · exact (h.stT i).get _
  · exact h.stT i
theorem Small.ffN (h : Small f g) (i : Int) (n : Nat) : Small f (ffN f g i n) := by
  induction n with
  | zero => exact h.stT i
  | succ n ih => exact ih.fdT _ _
theorem Small.ffT (h : Small f g) (i : Int) : Small f (ffT f g i) := by
  unfold Go.Proofs.YtbhpkjedkccdpaaDoor.ffT
  split
  · exact h.ffN _ _
  · exact h.stT i
theorem Small.sdT (h : Small f g) (i d a : Int) : Small f (sdT f g i d a) := by
  unfold Go.Proofs.YtbhpkjedkccdpaaDoor.sdT
  split
  · exact ((h.stT i).get _).put (4, i) (x := setD (prV f g i) d (sdN a)) (by rw [set_s]; exact h.val (4, i))
  · exact h.stT i
theorem Small.frT (h : Small f g) (i : Int) : Small f (frT f g i) := by
  unfold Go.Proofs.YtbhpkjedkccdpaaDoor.frT
  split
  · exact ((((h.stT i).put (4, i) zero_small).put (12, i) zero_small).get _).put (3, 0) (x := withN (ptV f (Go.Proofs.YtbhpkjedkccdpaaDoor.stT f g i)) _) ((h.stT i).val (3, 0))
  · exact h.stT i
theorem Small.nwT (h : Small f g) (par : Int) : Small f (nwT f g par) := by
  unfold Go.Proofs.YtbhpkjedkccdpaaDoor.nwT
  split
  · exact ((h.get _).put (3, 0) (x := nwV (ptV f g) (nwA f g)) (h.val (3, 0))).put (4, nwA f g) (x := prN _ _) (by show ByteArray.empty.size ≤ 200; decide)
  · exact h.get _
end
end Go.Proofs.YtbhpkjedkccdpaaDoor
