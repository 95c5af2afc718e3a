
/- Two processes and a pool: what each call leaves, as plain functions; no conditions. -/
import Derived.Test.YtbhpkjedkccdpaaDoorSpF
namespace Go.Proofs.YtbhpkjedkccdpaaDoor
open Go.RowKit
set_option maxRecDepth 100000
set_option linter.unusedSimpArgs false

theorem byte_page {g : Nat} (h : g < 64) : (UInt8.ofNat g).toNat % 64 = g := by rw [UInt8.toNat_ofNat']; omega
theorem pages_bytes {l : List Nat} (h : ∀ g ∈ l, g < 64) {s : ByteArray} (hs : bl s = bytesN l) : pagesN s = l := by
  unfold pagesN bytesN at *
  rw [hs, List.map_map]
  conv => rhs; rw [← List.map_id l]
  exact List.map_congr_left fun g hg => byte_page (h g hg)
theorem size_bl (s : ByteArray) : s.size = (bl s).length := (bl_len s).symm

/-- F: what was free at first; P: what processes 0 and 1 have; W: what is on its way. -/
structure SpV (f : StF) (F : Int) (P : Nat → List Nat) (W : List Nat) (g : VwF) : Prop where
  own : OwnF F (P 0) (P 1) W (poV f g).n0 (poV f g).n1
  r : ∀ p : Nat, p < 2 → isR f g (p : Int) = true
  x : ∀ p : Nat, p < 2 → bl (prV f g (p : Int)).s = bytesN (P p)
  m : ∀ p : Nat, p < 2 → bl (meV f g (p : Int)).s = List.replicate (16 * (P p).length) 0
  six : ∀ p : Nat, p < 2 → (P p).length ≤ 6

section
variable {f : StF} {F : Int} {P : Nat → List Nat} {W : List Nat} {g g' : VwF}
theorem SpV.same (h : SpV f F P W g) (hg : ∀ j, vgetF f g' j = vgetF f g j) : SpV f F P W g' := by
  refine ⟨?_, fun p hp => by rw [sees_isR hg]; exact h.r p hp, fun p hp => ?_, fun p hp => ?_, h.six⟩
  · show OwnF F _ _ W (vgetF f g' (2, 0)).n0 (vgetF f g' (2, 0)).n1
    rw [hg]; exact h.own
  · show bl (vgetF f g' (4, (p : Int))).s = _
    rw [hg]; exact h.x p hp
  · show bl (vgetF f g' (12, (p : Int))).s = _
    rw [hg]; exact h.m p hp
theorem SpV.lt (h : SpV f F P W g) {p : Nat} (hp : p < 2) : ∀ q ∈ P p, q < 64 := by
  obtain rfl | rfl : p = 0 ∨ p = 1 := by omega
  · exact h.own.p
  · exact h.own.r
theorem SpV.size (h : SpV f F P W g) {p : Nat} (hp : p < 2) : (prV f g (p : Int)).s.size = (P p).length := by rw [size_bl, h.x p hp]; simp [bytesN]
theorem SpV.pages (h : SpV f F P W g) {p : Nat} (hp : p < 2) : pgL f g (p : Int) = (P p).map (fun j : Nat => (j : Int)) := by
  unfold pgL
  rw [if_pos (h.r p hp), pages_bytes (h.lt hp) (h.x p hp)]
/-- Process p's row turns; the tables stay. -/
theorem isR_turn {g g' : VwF} (h3 : vgetF f g' (3, 0) = vgetF f g (3, 0)) (h4 : ∀ i : Int, (vgetF f g' (4, i)).n0 = (vgetF f g (4, i)).n0) (i : Int) : isR f g' i = isR f g i := by
  unfold isR stA isU
  rw [show ptV f g' = ptV f g from h3, show (prV f g' i).n0 = (prV f g i).n0 from h4 i]
/-- What a call leaves that turns the pool, process p's pages and its memory. -/
theorem SpV.turn (h : SpV f F P W g) {p : Nat} (hp : p < 2) {y x m : V} {L W' : List Nat}
    (hget : ∀ j, vgetF f g' j = if j = (12, (p : Int)) then m else if j = (4, (p : Int)) then x else if j = (2, 0) then y else vgetF f g j)
    (hx0 : x.n0 = (prV f g (p : Int)).n0) (hx : bl x.s = bytesN L) (hm : bl m.s = List.replicate (16 * L.length) 0) (h6 : L.length ≤ 6)
    (ho : OwnF F (upn P p L 0) (upn P p L 1) W' y.n0 y.n1) : SpV f F (upn P p L) W' g' := by
  have hr : ∀ i : Int, isR f g' i = isR f g i := isR_turn (by rw [hget, if_neg (key_ne (by decide) _ _), if_neg (key_ne (by decide) _ _), if_neg (key_ne (by decide) _ _)]) (fun i => by
    rw [hget, if_neg (key_ne (by decide) _ _)]
    by_cases c : i = (p : Int)
    · subst c; rw [if_pos rfl]; exact hx0
    · rw [if_neg (key_ne2 c _ _), if_neg (key_ne (by decide) _ _)])
  refine ⟨?_, fun q hq => by rw [hr]; exact h.r q hq, fun q hq => ?_, fun q hq => ?_, fun q hq => ?_⟩
  · show OwnF F _ _ W' (vgetF f g' (2, 0)).n0 (vgetF f g' (2, 0)).n1
    rw [hget, if_neg (key_ne (by decide) _ _), if_neg (key_ne (by decide) _ _), if_pos rfl]
    exact ho
  · show bl (vgetF f g' (4, (q : Int))).s = bytesN (upn P p L q)
    rw [hget, if_neg (key_ne (by decide) _ _)]
    unfold upn
    by_cases c : q = p
    · subst c; rw [if_pos rfl, if_pos rfl]; exact hx
    · rw [if_neg (key_ne2 (by omega) _ _), if_neg (key_ne (by decide) _ _), if_neg c]; exact h.x q hq
  · show bl (vgetF f g' (12, (q : Int))).s = List.replicate (16 * (upn P p L q).length) 0
    rw [hget]
    unfold upn
    by_cases c : q = p
    · subst c; rw [if_pos rfl, if_pos rfl]; exact hm
    · rw [if_neg (key_ne2 (by omega) _ _), if_neg (key_ne (by decide) _ _), if_neg (key_ne (by decide) _ _), if_neg c]; exact h.m q hq
  · unfold upn
    by_cases c : q = p
    · rw [if_pos c]; exact h6
    · rw [if_neg c]; exact h.six q hq
theorem SpV.may (h : SpV f F P W g) {p : Nat} (hp : p < 2) {n : Nat} : grOk f g (p : Int) (n : Int) = (decide (n ≤ cntB (poV f g).n0) && decide (n + (P p).length ≤ 6)) := by
  unfold grOk grMay spIn
  rw [h.r p hp, h.size hp, decide_eq_true (by omega : (0 : Int) ≤ (n : Int))]
  have := h.six p hp
  rw [show decide ((n : Int) ≤ 6 - ((P p).length : Int)) = decide (n + (P p).length ≤ 6) from by rw [decide_eq_decide]; omega,
    show decide ((n : Int) ≤ (cntB (poV f g).n0 : Int)) = decide (n ≤ cntB (poV f g).n0) from by rw [decide_eq_decide]; omega]
  simp [Bool.and_comm]
theorem SpV.grow (h : SpV f F P W g) {p : Nat} (hp : p < 2) {n : Nat} (h1 : n ≤ cntB (poV f g).n0) (h2 : n + (P p).length ≤ 6) :
    SpV f F (upn P p (P p ++ picks (poV f g).n0 64 n)) W (grT f g (p : Int) (n : Int)) := by
  have hk : grOk f g (p : Int) (n : Int) = true := by rw [h.may hp, decide_eq_true h1, decide_eq_true h2]; rfl
  have hl : (picks (poV f g).n0 64 n).length = n := by rw [picks_len]; unfold cntB at h1; omega
  have hget := gr_get hk
  rw [Int.toNat_natCast] at hget
  refine h.turn hp hget rfl ?_ ?_ ?_ ?_
  · show bl (bs (bl (prV f g (p : Int)).s ++ bytesN _)) = _
    rw [bl_bs, h.x p hp]; simp [bytesN]
  · show bl (bs (bl (meV f g (p : Int)).s ++ _)) = _
    rw [bl_bs, h.m p hp, List.replicate_append_replicate, List.length_append, hl]
    congr 1; omega
  · rw [List.length_append, hl]; omega
  · obtain rfl | rfl : p = 0 ∨ p = 1 := by omega
    · exact h.own.grow n
    · exact (h.own.swap.grow n).swap
theorem SpV.shrinks (h : SpV f F P W g) {p : Nat} (hp : p < 2) {n : Nat} : shOk f g (p : Int) (n : Int) = decide (n ≤ (P p).length) := by
  unfold shOk spIn
  rw [h.r p hp, h.size hp, decide_eq_true (by omega : (0 : Int) ≤ (n : Int))]
  simp
theorem SpV.gone (h : SpV f F P W g) {p : Nat} (hp : p < 2) (n : Nat) : goneN (prV f g (p : Int)) (n : Int) = (P p).drop ((P p).length - n) ∧ left (prV f g (p : Int)) (n : Int) = (P p).length - n := by
  have e : left (prV f g (p : Int)) (n : Int) = (P p).length - n := by unfold left; rw [h.size hp, Int.toNat_natCast]
  refine ⟨?_, e⟩
  unfold goneN
  rw [e, pages_bytes (h.lt hp) (h.x p hp)]
theorem SpV.shrink (h : SpV f F P W g) {p : Nat} (hp : p < 2) {n : Nat} (hn : n ≤ (P p).length) :
    SpV f F (upn P p ((P p).take ((P p).length - n))) (W ++ (P p).drop ((P p).length - n)) (shT f g (p : Int) (n : Int)) := by
  have hk : shOk f g (p : Int) (n : Int) = true := by rw [h.shrinks hp, decide_eq_true hn]
  have hget := sh_get hk
  rw [(h.gone hp n).1, (h.gone hp n).2] at hget
  have h6 := h.six p hp
  have hl : ((P p).take ((P p).length - n)).length = (P p).length - n := by rw [List.length_take]; omega
  refine h.turn hp hget rfl ?_ ?_ ?_ ?_
  · show bl (bs _) = _
    rw [bl_bs, h.x p hp]; simp [bytesN, List.map_take]
  · show bl (bs _) = _
    rw [bl_bs, h.m p hp, List.take_replicate, hl]
    congr 1; omega
  · rw [hl]; omega
  · have e := List.take_append_drop ((P p).length - n) (P p)
    obtain rfl | rfl : p = 0 ∨ p = 1 := by omega
    · have := OwnF.shrink (F := F) (A := (P 0).take ((P 0).length - n)) (D := (P 0).drop ((P 0).length - n)) (R := P 1) (W := W) (n0 := (poV f g).n0) (n1 := (poV f g).n1) (by rw [e]; exact h.own)
      exact this
    · have := OwnF.shrink (F := F) (A := (P 1).take ((P 1).length - n)) (D := (P 1).drop ((P 1).length - n)) (R := P 0) (W := W) (n0 := (poV f g).n0) (n1 := (poV f g).n1) (by rw [e]; exact h.own.swap)
      exact this.swap
theorem back_cast (l : List Nat) (y : Int × Int) : backI y (l.map (fun j : Nat => (j : Int))) = backL y l := by
  unfold backI backL
  rw [List.foldl_map]
theorem SpV.back (h : SpV f F P W g) : SpV f F P [] (baT f g (W.map (fun j : Nat => (j : Int)))) ∧ cntB (poV f (baT f g (W.map (fun j : Nat => (j : Int))))).n0 = cntB (poV f g).n0 + W.length := by
  have hget := ba_get (f := f) (g := g) (W.map (fun j : Nat => (j : Int)))
  obtain ⟨o1, o2⟩ := h.own.back
  have e : poV f (baT f g (W.map (fun j : Nat => (j : Int)))) = baV (poV f g) (W.map (fun j : Nat => (j : Int))) := by show vgetF f _ (2, 0) = _; rw [hget, if_pos rfl]
  have e0 : (baV (poV f g) (W.map (fun j : Nat => (j : Int)))).n0 = (backL ((poV f g).n0, (poV f g).n1) W).1 := by show (backI _ _).1 = _; rw [back_cast]
  have e1 : (baV (poV f g) (W.map (fun j : Nat => (j : Int)))).n1 = (backL ((poV f g).n0, (poV f g).n1) W).2 := by show (backI _ _).2 = _; rw [back_cast]
  refine ⟨⟨?_, fun p hp => ?_, fun p hp => ?_, fun p hp => ?_, h.six⟩, by rw [e, e0]; exact o2⟩
  · rw [e, e0, e1]; exact o1
  · rw [isR_turn (by rw [hget, if_neg (key_ne (by decide) _ _)]) (fun i => by rw [hget, if_neg (key_ne (by decide) _ _)])]; exact h.r p hp
  · show bl (vgetF f _ (4, (p : Int))).s = _
    rw [hget, if_neg (key_ne (by decide) _ _)]; exact h.x p hp
  · show bl (vgetF f _ (12, (p : Int))).s = _
    rw [hget, if_neg (key_ne (by decide) _ _)]; exact h.m p hp
/-- What the statement counts of one page. -/
theorem SpV.one (h : SpV f F P W g) {q : Nat} (hq : q < 64) : (P 0).count q + (P 1).count q + W.count q + (hbN (poV f g).n0 q).toNat = (hbN F q).toNat := by
  have := h.own.cnt q hq; omega
end
end Go.Proofs.YtbhpkjedkccdpaaDoor
