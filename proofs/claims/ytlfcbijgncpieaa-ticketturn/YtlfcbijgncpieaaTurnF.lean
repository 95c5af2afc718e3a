/- What holds of tries that are picked round and round; no conditions. -/
import Derived.Test.YtlfcbijgncpieaaIntRow
namespace Go.Proofs.Ytlfcbijgncpieaa
open Go.RowKit

/-- Numbers as they lie in a row. -/
def zs (l : List Nat) : List Int := l.map (fun x : Nat => (x : Int))

theorem zs_len (l : List Nat) : (zs l).length = l.length := by simp [zs]

/-- Each number below j, once. -/
structure Perm (j : Nat) (l : List Nat) : Prop where
  len : l.length = j
  lt : ∀ x ∈ l, x < j
  once : l.Nodup

theorem Perm.nil : Perm 0 [] := ⟨rfl, fun x h => by simp at h, List.nodup_nil⟩

theorem Perm.ins {j p : Nat} {l : List Nat} (h : Perm j l) (hp : p ≤ j) : Perm (j + 1) (l.take p ++ [j] ++ l.drop p) := by
  have hj : j ∉ l := fun hm => by have := h.lt j hm; omega
  refine ⟨by have := h.len; simp; omega, fun x hx => ?_, ?_⟩
  · simp only [List.mem_append, List.mem_singleton] at hx
    rcases hx with (hx | rfl) | hx
    · have := h.lt x (List.mem_of_mem_take hx); omega
    · omega
    · have := h.lt x (List.mem_of_mem_drop hx); omega
  · have hp : (l.take p ++ [j] ++ l.drop p).Perm (j :: l) := by
      rw [List.append_assoc]
      have := List.perm_middle (a := j) (l₁ := l.take p) (l₂ := l.drop p)
      simpa using this
    exact hp.nodup_iff.2 (List.nodup_cons.2 ⟨hj, h.once⟩)

theorem Perm.at {j p : Nat} {l : List Nat} (h : Perm j l) (hp : p < j) : qd l p < j := by
  have hl : p < l.length := by rw [h.len]; exact hp
  have : qd l p = l[p] := by simp [qd, hl]
  rw [this]
  exact h.lt _ (List.getElem_mem hl)

theorem Perm.inj {j p q : Nat} {l : List Nat} (h : Perm j l) (hp : p < j) (hq : q < j) (e : qd l p = qd l q) : p = q := by
  have hl : p < l.length := by rw [h.len]; exact hp
  have hl' : q < l.length := by rw [h.len]; exact hq
  have h1 : qd l p = l[p] := by simp [qd, hl]
  have h2 : qd l q = l[q] := by simp [qd, hl']
  rw [h1, h2] at e
  exact (List.getElem_inj h.once).1 e

theorem row_form {w : World} {base j : Nat} {v : Value} {xs : List Value} (h : w.ownsRow base 3 1 v j xs) :
    ∃ po pc, v = .slice po j pc ∧ j ≤ pc ∧ pc ≤ maxLen ∧ ((po = none ∧ j = 0 ∧ pc = 0) ∨ ∃ g, po = some ⟨g, 0, none⟩) := by
  rcases h.2 with ⟨rfl, rfl⟩ | ⟨g, cap, cur, rfl, hb, hg, hnc, hcm, hcs, htake⟩
  · exact ⟨none, 0, rfl, Nat.le_refl _, by unfold maxLen; omega, .inl ⟨rfl, rfl, rfl⟩⟩
  · exact ⟨_, cap, rfl, hnc, hcm, .inr ⟨g, rfl⟩⟩

theorem own_base {w : World} {base base' e size n : Nat} {v : Value} {xs : List Value} (h : w.ownsRow base e size v n xs) (hb : base' ≤ base) : w.ownsRow base' e size v n xs := by
  refine ⟨h.1, ?_⟩
  rcases h.2 with hn | ⟨g, cap, cur, rfl, h1, rest⟩
  · exact .inl hn
  · exact .inr ⟨g, cap, cur, rfl, Nat.le_trans hb h1, rest⟩

theorem row_ins {w0 w : World} {v : Value} {l : List Nat} {j p B : Nat} (hl : l.length = j) (hp : p ≤ j) (hB : B ≤ w0.heap.size) (h : OwnI w0 v (zs (l.take p) ++ [(j : Int)] ++ zs (l.drop p)) w) : w.ownsRow B 3 1 v (j + 1) (ints (zs (l.take p ++ [j] ++ l.drop p))) := by
  have e : zs (l.take p) ++ [(j : Int)] ++ zs (l.drop p) = zs (l.take p ++ [j] ++ l.drop p) := by simp [zs]
  rw [e] at h
  have h2 := h.own
  rw [show (zs (l.take p ++ [j] ++ l.drop p)).length = j + 1 by simp [zs]; omega] at h2
  exact own_base h2 hB

theorem row_cell {w : World} {base g n cap p : Nat} {l : List Nat} (h : w.ownsRow base 3 1 (.slice (some ⟨g, 0, none⟩) n cap) n (ints (zs l))) (hp : p < l.length) : w.cell? ⟨g, p, none⟩ = some (.int .i64 (qd l p)) := by
  have hc := h.cells (g := g) rfl p (.int .i64 (qd l p)) (by simp [ints, zs, qd, hp])
  rw [Addr.add_lit, Nat.zero_add] at hc
  exact hc

/-- The try at place p of the order is as f says. -/
def Lay (j : Nat) (pl : List Nat) (f : Nat → T) (ts : List T) : Prop := ∀ p, p < j → td ts (qd pl p) = f p

theorem Lay.put {j : Nat} {pl : List Nat} {f g : Nat → T} {ts : List T} (h : Lay j pl f ts) (hP : Perm j pl) (hl : ts.length = j) {p : Nat} (hp : p < j) (x : T) (hg : ∀ q, q < j → g q = if q = p then x else f q) : Lay j pl g (ts.set (qd pl p) x) := by
  intro q hq
  rw [td_set (by rw [hl]; exact hP.at hq), hg q hq]
  by_cases e : q = p
  · subst e; rw [if_pos rfl, if_pos rfl]
  · rw [if_neg (fun e2 => e (hP.inj hq hp e2.symm)), if_neg e]; exact h q hq

theorem Lay.same {j : Nat} {pl : List Nat} {f g : Nat → T} {ts : List T} (h : Lay j pl f ts) (hg : ∀ q, q < j → g q = f q) : Lay j pl g ts := fun q hq => by rw [hg q hq]; exact h q hq

/-- Those ahead of q have their tickets. -/
def took (q p : Nat) : T := if p < q then ⟨0, 1, p⟩ else ⟨0, 0, -1⟩

/-- Those ahead of tn are done, tn holds or waits, those behind it wait. -/
def stt (tn : Nat) (h : Bool) (p : Nat) : T := if p < tn then ⟨0, 3, p⟩ else if p = tn ∧ h = true then ⟨0, 2, p⟩ else ⟨0, 1, p⟩

def tnOf (j r p : Nat) : Nat := if j < r then j else if p < r then r - 1 else r
def hOf (j r p : Nat) : Bool := if j < r then false else decide (p ≠ r)

theorem took_step {q p : Nat} : took (q + 1) p = if p = q then ⟨0, 1, q⟩ else took q p := by
  unfold took
  by_cases h : p = q
  · subst h; rw [if_pos (by omega), if_pos rfl]
  · rw [if_neg h]
    by_cases h2 : p < q
    · rw [if_pos (by omega), if_pos h2]
    · rw [if_neg (by omega), if_neg h2]

theorem took_all {j p : Nat} (hp : p < j) : stt 0 false p = took j p := by
  unfold stt took
  rw [if_neg (by omega), if_neg (by simp), if_pos hp]

/-- What the pick at place p of round r comes to. -/
theorem pick_cases {j r p : Nat} (hp : p < j) :
    (p < tnOf j r p ∧ tnOf j r (p + 1) = tnOf j r p ∧ hOf j r (p + 1) = hOf j r p) ∨
    (p = tnOf j r p ∧ hOf j r p = true ∧ tnOf j r (p + 1) = tnOf j r p + 1 ∧ hOf j r (p + 1) = false) ∨
    (p = tnOf j r p ∧ hOf j r p = false ∧ tnOf j r (p + 1) = tnOf j r p ∧ hOf j r (p + 1) = true) ∨
    (tnOf j r p < p ∧ tnOf j r (p + 1) = tnOf j r p ∧ hOf j r (p + 1) = hOf j r p) := by
  unfold tnOf hOf
  by_cases h1 : j < r
  · simp only [if_pos h1]; exact .inl ⟨hp, trivial, trivial⟩
  · simp only [if_neg h1]
    by_cases h2 : p < r
    · rw [if_pos h2]
      by_cases h3 : p + 1 < r
      · left; rw [if_pos h3]; refine ⟨by omega, rfl, ?_⟩; simp; omega
      · right; left; rw [if_neg h3]; refine ⟨by omega, by simp; omega, by omega, by simp; omega⟩
    · rw [if_neg h2, if_neg (by omega)]
      by_cases h3 : p = r
      · right; right; left; refine ⟨h3, by simp [h3], rfl, by simp; omega⟩
      · right; right; right; refine ⟨by omega, rfl, ?_⟩; simp; omega

theorem round_on {j r : Nat} : tnOf j (r + 1) 0 = tnOf j r j ∧ hOf j (r + 1) 0 = hOf j r j := by
  unfold tnOf hOf
  rcases (show j < r ∨ j = r ∨ r < j by omega) with h1 | rfl | h1
  · simp only [if_pos h1, if_pos (show j < r + 1 by omega)]; exact ⟨trivial, trivial⟩
  · simp
  · simp only [if_neg (show ¬ j < r by omega), if_neg (show ¬ j < r + 1 by omega)]
    refine ⟨by simp, ?_⟩
    simp; omega

theorem tnOf_le {j r p : Nat} : tnOf j r p ≤ j := by
  unfold tnOf
  by_cases h1 : j < r
  · rw [if_pos h1]; exact Nat.le_refl _
  · rw [if_neg h1]; split <;> omega

theorem tnOf_start {j : Nat} : tnOf j 0 0 = 0 := by simp [tnOf]
theorem hOf_start {j : Nat} : hOf j 0 0 = false := by simp [hOf]
theorem tnOf_end {j r : Nat} (h : j < r) (p : Nat) : tnOf j r p = j := by unfold tnOf; rw [if_pos h]

theorem stt_done {tn p : Nat} {h : Bool} (hp : p < tn) : stt tn h p = ⟨0, 3, p⟩ := by unfold stt; rw [if_pos hp]
theorem stt_holds {p : Nat} : stt p true p = ⟨0, 2, p⟩ := by unfold stt; rw [if_neg (by omega), if_pos ⟨rfl, rfl⟩]
theorem stt_next {p : Nat} : stt p false p = ⟨0, 1, p⟩ := by unfold stt; rw [if_neg (by omega), if_neg (by simp)]
theorem stt_late {tn p : Nat} {h : Bool} (hp : tn < p) : stt tn h p = ⟨0, 1, p⟩ := by unfold stt; rw [if_neg (by omega), if_neg (by omega)]

theorem stt_leave (tn q : Nat) : stt (tn + 1) false q = if q = tn then ⟨0, 3, tn⟩ else stt tn true q := by
  by_cases e : q = tn
  · subst e; rw [if_pos rfl, stt_done (by omega)]
  · rw [if_neg e]
    rcases (show q < tn ∨ q = tn + 1 ∨ tn + 1 < q by omega) with h | rfl | h
    · rw [stt_done (by omega), stt_done h]
    · rw [stt_next, stt_late (by omega)]
    · rw [stt_late h, stt_late (by omega)]

theorem stt_win (tn q : Nat) : stt tn true q = if q = tn then ⟨0, 2, tn⟩ else stt tn false q := by
  by_cases e : q = tn
  · subst e; rw [if_pos rfl, stt_holds]
  · rw [if_neg e]
    rcases (show q < tn ∨ tn < q by omega) with h | h
    · rw [stt_done h, stt_done h]
    · rw [stt_late h, stt_late h]

/-- The order's row stays, whatever a try does. -/
theorem row_step {B n t : Nat} {c : Int} {v pv : Value} {qs : List Nat} {ts : List T} {w0 w w' : World} {j y : Nat} {xs : List Value} (h : Yard B n t c v qs ts w0 w) (hr : w.ownsRow (B + 2) 3 1 pv j xs) (hy : y < qs.length) (hk : Kept (fun k => k = B + 1 ∨ k = B ∨ k = qd qs y) w w') : w'.ownsRow (B + 2) 3 1 pv j xs := by
  refine own_kept hr hk (fun k e x => ?_)
  have := (hr.lt k e).1
  rcases x with rfl | rfl | rfl
  · omega
  · omega
  · exact row_off hr (h.try hy) (by decide) e
end Go.Proofs.Ytlfcbijgncpieaa
