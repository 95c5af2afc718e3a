/- The guarded call as the statement makes it; its tables as they are made; no conditions. -/
import Derived.Test.YtlfcbijgncpieaaHall
namespace Go.Proofs.Ytlfcbijgncpieaa
open Go.RowKit

theorem AskIn.still {lb ib vb jb mb gb p b q g len cap xb off r j n vc : Nat} {leave : Bool} {l : Lk} {c : Int} {a : Nat} {s t : Int} {got : Bool} {w w' : World} (h : AskIn lb ib vb jb mb gb p b q g len cap xb off r j n vc leave l c a s t got w) (hk : Kept (fun _ => False) w w') : AskIn lb ib vb jb mb gb p b q g len cap xb off r j n vc leave l c a s t got w' :=
  ⟨hk.at h.lbox (by simp), hk.at h.ibox (by simp), hk.at h.vbox (by simp), hk.at h.jbox (by simp), hk.at h.mbox (by simp), hk.at h.gbox (by simp), hk.cell h.ask (by simp), hk.cell h.row (by simp), h.mem.kept hk (by simp) (by simp), hk.at h.try_ (by simp), h.rl, h.jn, h.far, h.own⟩

theorem ask_g (lb ib vb jb mb gb p b q g len cap xb off r j n vc : Nat) (leave : Bool) (l : Lk) (c : Int) (a : Nat) (s t : Int) (d : Nat) (ha : a = 1 ∨ a = 3) (hl : l.low d) (hd : d ≤ 1000000) (hc : 0 ≤ c ∧ c ≤ 1000000) (hs : 0 ≤ s ∧ s ≤ 3) (hp : q ≠ p) (hb : q ≠ b) (w : World) (h : AskIn lb ib vb jb mb gb p b q g len cap xb off r j n vc leave l c a s t false w) :
    Calls Try.prog 16 #[.func (.func 17) #[] #[.pointer (some ⟨lb, 0, none⟩), .pointer (some ⟨ib, 0, none⟩), .pointer (some ⟨vb, 0, none⟩), .pointer (some ⟨jb, 0, none⟩), .pointer (some ⟨mb, 0, none⟩), .pointer (some ⟨gb, 0, none⟩)]] w fun e w' =>
      e = .returned (.tuple #[(play leave a l s t).o.told, .bool (play leave a l s t).o.stopped]) ∧ Gone p b q gb c (play leave a l s t) w' ∧ Kept (fun k => k = p ∨ k = b ∨ k = q ∨ k = gb) w w' := by
  have l1 := lt_at h.mem.mem
  have l2 := lt_at h.mem.row
  have l3 := lt_at h.try_
  have l4 := lt_at h.gbox
  refine guard_kept 17 _ (fun _ _ => by kernel_rfl) _ (fun k => k = p ∨ k = b ∨ k = q ∨ k = gb) _ w (fun k hk => by omega) ?_ ?_
  · rintro w1 w2 ⟨h1, h2, h3⟩ _ hk
    exact ⟨h1.kept hk (by omega) (by omega), hk.at h2 (by omega), hk.at h3 (by omega)⟩
  · cases leave
    · exact ask_step lb ib vb jb mb gb p b q g len cap xb off r j n vc l c a s t d ha hl hd hc hs hp hb (inGuard w) (h.still (inGuard_kept w))
    · exact ask_leave lb ib vb jb mb gb p b q g len cap xb off r j n vc l c a s t d ha hl hd hc hp hb (inGuard w) (h.still (inGuard_kept w))

theorem Hall.laid {B O K S X Y I r j len cap xb off g n vc a : Nat} {leave : Bool} {qs : List Nat} {ts : List T} {l : Lk} {c s t : Int} {la lk ls lx ly : List Int} {w0 w : World} (h : Hall B O K S X Y I r (.slice (some ⟨xb, off, none⟩) len cap) (.slice (some ⟨g, 0, none⟩) n vc) qs ts l c la lk ls lx ly w0 w) (hj : j < qs.length)
    (ht : TryIn (qd qs j) a s t w) (hc : w0.cell? ⟨xb, off + r * 2 + 1, none⟩ = some (.bool leave)) (hr : r < len) : AskIn B I (B + 4) w.heap.size (B + 3) (w.heap.size + 1) (B + 2) (B + 1) (qd qs j) g len cap xb off r j n vc leave l c a s t false (laidW w j) := by
  have k0 := laidW_kept w j
  have hl := h.core.tries.low j hj
  have lq := lt_at ht
  have hn := h.core.tries.size
  have hg := h.core.tries.own.lt g rfl
  have lm := lt_at h.core.mbox
  have lv := lt_at h.core.vbox
  have ng : ¬ g = qd qs j := fun e => by
    obtain ⟨cur, hcur⟩ := row_type h.core.tries.own (k := g) rfl
    subst e
    exact absurd (try_type ht hcur) (by decide)
  exact ⟨k0.at h.core.lbox (by simp), k0.at h.fI (by simp), k0.at h.core.vbox (by simp), laidW_j w j, k0.at h.core.mbox (by simp), laidW_g w j, k0.cell (h.core.kept.cell hc (by simp)) (by simp), k0.cell (h.core.tries.cell hj) (by simp), h.core.mem.kept k0 (by simp) (by simp), k0.at ht (by simp), hr, by omega, fun k hk => by omega, by omega⟩

/-- One try more. -/
theorem Core.push {B q g cap : Nat} {lv v : Value} {qs : List Nat} {ts : List T} {l : Lk} {c : Int} {w0 w w1 : World} {a s x : Int} {tmp : Obj} (h : Core B lv v qs ts l c w0 w) (hq : TryIn q a s x w) (hl : B + 8 ≤ q) (hn : ∀ i, i < qs.length → qd qs i ≠ q)
    (hown : w1.ownsRow (B + 8) 24 1 (.slice (some ⟨g, 0, none⟩) (qs.length + 1) cap) (qs.length + 1) (qs.map ptr ++ [ptr q])) (hg : (w.alloc tmp).grownBy w1 v.ownBlock) :
    Core B lv (.slice (some ⟨g, 0, none⟩) (qs.length + 1) cap) (qs ++ [q]) (ts ++ [⟨a, s, x⟩]) l c w0 (w1.setCell ⟨B + 4, 0, none⟩ (.slice (some ⟨g, 0, none⟩) (qs.length + 1) cap)) ∧ Kept (fun k => B + 8 ≤ k) w w1 := by
  obtain ⟨h1, hk⟩ := h.tries.push hq hl hn hown hg
  have kk : Kept (fun k => k = B + 4) w1 (w1.setCell ⟨B + 4, 0, none⟩ (.slice (some ⟨g, 0, none⟩) (qs.length + 1) cap)) := Kept.setCell (X := fun k => k = B + 4) (Kept.refl _ _) (fun _ => rfl) _
  have hb := h.base
  refine ⟨⟨kk.at (hk.at h.lbox (by omega)) (by omega), (h.mem.kept hk (by omega) (by omega)).kept kk (by omega) (by omega), kk.at (hk.at h.mbox (by omega)) (by omega), set_at (hk.at h.vbox (by omega)) 0 _, h1.kept kk (fun k e => by omega), (h.kept.trans hk (fun k hk' e => by omega)).trans kk (fun k hk' e => by omega), h.base⟩, hk⟩

/-- The tries and the tables as they are made. -/
def t0 (i : Nat) : T := ⟨1 + 2 * ((i : Int) % 2), 0, -1⟩
def made (i : Nat) : List T := (List.range i).map t0
def rowK (k i : Nat) : List Int := (List.range k).map fun x => if x < i then -1 else 0
def rowS (k i : Nat) : List Int := (List.range k).map fun x => if x < i then (t0 x).a else 0

theorem t0_a (i : Nat) : ∃ a : Nat, (t0 i).a = a ∧ (a = 1 ∨ a = 3) := ⟨1 + 2 * (i % 2), by simp [t0], by omega⟩

theorem made_succ (i : Nat) : made (i + 1) = made i ++ [t0 i] := by simp [made, List.range_succ]
theorem made_len (i : Nat) : (made i).length = i := by simp [made]
theorem made_td {i k : Nat} (h : i < k) : td (made k) i = t0 i := by simp [td, made, h]
theorem row_start (k : Nat) (f : Nat → Int) : (List.range k).map (fun x => if x < 0 then f x else 0) = List.replicate k 0 := by
  apply List.ext_getElem
  · simp
  · intro i h1 h2; simp
theorem row_put' (k i : Nat) (f : Nat → Int) : ((List.range k).map (fun x => if x < i then f x else 0)).set i (f i) = (List.range k).map (fun x => if x < i + 1 then f x else 0) := by
  apply List.ext_getElem
  · simp
  · intro y h1 h2
    simp only [List.getElem_set, List.getElem_map, List.getElem_range]
    by_cases e : i = y
    · subst e; simp
    · rw [if_neg e]
      by_cases h3 : y < i
      · rw [if_pos h3, if_pos (by omega)]
      · rw [if_neg h3, if_neg (by omega)]
theorem row_get' {k i x : Nat} (f : Nat → Int) (hx : x < k) : ((List.range k).map (fun y => if y < i then f y else 0))[x]? = some (if x < i then f x else 0) := by simp [hx]
theorem rowK_all (k : Nat) : rowK k k = (made k).map T.t := by
  apply List.ext_getElem
  · simp [rowK, made]
  · intro y h1 h2
    have hy : y < k := by simpa [rowK] using h1
    simp [rowK, made, t0, hy]
theorem rowS_all (k : Nat) : rowS k k = (made k).map T.a := by
  apply List.ext_getElem
  · simp [rowS, made]
  · intro y h1 h2
    have hy : y < k := by simpa [rowS] using h1
    simp [rowS, made, t0, hy]
theorem rowO_all (k : Nat) : List.replicate k (0 : Int) = (made k).map T.s := by
  apply List.ext_getElem
  · simp [made]
  · intro y h1 h2; simp [made, t0]

theorem rowS_at {k j i : Nat} (hj : j < k) : (ints (rowS k i)).toArray[j]? = some (.int .i64 (if j < i then (t0 j).a else 0)) := by
  rw [rowS]; simpa using ints_get (row_get' (i := i) (fun x => (t0 x).a) hj)
theorem rowK_at {k j i : Nat} (hj : j < k) : (ints (rowK k i)).toArray[j]? = some (.int .i64 (if j < i then -1 else 0)) := by
  rw [rowK]; simpa using ints_get (row_get' (i := i) (fun _ => -1) hj)
theorem rowS_put (k j : Nat) : (ints (rowS k j)).toArray.setIfInBounds j (.int .i64 (t0 j).a) = (ints (rowS k (j + 1))).toArray := by
  rw [rowS, rowS, ← row_put' k j (fun x => (t0 x).a), ints_set]; simp
theorem rowK_put (k j : Nat) : (ints (rowK k j)).toArray.setIfInBounds j (.int .i64 (-1)) = (ints (rowK k (j + 1))).toArray := by
  rw [rowK, rowK, ← row_put' k j (fun _ => -1), ints_set]; simp

theorem col_set (f : T → Int) (ts : List T) (j : Nat) (x : T) : (ts.set j x).map f = (ts.map f).set j (f x) := by simp [List.map_set]
theorem col_get (f : T → Int) {ts : List T} {j : Nat} (hj : j < ts.length) : (ts.map f)[j]? = some (f (td ts j)) := by simp [td, hj]
theorem col_same (f : T → Int) {ts : List T} {j : Nat} (hj : j < ts.length) (x : T) (h : f x = f (td ts j)) : (ts.set j x).map f = ts.map f := by
  rw [col_set, h]
  apply List.ext_getElem?
  intro i
  by_cases e : j = i
  · subst e; rw [List.getElem?_set_self (by simpa using hj), col_get f hj]
  · rw [List.getElem?_set_ne e]

/-- Tries of the two locks, each in a state that is one. -/
def Sane (ts : List T) : Prop := ∀ i, i < ts.length → ∃ a : Nat, (td ts i).a = a ∧ (a = 1 ∨ a = 3) ∧ 0 ≤ (td ts i).s ∧ (td ts i).s ≤ 3

theorem Sane.made (k : Nat) : Sane (made k) := fun i hi => by
  have hk : i < k := by rwa [made_len] at hi
  obtain ⟨a, h1, h2⟩ := t0_a i
  rw [made_td hk]
  exact ⟨a, h1, h2, by simp [t0], by simp [t0]⟩

theorem Sane.set {ts : List T} (h : Sane ts) {j a : Nat} {x : T} (hx : x.a = a) (ha : a = 1 ∨ a = 3) (hs : 0 ≤ x.s ∧ x.s ≤ 3) : Sane (ts.set j x) := fun i hi => by
  rw [List.length_set] at hi
  rw [td_set hi]
  by_cases e : j = i
  · rw [if_pos e]; exact ⟨a, hx, ha, hs.1, hs.2⟩
  · rw [if_neg e]; exact h i hi

theorem play_facts (leave : Bool) (a : Nat) (l : Lk) (s t : Int) (d : Nat) (hl : l.low d) (hs : 0 ≤ s ∧ s ≤ 3) : (play leave a l s t).x.a = a ∧ (0 ≤ (play leave a l s t).x.s ∧ (play leave a l s t).x.s ≤ 3) ∧ (play leave a l s t).l.low (d + 1) ∧ (play leave a l s t).dc ≤ 1 := by
  cases leave
  · rcases (show s = 0 ∨ s = 1 ∨ s = 2 ∨ s = 3 by omega) with rfl | rfl | rfl | rfl
    · rw [play_s0]; exact ⟨rfl, ⟨by simp, by simp⟩, Lk.low_upN hl, Nat.le_refl _⟩
    · by_cases ht : (l.tn a : Int) = t
      · rw [play_s1 ht]; exact ⟨rfl, ⟨by simp, by simp⟩, Lk.low_more hl, Nat.le_refl _⟩
      · rw [play_s1n ht]; exact ⟨rfl, ⟨by simp, by simp⟩, Lk.low_more hl, Nat.le_refl _⟩
    · rw [play_s2]; exact ⟨rfl, ⟨by simp, by simp⟩, Lk.low_more hl, by simp⟩
    · rw [play_s3]; exact ⟨rfl, ⟨by simp, by simp⟩, Lk.low_more hl, by simp⟩
  · by_cases h2 : s = 2
    · subst h2; rw [play_l2]; exact ⟨rfl, ⟨by simp, by simp⟩, Lk.low_upT hl, Nat.le_refl _⟩
    · rw [play_lx h2]; exact ⟨rfl, hs, Lk.low_more hl, by simp⟩
end Go.Proofs.Ytlfcbijgncpieaa
