
/- Stores and views, the code's side, first part: frames, keys, rows, maps, values; no conditions but lengths. -/
import Derived.Test.YtigfgnaakoicjaaRows
import Derived.WalkKit
import Derived.WalkLawsBesides
import Derived.Below
import Derived.Laws.EntriesVeiled
import Derived.BigQuiet
import Derived.Deep.QuietTactic
import Derived.Deep.RegionHeld3
import Derived.Laws.OwnMore
import Derived.Deep.AppendLies
import Derived.Deep.RegionLaw
import Derived.OwnWalk
import Derived.Lib.SmallJoins
import Derived.Maps.RangeRun
import Derived.Maps.RangeWalk
import Derived.Deep.MidRow
namespace Go.Proofs.Ytigfgnaakoicjaa
open Go.RowKit

/-- Outside X all that was there is as it was. -/
structure Kept (X : Nat → Prop) (w w' : World) : Prop where
  os : w'.os = w.os
  tape : w'.tape = w.tape
  output : w'.output = w.output
  size : w.heap.size ≤ w'.heap.size
  block : ∀ k, k < w.heap.size → ¬ X k → w'.heap[k]? = w.heap[k]?

theorem Kept.refl (X : Nat → Prop) (w : World) : Kept X w w := ⟨rfl, rfl, rfl, Nat.le_refl _, fun _ _ _ => rfl⟩

theorem Kept.trans {X Y : Nat → Prop} {a b c : World} (h : Kept X a b) (g : Kept Y b c) (hY : ∀ k, k < a.heap.size → Y k → X k) : Kept X a c :=
  ⟨g.os.trans h.os, g.tape.trans h.tape, g.output.trans h.output, Nat.le_trans h.size g.size,
    fun k hk hx => (g.block k (Nat.lt_of_lt_of_le hk h.size) (fun y => hx (hY k hk y))).trans (h.block k hk hx)⟩

theorem Kept.mono {X Y : Nat → Prop} {a b : World} (h : Kept X a b) (hY : ∀ k, k < a.heap.size → X k → Y k) : Kept Y a b :=
  ⟨h.os, h.tape, h.output, h.size, fun k hk hy => h.block k hk (fun x => hy (hY k hk x))⟩

theorem Kept.alloc {X : Nat → Prop} {a b : World} (h : Kept X a b) (o : Obj) : Kept X a (b.alloc o) :=
  ⟨h.os, h.tape, h.output, by have := h.size; simp; omega, fun k hk hx => by
    rw [Below.heap_alloc _ _ _ (Nat.lt_of_lt_of_le hk h.size)]; exact h.block k hk hx⟩

theorem Kept.setCell {X : Nat → Prop} {a b : World} (h : Kept X a b) {p : Addr} (hp : p.block < a.heap.size → X p.block) (v : Value) : Kept X a (b.setCell p v) :=
  ⟨h.os, h.tape, h.output, by simpa [World.setCell] using h.size, fun k hk hx => by
    have hne : k ≠ p.block := by intro e; subst e; exact hx (hp hk)
    rw [Below.heap_setCell _ _ _ _ hne]; exact h.block k hk hx⟩

theorem Kept.drew {X : Nat → Prop} {a b : World} (h : Kept X a b) : Kept X a b.drew := ⟨h.os, h.tape, h.output, h.size, h.block⟩

theorem Kept.grown {X : Nat → Prop} {a b c : World} {row : Option Nat} (h : Kept X a b) (hg : b.grownBy c row) (hr : ∀ k, row = some k → k < a.heap.size → X k) : Kept X a c :=
  ⟨hg.os.trans h.os, hg.tape.trans h.tape, hg.output.trans h.output, Nat.le_trans h.size hg.size,
    fun k hk hx => (hg.block k (Nat.lt_of_lt_of_le hk h.size) (fun e => hx (hr k e.symm hk))).trans (h.block k hk hx)⟩

theorem Kept.cell {X : Nat → Prop} {w w' : World} (h : Kept X w w') {p : Addr} {v : Value} (hc : w.cell? p = some v) (hx : ¬ X p.block) : w'.cell? p = some v :=
  (World.cell?_of_block (h.block p.block (World.block_lt_of_cell? w p hc) hx)).trans hc

theorem Kept.below {X : Nat → Prop} {w w' : World} (h : Kept X w w') (hx : ∀ k, k < w.heap.size → ¬ X k) : Below w.heap.size w w' :=
  ⟨h.os, h.tape, h.output, h.size, fun k hk => h.block k hk (hx k hk)⟩

theorem cell_at {w : World} {n : Nat} {cs : Array Value} {t : TypeId} (h : w.heap[n]? = some (.cells cs t (0, 0))) {i : Nat} {v : Value} (hi : cs[i]? = some v) : w.cell? ⟨n, i, none⟩ = some v := by
  simp [World.cell?, h, hi]

theorem free_at {w : World} {n : Nat} {cs : Array Value} {t : TypeId} (h : w.heap[n]? = some (.cells cs t (0, 0))) (i : Nat) : w.frozen? ⟨n, i, none⟩ = false := by
  simp [World.frozen?, h]

theorem lt_at {w : World} {n : Nat} {o : Obj} (h : w.heap[n]? = some o) : n < w.heap.size := (Array.getElem?_eq_some_iff.1 h).1

theorem set_at {w : World} {n : Nat} {cs : Array Value} {t : TypeId} (h : w.heap[n]? = some (.cells cs t (0, 0))) (i : Nat) (v : Value) :
    (w.setCell ⟨n, i, none⟩ v).heap[n]? = some (.cells (cs.setIfInBounds i v) t (0, 0)) := by
  obtain ⟨hlt, hk⟩ := Array.getElem?_eq_some_iff.1 h
  show (w.heap.modify n _)[n]? = _
  rw [Array.getElem?_eq_getElem (by rw [Array.size_modify]; exact hlt), Array.getElem_modify_self, hk]
  rfl

theorem set_off {w : World} {n : Nat} {p : Addr} (v : Value) (h : n ≠ p.block) : (w.setCell p v).heap[n]? = w.heap[n]? := Below.heap_setCell _ _ _ _ h

theorem alloc_at (w : World) (o : Obj) : (w.alloc o).heap[w.heap.size]? = some o := heap_alloc_new w o

theorem alloc_at' {w : World} (o : Obj) {n : Nat} (hn : w.heap.size = n) : (w.alloc o).heap[n]? = some o := hn ▸ alloc_at w o

theorem alloc_at1 (w : World) (o o' : Obj) : ((w.alloc o).alloc o').heap[w.heap.size + 1]? = some o' := alloc_at' o' (by simp)

theorem alloc_off {w : World} {n : Nat} {x o : Obj} (h : w.heap[n]? = some x) : (w.alloc o).heap[n]? = some x := by
  rw [Below.heap_alloc _ _ _ (lt_at h)]; exact h

theorem Kept.at {X : Nat → Prop} {w w' : World} (h : Kept X w w') {n : Nat} {x : Obj} (hn : w.heap[n]? = some x) (hx : ¬ X n) : w'.heap[n]? = some x :=
  (h.block n (lt_at hn) hx).trans hn

theorem Kept.thru {a b c : World} (h : Kept (fun _ => False) a b) (g : Kept (fun _ => False) b c) : Kept (fun _ => False) a c := h.trans g (fun _ _ e => e)

end Go.Proofs.Ytigfgnaakoicjaa

namespace Go.Proofs.Ytigfgnaakoicjaa

def cnt (k : Int) : Int := if k = 4 ∨ k = 12 then 8 else if k = 6 then 12 else if k = 8 then 4 else if k = 10 then 16 else if k < 1 ∨ 12 < k then 0 else 1

def ahd (k : Int) : Int :=
  if k ≤ 1 then 0 else if k = 2 then 1 else if k = 3 then 2 else if k = 4 then 3 else if k = 5 then 11 else if k = 6 then 12 else if k = 7 then 24
  else if k = 8 then 25 else if k = 9 then 29 else if k = 10 then 30 else if k = 11 then 46 else if k = 12 then 47 else 55

def plc (k : Int × Int) : Int := if k.2 < 0 ∨ cnt k.1 ≤ k.2 then -1 else ahd k.1 + k.2

def keyAt (p : Int) : Int × Int :=
  if p < 0 then (0, 0) else if p < 1 then (1, p) else if p < 2 then (2, p - 1) else if p < 3 then (3, p - 2) else if p < 11 then (4, p - 3) else if p < 12 then (5, p - 11)
  else if p < 24 then (6, p - 12) else if p < 25 then (7, p - 24) else if p < 29 then (8, p - 25) else if p < 30 then (9, p - 29) else if p < 46 then (10, p - 30)
  else if p < 47 then (11, p - 46) else if p < 55 then (12, p - 47) else (0, 0)

def isAt (p : Int) : Bool := decide (0 ≤ p) && decide (p < 55)

theorem kinds12 {k : Int} (h : 1 ≤ k) (h' : k ≤ 12) : k = 1 ∨ k = 2 ∨ k = 3 ∨ k = 4 ∨ k = 5 ∨ k = 6 ∨ k = 7 ∨ k = 8 ∨ k = 9 ∨ k = 10 ∨ k = 11 ∨ k = 12 := by omega

theorem ahd_next {k : Int} (h : 1 ≤ k) (h' : k ≤ 12) : ahd (k + 1) = ahd k + cnt k := by
  rcases kinds12 h h' with rfl | rfl | rfl | rfl | rfl | rfl | rfl | rfl | rfl | rfl | rfl | rfl <;> rfl

theorem cnt_bounds (k : Int) : 0 ≤ cnt k ∧ cnt k ≤ 16 := by unfold cnt; repeat' split <;> omega
theorem ahd_bounds (k : Int) : 0 ≤ ahd k ∧ ahd k ≤ 55 := by
  unfold ahd; repeat' split <;> omega

theorem cnt_pos {k : Int} (h : 0 < cnt k) : 1 ≤ k ∧ k ≤ 12 := by
  unfold cnt at h
  repeat' split at h
  all_goals omega

theorem keyAt_is {k p : Int} (h : 1 ≤ k) (h' : k ≤ 12) (h1 : ahd k ≤ p) (h2 : p - ahd k < cnt k) : keyAt p = (k, p - ahd k) := by
  have hb := ahd_bounds k
  have hb' := ahd_bounds (k + 1)
  have hn := ahd_next h h'
  obtain ⟨a, rfl⟩ : ∃ a : Nat, k = a := ⟨k.toNat, by omega⟩
  obtain ⟨b, rfl⟩ : ∃ b : Nat, p = b := ⟨p.toNat, by omega⟩
  have all : ∀ a : Nat, a < 13 → ∀ b : Nat, b < 55 → (1 ≤ a ∧ ahd a ≤ b ∧ (b : Int) - ahd a < cnt a) → ((keyAt b).1 = (a : Int) ∧ (keyAt b).2 = (b : Int) - ahd a) := by decide +kernel
  have := all a (by omega) b (by omega) ⟨by omega, h1, h2⟩
  exact Prod.ext this.1 this.2

theorem ahd_lt {k p : Int} (h : 1 ≤ k) (h' : k ≤ 12) (h2 : p - ahd k < cnt k) : p < 55 := by
  rcases kinds12 h h' with rfl | rfl | rfl | rfl | rfl | rfl | rfl | rfl | rfl | rfl | rfl | rfl <;> simp [ahd, cnt] at h2 <;> omega

theorem isAt_yes {p : Int} (h : 0 ≤ p) (h' : p < 55) : isAt p = true := by simp [isAt, h, h']
theorem isAt_low {p : Int} (h : p < 0) : isAt p = false := by simp [isAt]; omega
theorem isAt_high {p : Int} (h : 55 ≤ p) : isAt p = false := by simp [isAt]; omega
theorem keyAt_low {p : Int} (h : p < 0) : keyAt p = (0, 0) := by unfold keyAt; rw [if_pos h]
theorem keyAt_high {p : Int} (h : 55 ≤ p) : keyAt p = (0, 0) := by
  unfold keyAt
  repeat rw [if_neg (by omega)]

theorem plc_bounds (k : Int × Int) : -1 ≤ plc k ∧ plc k < 55 := by
  unfold plc
  split
  · omega
  · rename_i h
    have h1 : 0 < cnt k.1 := by omega
    obtain ⟨a, b⟩ := cnt_pos h1
    have := ahd_next a b
    have := ahd_bounds k.1
    have := ahd_bounds (k.1 + 1)
    omega

theorem plc_no {k : Int × Int} (h : k.2 < 0 ∨ cnt k.1 ≤ k.2) : plc k = -1 := by unfold plc; rw [if_pos h]
theorem plc_is {k : Int × Int} (h : 0 ≤ k.2) (h' : k.2 < cnt k.1) : plc k = ahd k.1 + k.2 := by unfold plc; rw [if_neg (by omega)]

theorem keyAt_plc {k : Int × Int} (h : 0 ≤ plc k) : keyAt (plc k) = k := by
  have hn : ¬ (k.2 < 0 ∨ cnt k.1 ≤ k.2) := by intro x; rw [plc_no x] at h; omega
  have h1 : 0 < cnt k.1 := by omega
  obtain ⟨a, b⟩ := cnt_pos h1
  rw [plc_is (by omega) (by omega)]
  rw [keyAt_is a b (by omega) (by omega)]
  simp [Int.add_comm (ahd k.1), Int.add_sub_cancel]

theorem plc_keyAt {p : Int} (h : 0 ≤ p) (h' : p < 55) : plc (keyAt p) = p := by
  obtain ⟨a, rfl⟩ : ∃ a : Nat, p = a := ⟨p.toNat, by omega⟩
  have all : ∀ a : Nat, a < 55 → plc (keyAt a) = a := by decide +kernel
  exact all a (by omega)

theorem keyAt_inj {p q : Int} (h : 0 ≤ p) (h' : p < 55) (g : 0 ≤ q) (g' : q < 55) (e : keyAt p = keyAt q) : p = q := by
  rw [← plc_keyAt h h', e, plc_keyAt g g']

theorem keyAt_rises {p q : Int} (h : 0 ≤ p) (hq : q < 55) (hpq : p < q) : (keyAt p).1 < (keyAt q).1 ∨ ((keyAt p).1 = (keyAt q).1 ∧ (keyAt p).2 < (keyAt q).2) := by
  obtain ⟨a, ha⟩ : ∃ a : Nat, p = a := ⟨p.toNat, by omega⟩
  obtain ⟨b, hb⟩ : ∃ b : Nat, q = b := ⟨q.toNat, by omega⟩
  subst ha hb
  have ha : a < 55 := by omega
  have hb : b < 55 := by omega
  have : ∀ b : Nat, b < 55 → ∀ a : Nat, a < b → ((keyAt a).1 < (keyAt b).1 ∨ ((keyAt a).1 = (keyAt b).1 ∧ (keyAt a).2 < (keyAt b).2)) := by decide +kernel
  exact this b hb a (by omega)

end Go.Proofs.Ytigfgnaakoicjaa

namespace Go.Proofs.Ytigfgnaakoicjaa
open Go.RowKit

theorem ret_int {k : IntKind} {a b : Int} (h : a = b) : Ending.returned (.int k a) = .returned (.int k b) := by rw [h]

def kv (k : Int × Int) : Value := .agg #[.int .i64 k.1, .int .i64 k.2]

theorem count_w (k : Int) (w : World) : Calls Try.prog 33 #[.int .i64 k] w fun e w' => e = .returned (.int .i64 (cnt k)) ∧ w' = w := by
  by_cases h4 : k = 4
  · subst h4; go_enter Try.func33, Try.ntmps33; go_wp2; go_ret; exact ⟨rfl, rfl⟩
  by_cases h12 : k = 12
  · subst h12; go_enter Try.func33, Try.ntmps33; go_wp2; go_ret; exact ⟨rfl, rfl⟩
  by_cases h6 : k = 6
  · subst h6; go_enter Try.func33, Try.ntmps33; go_wp2; go_ret; exact ⟨rfl, rfl⟩
  by_cases h8 : k = 8
  · subst h8; go_enter Try.func33, Try.ntmps33; go_wp2; go_ret; exact ⟨rfl, rfl⟩
  by_cases h10 : k = 10
  · subst h10; go_enter Try.func33, Try.ntmps33; go_wp2; go_ret; exact ⟨rfl, rfl⟩
  have e : Hid (cnt k = if k < 1 ∨ 12 < k then 0 else 1) := by
    show cnt k = _
    unfold cnt; rw [if_neg (by omega), if_neg h6, if_neg h8, if_neg h10]
  by_cases h1 : k < 1
  · go_enter Try.func33, Try.ntmps33; go_wp2; go_ret; exact ⟨ret_int (by rw [e.out, if_pos (.inl h1)]), rfl⟩
  by_cases h13 : 12 < k
  · go_enter Try.func33, Try.ntmps33; go_wp2; go_ret; exact ⟨ret_int (by rw [e.out, if_pos (.inr h13)]), rfl⟩
  · go_enter Try.func33, Try.ntmps33; go_wp2; go_ret; exact ⟨ret_int (by rw [e.out, if_neg (by omega)]), rfl⟩

theorem ahead_w (k : Int) (h1 : 1 ≤ k) (h2 : k ≤ 13) (w : World) : Calls Try.prog 34 #[.int .i64 k] w fun e w' => e = .returned (.int .i64 (ahd k)) ∧ w' = w := by
  go_enter Try.func34, Try.ntmps34
  go_wp2
  go_loop [3, 4] (fun n l => ∃ j : Int, l = .int .i64 j ∧ n = .int .i64 (ahd j) ∧ 1 ≤ j ∧ j ≤ k) (fun _ l => (13 - intOf l).toNat)
  case atStart => exact ⟨1, rfl, rfl, by omega, by omega⟩
  case round =>
    obtain ⟨j, rfl, rfl, hj1, hjk⟩ := hrel
    by_cases hlt : j < k
    · have hb := ahd_bounds j
      have hc := cnt_bounds j
      have HN : Hid (ahd (j + 1) = ahd j + cnt j) := ahd_next hj1 (by omega)
      go_wp2_with fail
      refine (count_w j _).mono ?_
      rintro e w1 ⟨rfl, rfl⟩
      generalize cnt j = c at *
      generalize ahd j = a at *
      go_wp2
      go_round
      case rel => exact ⟨j + 1, rfl, by rw [HN.out], by omega, by omega⟩
      case measure => simp [intOf]; omega
    · obtain rfl : j = k := by omega
      go_wp2
      go_ret
      exact ⟨rfl, rfl⟩

theorem kept_drewN (w : World) (m : Nat) : Kept (fun _ => False) w (w.drewN m) := ⟨rfl, rfl, rfl, Nat.le_refl _, fun _ _ _ => rfl⟩

theorem place_w (k : Int × Int) (w : World) : Calls Try.prog 30 #[kv k] w fun e w' => e = .returned (.int .i64 (plc k)) ∧ Kept (fun _ => False) w w' := by
  obtain ⟨a, n⟩ := k
  unfold kv
  by_cases h0 : n < 0
  · have hp : Hid (plc (a, n) = -1) := plc_no (.inl h0)
    have hd : decide (n < 0) = true := by simp [h0]
    go_enter Try.func30, Try.ntmps30
    go_wp2_with fail
    go_quiet ((go_at_call 33; exact Calls.quiet_of_same (count_w _ _)))
    go_wp2
    go_ret
    exact ⟨ret_int (by rw [hp.out]), ((Kept.refl _ w).alloc _).trans (kept_drewN _ _) (fun _ _ e => e)⟩
  · by_cases h1 : cnt a ≤ n
    · have hp : Hid (plc (a, n) = -1) := plc_no (.inr h1)
      have hd : decide (n < 0) = false := by simp; omega
      have hd1 : decide (cnt a ≤ n) = true := by simpa using h1
      go_enter Try.func30, Try.ntmps30
      go_wp2_with fail
      go_quiet ((go_at_call 33; exact Calls.quiet_of_same (count_w _ _)))
      go_wp2
      go_ret
      exact ⟨ret_int (by rw [hp.out]), ((Kept.refl _ w).alloc _).trans (kept_drewN _ _) (fun _ _ e => e)⟩
    · have hp : Hid (plc (a, n) = ahd a + n) := plc_is (by show 0 ≤ n; omega) (by show n < cnt a; omega)
      obtain ⟨ha1, ha2⟩ := cnt_pos (k := a) (by omega)
      have ha3 : a ≤ 13 := by omega
      have hb := ahd_bounds a
      have hc := cnt_bounds a
      have hd : decide (n < 0) = false := by simp; omega
      have hd1 : decide (cnt a ≤ n) = false := by simpa using h1
      go_enter Try.func30, Try.ntmps30
      go_wp2_with fail
      go_quiet ((go_at_call 33; exact Calls.quiet_of_same (count_w _ _)))
      have HA : Hid _ := ((Kept.refl (fun _ => False) w).alloc (.cells #[.int .i64 a, .int .i64 n] 44)).trans (kept_drewN _ nq) (fun _ _ e => e)
      have hA : ((w.alloc (.cells #[.int .i64 a, .int .i64 n] 44)).drewN nq).heap[w.heap.size]? = some (.cells #[.int .i64 a, .int .i64 n] 44 (0, 0)) := alloc_at w _
      generalize (w.alloc (.cells #[.int .i64 a, .int .i64 n] 44)).drewN nq = wd at *
      have c0 := cell_at hA (i := 0) rfl
      have c1 := cell_at hA (i := 1) rfl
      clear hA
      go_wp2_with fail
      go_quiet ((go_at_call 34; exact Calls.quiet_of_same (ahead_w _ ha1 ha3 _)))
      go_wp2
      go_ret
      exact ⟨ret_int (by rw [hp.out]), HA.out.trans (kept_drewN _ _) (fun _ _ e => e)⟩

end Go.Proofs.Ytigfgnaakoicjaa

namespace Go.Proofs.Ytigfgnaakoicjaa
open Go.RowKit

abbrev Ks := List (Int × Int)
def kd (l : Ks) (i : Nat) : Int × Int := l.getD i (0, 0)
def kcells (l : Ks) : List Value := l.flatMap fun k => [.int .i64 k.1, .int .i64 k.2]

theorem info_key : (Try.prog.info? 44).map (fun i => (i.zero, i.size, i.bytes)) = some (some (.agg #[.int .i64 0, .int .i64 0]), 2, 16) := by kernel_rfl

theorem kcells_cons (k : Int × Int) (l : Ks) : kcells (k :: l) = .int .i64 k.1 :: .int .i64 k.2 :: kcells l := rfl
theorem kcells_app (a b : Ks) : kcells (a ++ b) = kcells a ++ kcells b := by simp [kcells]
theorem kcells_len (a : Ks) : (kcells a).length = a.length * 2 := by
  induction a with
  | nil => rfl
  | cons k l ih => rw [kcells_cons]; simp [ih]; omega

theorem kd_get {l : Ks} {i : Nat} (h : i < l.length) : kd l i = l[i] := by simp [kd, h]
theorem kd_zero (k : Int × Int) (l : Ks) : kd (k :: l) 0 = k := rfl
theorem kd_succ (k : Int × Int) (l : Ks) (i : Nat) : kd (k :: l) (i + 1) = kd l i := by simp [kd]

theorem kcells_at {l : Ks} {i : Nat} (h : i < l.length) : (kcells l)[i * 2]? = some (.int .i64 (kd l i).1) ∧ (kcells l)[i * 2 + 1]? = some (.int .i64 (kd l i).2) := by
  induction l generalizing i with
  | nil => simp at h
  | cons k l ih =>
    cases i with
    | zero => exact ⟨rfl, rfl⟩
    | succ i =>
      have := ih (i := i) (by simpa using h)
      rw [kcells_cons, kd_succ, show (i + 1) * 2 = i * 2 + 1 + 1 by omega]
      simpa using this

theorem kcells_get {l : Ks} {j : Nat} {u : Value} (h : (kcells l)[j]? = some u) : ∃ i, i < l.length ∧ ((j = i * 2 ∧ u = .int .i64 (kd l i).1) ∨ (j = i * 2 + 1 ∧ u = .int .i64 (kd l i).2)) := by
  have hj : j < l.length * 2 := by
    obtain ⟨h1, _⟩ := List.getElem?_eq_some_iff.1 h
    rw [kcells_len] at h1; exact h1
  have hi : j / 2 < l.length := by omega
  obtain ⟨a, b⟩ := kcells_at hi
  refine ⟨j / 2, hi, ?_⟩
  rcases Nat.mod_two_eq_zero_or_one j with e | e
  · have e' : j / 2 * 2 = j := by omega
    rw [e', h] at a
    exact .inl ⟨by omega, by simpa using a⟩
  · have e' : j / 2 * 2 + 1 = j := by omega
    rw [e', h] at b
    exact .inr ⟨by omega, by simpa using b⟩

theorem kcells_one (l : Ks) : ∀ u ∈ kcells l, u.oneCell' = true := by
  intro u hu
  obtain ⟨j, hj⟩ := List.mem_iff_getElem?.1 hu
  obtain ⟨i, _, ⟨_, rfl⟩ | ⟨_, rfl⟩⟩ := kcells_get hj <;> rfl

/-- What x has. -/
def SrcK (x : Value) (l : Ks) (w : World) : Prop :=
  ∃ (ao : Option Addr) (b o c : Nat), x = .slice ao l.length c ∧ (ao = none → c = 0) ∧ (0 < l.length → ao = some ⟨b, o, none⟩) ∧
    ∀ j, j < l.length → w.cell? ⟨b, o + j * 2, none⟩ = some (.int .i64 (kd l j).1) ∧ w.cell? ⟨b, o + j * 2 + 1, none⟩ = some (.int .i64 (kd l j).2)

theorem SrcK.kept {x : Value} {l : Ks} {w w' : World} (h : SrcK x l w) (hk : Kept (fun _ => False) w w') : SrcK x l w' := by
  obtain ⟨ao, b, o, c, e, h0, h1, h2⟩ := h
  exact ⟨ao, b, o, c, e, h0, h1, fun j hj => ⟨hk.cell (h2 j hj).1 (fun x => x), hk.cell (h2 j hj).2 (fun x => x)⟩⟩

theorem SrcK.none (w : World) : SrcK (.slice none 0 0) [] w := ⟨Option.none, 0, 0, 0, rfl, fun _ => rfl, fun h => by simp at h, fun j hj => by simp at hj⟩

theorem SrcK.row {w : World} {E : Nat} {cs : Array Value} {t : TypeId} {l l' : Ks} (h : w.heap[E]? = some (.cells cs t (0, 0))) (hc : cs.toList = kcells (l ++ l')) (c : Nat) : SrcK (.slice (some ⟨E, 0, Option.none⟩) l.length c) l w := by
  refine ⟨_, E, 0, c, rfl, (fun h => by cases h), fun _ => rfl, fun j hj => ?_⟩
  have e : kd (l ++ l') j = kd l j := by simp [kd, List.getD, List.getElem?_append_left hj]
  obtain ⟨a, b⟩ := kcells_at (l := l ++ l') (i := j) (by simp; omega)
  rw [← hc, e] at a b
  exact ⟨cell_at h (by simpa using a), cell_at h (by simpa using b)⟩

theorem own_src {w : World} {base n : Nat} {v : Value} {l : Ks} (h : w.ownsRow base 44 2 v n (kcells l)) : SrcK v l w := by
  have hl : l.length = n := by have := h.1; rw [kcells_len] at this; omega
  rcases h.2 with ⟨rfl, h0⟩ | ⟨g, cap, cur, rfl, hb, hg, hnc, hcm, hcs, htake⟩
  · obtain rfl : l = [] := List.eq_nil_of_length_eq_zero (by omega)
    exact SrcK.none w
  · refine ⟨_, g, 0, cap, by rw [hl], (fun h => by cases h), fun _ => rfl, fun j hj => ?_⟩
    obtain ⟨a, b⟩ := kcells_at hj
    have h1 := h.cells (g := g) rfl _ _ a
    have h2 := h.cells (g := g) rfl _ _ b
    rw [Addr.add_lit] at h1 h2
    exact ⟨h1, h2⟩

/-- v has the keys l, in a block that is younger than the world w0. -/
structure OwnK (w0 : World) (v : Value) (l : Ks) (w : World) : Prop where
  kept : Kept (fun _ => False) w0 w
  own : w.ownsRow w0.heap.size 44 2 v l.length (kcells l)

theorem OwnK.nil (w : World) : OwnK w (.slice none 0 0) [] w := ⟨Kept.refl _ _, World.ownsRow_nil _ _ _ _⟩

theorem OwnK.alloc {w0 w : World} {v : Value} {l : Ks} (h : OwnK w0 v l w) (o : Obj) : OwnK w0 v l (w.alloc o) := ⟨h.kept.alloc o, h.own.alloc o⟩

theorem own_kept {X : Nat → Prop} {w w' : World} {base : Nat} {e : TypeId} {size : Nat} {v : Value} {n : Nat} {xs : List Value} (h : w.ownsRow base e size v n xs) (hk : Kept X w w') (hx : ∀ k, v.ownBlock = some k → ¬ X k) : w'.ownsRow base e size v n xs := by
  refine ⟨h.1, ?_⟩
  rcases h.2 with hn | ⟨g, cap, cur, rfl, hb, hgg, rest⟩
  · exact .inl hn
  · exact .inr ⟨g, cap, cur, rfl, hb, hk.at hgg (hx g rfl), rest⟩

theorem OwnK.still {w0 w w' : World} {v : Value} {l : Ks} (h : OwnK w0 v l w) (hk : Kept (fun _ => False) w w') : OwnK w0 v l w' :=
  ⟨h.kept.trans hk (fun _ _ e => e), own_kept h.own hk (fun _ _ x => x)⟩

theorem OwnK.src {w0 w : World} {v : Value} {l : Ks} (h : OwnK w0 v l w) : SrcK v l w := own_src h.own

theorem OwnK.made {w0 w : World} (h : Kept (fun _ => False) w0 w) {E : Nat} (hE : w.heap.size = E) : OwnK w0 (.slice (some ⟨E, 0, none⟩) 0 0) [] (w.alloc (.cells #[] 44)) := by
  subst hE
  exact ⟨h.alloc _, World.ownsRow_made w #[] 0 h.size (by unfold maxLen; omega) rfl⟩

theorem OwnK.form {w0 w : World} {v : Value} {l : Ks} (h : OwnK w0 v l w) : (v = .slice none 0 0 ∧ l = []) ∨ ∃ g c, v = .slice (some ⟨g, 0, none⟩) l.length c ∧ l.length ≤ c := by
  rcases h.own.2 with ⟨rfl, h0⟩ | ⟨g, cap, cur, rfl, hb, hg, hnc, rest⟩
  · exact .inl ⟨rfl, List.eq_nil_of_length_eq_zero h0⟩
  · exact .inr ⟨g, cap, rfl, hnc⟩

theorem run_app (ty : TypeId) (w0 : World) (v : Value) (xs : Ks) (w : World) (h : OwnK w0 v xs w) (x : Value) (news : Ks) (hx : SrcK x news w) (hlen : xs.length + news.length ≤ 1000000) :
    ∃ v' w', (Builtin.append_ #[96, 96] ty #[v, x]).run Try.prog w = .ok v' w' ∧ OwnK w0 v' (xs ++ news) w' ∧ w.grownBy w' v.ownBlock := by
  obtain ⟨i0, hi, hz0, hz1, hz2⟩ := info_parts info_key
  obtain ⟨ao, b, o, c, rfl, hnc0, hao, hc⟩ := hx
  have some_case : ∀ a : Addr, (0 < news.length → a = ⟨b, o, none⟩) → ∃ v' w', (Builtin.append_ #[96, 96] ty #[v, .slice (some a) news.length c]).run Try.prog w = .ok v' w' ∧ OwnK w0 v' (xs ++ news) w' ∧ w.grownBy w' v.ownBlock := by
    intro a ha
    obtain ⟨v', w', hr, h2, h3, _, _⟩ := run_append_own_at (P := Try.prog) w w0.heap.size 96 ty 44 i0 (.agg #[.int .i64 0, .int .i64 0]) 2 16 Try.underlying96 hi hz0 hz1 hz2 rfl (by decide) v xs.length (kcells xs) h.own a news.length c (kcells news) (kcells_len _)
      (fun j u hu => by
        obtain ⟨i, hi, e⟩ := kcells_get hu
        obtain rfl := ha (by omega)
        rw [Addr.add_lit]
        rcases e with ⟨rfl, rfl⟩ | ⟨rfl, rfl⟩
        · exact (hc i hi).1
        · exact (hc i hi).2)
      (kcells_one _) (by unfold maxLen; omega) (by omega) h.kept.size
    refine ⟨v', w', hr, ⟨Kept.trans h.kept (Kept.grown (X := fun k => w0.heap.size ≤ k) (Kept.refl _ w) h3 (fun k e _ => (h.own.lt k e).1)) (fun k hk e => by omega), ?_⟩, h3⟩
    rw [kcells_app, List.length_append]
    exact h2
  cases ao with
  | some a => exact some_case a (fun h0 => by simpa using hao h0)
  | none =>
    have h0 : news.length = 0 := by
      rcases Nat.eq_zero_or_pos news.length with h0 | h0
      · exact h0
      · have := hao h0; cases this
    obtain rfl : news = [] := List.eq_nil_of_length_eq_zero h0
    obtain rfl := hnc0 rfl
    refine ⟨v, w, ?_, by simpa using h, ⟨rfl, rfl, rfl, Nat.le_refl _, fun _ _ _ => rfl⟩⟩
    rcases h.own.2 with ⟨rfl, h0⟩ | ⟨g, cap, cur, rfl, hb, hg, hnc, hcm, hcs, htake⟩
    · simp [Builtin.append_, run_underlying Try.underlying96, sizeOf, typeInfo, hi, Builtin.lenOf, Builtin.firstCells]
    · simp [Builtin.append_, run_underlying Try.underlying96, sizeOf, typeInfo, hi, Builtin.lenOf, Builtin.firstCells, hnc, storeCells]

/-- append, at the operation. -/
theorem wp_app {o : Oper} {a : Act} {w : World} {K : Act → World → Prop} {Q : Exit → Act → World → Prop}
    (s x : Operand) (hop : o.op = Op.call { callee := Callee.builtin Builtin.append, args := #[s, x], argTypes := #[96, 96] })
    (w0 : World) (xs news : Ks) (h : OwnK w0 (a.eval s) xs w) (hx : SrcK (a.eval x) news w) (hlen : xs.length + news.length ≤ 1000000)
    (hK : ∀ v' w', OwnK w0 v' (xs ++ news) w' → w.grownBy w' (a.eval s).ownBlock → K (a.put o.dst v') w') : o.wp Try.prog a w K Q := by
  obtain ⟨v', w', hr, h2, h3⟩ := run_app o.type w0 _ xs w h _ news hx hlen
  unfold Oper.wp execOp
  simp only [hop, resolve, invoke, builtin, Sem.run_bind, Sem.run_pure, Result.andThen_ok, List.map_toArray, List.map_cons, List.map_nil, hr]
  exact hK v' w' h2 h3

/-- append, at the list of a plain region's operations. -/
theorem list_app {ops : Array Oper} {rest : List Oper} {o : Oper} {a : Act} {w : World} {Q : Exit → Act → World → Prop}
    (hg : o.guard = none) (s x : Operand) (hop : o.op = Op.call { callee := Callee.builtin Builtin.append, args := #[s, x], argTypes := #[96, 96] })
    (w0 : World) (xs news : Ks) (h : OwnK w0 (a.eval s) xs w) (hx : SrcK (a.eval x) news w) (hlen : xs.length + news.length ≤ 1000000)
    (hK : ∀ v' w', OwnK w0 v' (xs ++ news) w' → w.grownBy w' (a.eval s).ownBlock → wpList Try.prog ops Q rest (a.put o.dst v') w') : wpList Try.prog ops Q (o :: rest) a w :=
  wpList_plain hg fun _ hK' => wp_app s x hop w0 xs news h hx hlen fun v' w' h2 h3 => hK' _ _ (hK v' w' h2 h3)

/-- append, as one step of a region that draws its order. -/
theorem step_app {ops : Array Oper} {o : Oper} {a : Act} {w : World} {K : Act → World → Prop} {Q : Exit → Act → World → Prop} {E : Prop}
    (hg : o.guard = none) (s x : Operand) (hop : o.op = Op.call { callee := Callee.builtin Builtin.append, args := #[s, x], argTypes := #[96, 96] })
    (w0 : World) (xs news : Ks) (h : OwnK w0 (a.eval s) xs w) (hx : SrcK (a.eval x) news w) (hlen : xs.length + news.length ≤ 1000000)
    (hK : ∀ v' w', OwnK w0 v' (xs ++ news) w' → w.grownBy w' (a.eval s).ownBlock → K (a.put o.dst v') w') :
    if Region.wanted o (yielded ops a.tmps) = true then Oper.wp Try.prog o a w K Q else E := by
  have hw : Region.wanted o (yielded ops a.tmps) = true := by simp [Region.wanted, hg]
  rw [if_pos hw]
  exact wp_app s x hop w0 xs news h hx hlen hK

/-- What is appended lay there from the first. -/
theorem step_old {ops : Array Oper} {o : Oper} {a : Act} {w : World} {K : Act → World → Prop} {Q : Exit → Act → World → Prop} {E : Prop}
    (hg : o.guard = none) (s x : Operand) (hop : o.op = Op.call { callee := Callee.builtin Builtin.append, args := #[s, x], argTypes := #[96, 96] })
    (w0 : World) (xs news : Ks) (h : OwnK w0 (a.eval s) xs w) (hx : SrcK (a.eval x) news w0) (hlen : xs.length + news.length ≤ 1000000)
    (hK : ∀ v' w', OwnK w0 v' (xs ++ news) w' → w.grownBy w' (a.eval s).ownBlock → K (a.put o.dst v') w') :
    if Region.wanted o (yielded ops a.tmps) = true then Oper.wp Try.prog o a w K Q else E :=
  step_app hg s x hop w0 xs news h (hx.kept h.kept) hlen hK
end Go.Proofs.Ytigfgnaakoicjaa

namespace Go.Proofs.Ytigfgnaakoicjaa

/-- Is the place p one of l's? -/
def mk (l : List (Int × Int)) (p : Nat) : Bool := l.any fun k => plc k == (p : Int)

def upto (f : Nat → Bool) (n : Nat) : List (Int × Int) := ((List.range n).filter f).map fun p : Nat => keyAt (p : Int)
def sortOf (l : List (Int × Int)) : List (Int × Int) := upto (mk l) 55
def withinOf (a b : List (Int × Int)) : Bool := (List.range 55).all fun p => !mk a p || mk b p

theorem upto_zero (f : Nat → Bool) : upto f 0 = [] := rfl
theorem upto_succ (f : Nat → Bool) (n : Nat) : upto f (n + 1) = upto f n ++ if f n then [keyAt n] else [] := by
  unfold upto
  rw [List.range_succ, List.filter_append, List.map_append]
  congr 1
  by_cases h : f n = true
  · simp [h]
  · simp only [Bool.not_eq_true] at h; simp [h]
theorem upto_yes {f : Nat → Bool} {n : Nat} (h : f n = true) : upto f (n + 1) = upto f n ++ [keyAt n] := by rw [upto_succ, if_pos h]
theorem upto_no {f : Nat → Bool} {n : Nat} (h : f n = false) : upto f (n + 1) = upto f n := by rw [upto_succ, if_neg (by simp [h])]; simp
theorem upto_len (f : Nat → Bool) (n : Nat) : (upto f n).length ≤ n := by
  unfold upto
  rw [List.length_map]
  exact Nat.le_trans (List.length_filter_le _ _) (by simp)

theorem mk_nil (p : Nat) : mk [] p = false := rfl
theorem mk_app (a b : List (Int × Int)) (p : Nat) : mk (a ++ b) p = (mk a p || mk b p) := by unfold mk; rw [List.any_append]
theorem mk_one (k : Int × Int) (p : Nat) : mk [k] p = (plc k == (p : Int)) := by simp [mk]
theorem mk_mem {l : List (Int × Int)} {p : Nat} : mk l p = true ↔ ∃ k, k ∈ l ∧ plc k = p := by simp [mk]
theorem mk_reverse (l : List (Int × Int)) (p : Nat) : mk l.reverse p = mk l p := by unfold mk; rw [List.any_reverse]

theorem upto_mem {f : Nat → Bool} {n : Nat} {k : Int × Int} : k ∈ upto f n ↔ ∃ p, p < n ∧ f p = true ∧ keyAt p = k := by
  simp [upto]
  constructor
  · rintro ⟨p, ⟨h1, h2⟩, h3⟩; exact ⟨p, h1, h2, h3⟩
  · rintro ⟨p, h1, h2, h3⟩; exact ⟨p, ⟨h1, h2⟩, h3⟩

theorem mk_sort {l : List (Int × Int)} {p : Nat} (h : p < 55) : mk (sortOf l) p = mk l p := by
  rw [Bool.eq_iff_iff, mk_mem]
  constructor
  · rintro ⟨k, hk, e⟩
    obtain ⟨q, hq, hm, rfl⟩ := upto_mem.1 hk
    rw [plc_keyAt (by omega) (by omega)] at e
    obtain rfl : q = p := by omega
    exact hm
  · intro hm
    exact ⟨keyAt p, upto_mem.2 ⟨p, h, hm, rfl⟩, plc_keyAt (by omega) (by omega)⟩

theorem upto_congr {f g : Nat → Bool} {n : Nat} (h : ∀ p, p < n → f p = g p) : upto f n = upto g n := by
  unfold upto
  congr 1
  exact List.filter_congr (fun p hp => h p (by simpa using hp))

theorem sort_sort (l : List (Int × Int)) : sortOf (sortOf l) = sortOf l := upto_congr fun _ hp => mk_sort hp
theorem sort_reverse (l : List (Int × Int)) : sortOf l.reverse = sortOf l := upto_congr fun p _ => mk_reverse l p

theorem within_iff {a b : List (Int × Int)} : withinOf a b = true ↔ ∀ k, k ∈ a → 0 ≤ plc k → ∃ x, x ∈ b ∧ plc x = plc k := by
  unfold withinOf
  rw [List.all_eq_true]
  constructor
  · intro h k hk h0
    have hb := plc_bounds k
    have := h (plc k).toNat (by simp; omega)
    have hm : mk a (plc k).toNat = true := mk_mem.2 ⟨k, hk, by omega⟩
    rw [hm] at this
    obtain ⟨x, hx, e⟩ := mk_mem.1 (by simpa using this)
    exact ⟨x, hx, by omega⟩
  · intro h p hp
    cases hm : mk a p with
    | false => rfl
    | true =>
      obtain ⟨k, hk, e⟩ := mk_mem.1 hm
      obtain ⟨x, hx, e'⟩ := h k hk (by omega)
      have : mk b p = true := mk_mem.2 ⟨x, hx, by omega⟩
      simp [this]

theorem sort_mem {l : List (Int × Int)} {k : Int × Int} : k ∈ sortOf l ↔ k ∈ l ∧ 0 ≤ plc k := by
  unfold sortOf
  rw [upto_mem]
  constructor
  · rintro ⟨p, hp, hm, rfl⟩
    obtain ⟨k, hk, e⟩ := mk_mem.1 hm
    have := keyAt_plc (k := k) (by omega)
    rw [← e, this]
    exact ⟨hk, by omega⟩
  · rintro ⟨hk, h0⟩
    have hb := plc_bounds k
    refine ⟨(plc k).toNat, by omega, mk_mem.2 ⟨k, hk, by omega⟩, ?_⟩
    rw [show (((plc k).toNat : Nat) : Int) = plc k by omega]
    exact keyAt_plc h0

theorem within_self_sort (l : List (Int × Int)) : withinOf l (sortOf l) = true := within_iff.2 fun k hk h0 => ⟨k, sort_mem.2 ⟨hk, h0⟩, rfl⟩
theorem within_sort_self (l : List (Int × Int)) : withinOf (sortOf l) l = true := within_iff.2 fun k hk _ => ⟨k, (sort_mem.1 hk).1, rfl⟩
theorem within_sub {a b : List (Int × Int)} (h : ∀ k, k ∈ a → k ∈ b) : withinOf a b = true := within_iff.2 fun k hk _ => ⟨k, h k hk, rfl⟩
theorem within_nil (b : List (Int × Int)) : withinOf [] b = true := within_sub (fun k h => by simp at h)

/-- Places rise along what is sorted. -/
theorem upto_rises (f : Nat → Bool) (n : Nat) (hn : n ≤ 55) : (upto f n).Pairwise fun a b => plc a < plc b := by
  unfold upto
  rw [List.pairwise_map]
  have h1 : (List.range n).Pairwise (· < ·) := List.pairwise_lt_range
  have h2 := (h1.filter f)
  refine List.Pairwise.imp_of_mem ?_ h2
  intro a b ha hb hab
  have ha' : a < n := by simpa using (List.mem_filter.1 ha).1
  have hb' : b < n := by simpa using (List.mem_filter.1 hb).1
  rw [plc_keyAt (by omega) (by omega), plc_keyAt (by omega) (by omega)]
  omega

theorem sort_rises (l : List (Int × Int)) : (sortOf l).Pairwise fun a b => plc a < plc b := upto_rises _ _ (Nat.le_refl _)

theorem sort_step {l : List (Int × Int)} {i j : Nat} (hij : i < j) (hj : j < (sortOf l).length) : plc ((sortOf l).getD i (0, 0)) < plc ((sortOf l).getD j (0, 0)) := by
  have := List.pairwise_iff_getElem.1 (sort_rises l) i j (by omega) hj hij
  have e1 : (sortOf l).getD i (0, 0) = (sortOf l)[i] := by simp [List.getD, show i < (sortOf l).length by omega]
  have e2 : (sortOf l).getD j (0, 0) = (sortOf l)[j] := by simp [List.getD, hj]
  rw [e1, e2]
  exact this

theorem sort_at {l : List (Int × Int)} {i : Nat} (hi : i < (sortOf l).length) : (sortOf l).getD i (0, 0) ∈ l ∧ 0 ≤ plc ((sortOf l).getD i (0, 0)) := by
  have e1 : (sortOf l).getD i (0, 0) = (sortOf l)[i] := by simp [List.getD, hi]
  rw [e1]
  exact sort_mem.1 (List.getElem_mem hi)

/-- One left out, it is missed. -/
theorem within_less {l : List (Int × Int)} {i : Nat} (hi : i < (sortOf l).length) : withinOf (sortOf l) ((sortOf l).take i ++ (sortOf l).drop (i + 1)) = false := by
  rw [← Bool.not_eq_true]
  intro h
  have hm := within_iff.1 h
  have e1 : (sortOf l).getD i (0, 0) = (sortOf l)[i] := by simp [List.getD, hi]
  obtain ⟨x, hx, e⟩ := hm ((sortOf l)[i]) (List.getElem_mem hi) (by rw [← e1]; exact (sort_at hi).2)
  have hp := List.pairwise_iff_getElem.1 (sort_rises l)
  rcases List.mem_append.1 hx with hx | hx
  · obtain ⟨j, hj, rfl⟩ := List.mem_iff_getElem.1 hx
    simp at hj
    have := hp j i (by omega) hi (by omega)
    rw [List.getElem_take] at e
    omega
  · obtain ⟨j, hj, rfl⟩ := List.mem_iff_getElem.1 hx
    simp at hj
    have := hp i (i + 1 + j) hi (by omega) (by omega)
    rw [List.getElem_drop] at e
    omega

theorem less_within (l : List (Int × Int)) (i : Nat) : withinOf ((sortOf l).take i ++ (sortOf l).drop (i + 1)) (sortOf l) = true :=
  within_sub fun k hk => by
    rcases List.mem_append.1 hk with h | h
    · exact List.mem_of_mem_take h
    · exact List.mem_of_mem_drop h

end Go.Proofs.Ytigfgnaakoicjaa

namespace Go.Proofs.Ytigfgnaakoicjaa
open Go.RowKit

theorem place2 (x y : Int) (w : World) : Calls Try.prog 30 #[.agg #[.int .i64 x, .int .i64 y]] w fun e w' => e = .returned (.int .i64 (plc (x, y))) ∧ Kept (fun _ => False) w w' := place_w (x, y) w

theorem pair_eta (k : Int × Int) : (k.1, k.2) = k := rfl

theorem SrcK.lone {w : World} {E : Nat} {x y : Int} (h : w.heap[E]? = some (.cells #[.int .i64 x, .int .i64 y] 44 (0, 0))) : SrcK (.slice (some ⟨E, 0, Option.none⟩) 1 1) [(x, y)] w :=
  SrcK.row (l := [(x, y)]) (l' := []) h rfl 1

theorem row_off {w : World} {base : Nat} {e : TypeId} {size : Nat} {v : Value} {n : Nat} {xs : List Value} (h : w.ownsRow base e size v n xs) {k : Nat} {c : Array Value} {t : TypeId} (hc : w.heap[k]? = some (.cells c t (0, 0))) (ht : t ≠ e) : v.ownBlock ≠ some k := by
  intro hk
  rcases h.2 with ⟨rfl, _⟩ | ⟨g, cap, cur, rfl, _, hgb, _⟩
  · simp [Value.ownBlock] at hk
  · have : g = k := by simpa [Value.ownBlock] using hk
    subst this
    rw [hc] at hgb
    simp at hgb
    exact ht hgb.2

end Go.Proofs.Ytigfgnaakoicjaa

namespace Go.Proofs.Ytigfgnaakoicjaa
open Go.RowKit
open Go.ChangeMaps (setBlock)

/-- What a map asks of the spelling of its keys. -/
structure KeyOk {κ : Type} (K : TypeId) (enc : κ → Value) : Prop where
  inj : ∀ j k, enc j = enc k → j = k
  check : ∀ w em k, (Instr.checkKey em 10000 K (enc k)).run Try.prog w = .ok () w
  find : ∀ w k (es : List MapEntry), (∀ e ∈ es, ∃ j, e.key = enc j) →
    ((Instr.findKey K (enc k) es).run Try.prog w = .ok none w ∧ ∀ e ∈ es, e.key ≠ enc k) ∨
    ∃ j e, (Instr.findKey K (enc k) es).run Try.prog w = .ok (some (j, e.val)) w ∧ es[j]? = some e ∧ e.key = enc k
  stays : ∀ w k, (Instr.keyThatStays (enc k) (enc k)).run Try.prog w = .ok (enc k) w

theorem equalIn_int (d : Nat) (a b : Int) (w : World) : (Op.equalIn (d + 1) 3 (.int .i64 a) (.int .i64 b)).run Try.prog w = .ok (a == b) w := by
  rw [Op.equalIn]
  simp [Sem.run_bind]

theorem equalIn_kv (d : Nat) (a b : Int × Int) (w : World) : (Op.equalIn (d + 1 + 1) 44 (kv a) (kv b)).run Try.prog w = .ok (a == b) w := by
  obtain ⟨a1, a2⟩ := a
  obtain ⟨b1, b2⟩ := b
  rw [Op.equalIn]
  simp [kv, part, Sem.run_bind, equalIn_int]
  by_cases h1 : a1 = b1 <;> by_cases h2 : a2 = b2 <;> simp [h1, h2]

theorem check_int (d : Nat) (w : World) (em : Bool) (k : Int) : (Instr.checkKey em (d + 1) 3 (.int .i64 k)).run Try.prog w = .ok () w := by
  rw [Instr.checkKey]
  simp [Sem.run_bind]

theorem check_kv (d : Nat) (w : World) (em : Bool) (k : Int × Int) : (Instr.checkKey em (d + 1 + 1) 44 (kv k)).run Try.prog w = .ok () w := by
  rw [Instr.checkKey]
  simp [kv, part, Sem.run_bind, check_int]

theorem kv_inj (j k : Int × Int) (h : kv j = kv k) : j = k := by
  simp [kv] at h
  exact Prod.ext h.1 h.2

theorem ask_kv (k : Int × Int) (w : World) : ∀ (es : List MapEntry) (i : Nat), (∀ e ∈ es, ∃ j : Int × Int, e.key = kv j) →
    ((Instr.findAsking 44 (kv k) es i).run Try.prog w = .ok none w ∧ ∀ e ∈ es, e.key ≠ kv k) ∨
    ∃ j e, (Instr.findAsking 44 (kv k) es i).run Try.prog w = .ok (some (i + j, e.val)) w ∧ es[j]? = some e ∧ e.key = kv k
  | [], i, _ => .inl ⟨by simp [Instr.findAsking], fun e he => by simp at he⟩
  | x :: r, i, h => by
    obtain ⟨j, hj⟩ := h x (by simp)
    have heq : (Op.equal 44 (kv k) x.key).run Try.prog w = .ok (k == j) w := by
      rw [hj]; exact equalIn_kv 9998 k j w
    by_cases e : k = j
    · subst e
      refine .inr ⟨0, x, ?_, rfl, hj⟩
      simp [Instr.findAsking, Sem.run_bind, heq]
    · have hne : (k == j) = false := by simp [e]
      rw [hne] at heq
      rcases ask_kv k w r (i + 1) (fun e he => h e (by simp [he])) with ⟨h1, h2⟩ | ⟨q, y, h1, h2, h3⟩
      · refine .inl ⟨by simp [Instr.findAsking, Sem.run_bind, heq, h1], fun y hy => ?_⟩
        rcases List.mem_cons.1 hy with rfl | hy
        · rw [hj]; intro h; exact e (kv_inj _ _ h).symm
        · exact h2 y hy
      · refine .inr ⟨q + 1, y, ?_, by simpa using h2, h3⟩
        simp [Instr.findAsking, Sem.run_bind, heq, h1]
        omega

theorem keyok_kv : KeyOk 44 kv where
  inj := kv_inj
  check w em k := check_kv 9998 w em k
  stays w k := by
    simp only [Instr.keyThatStays]
    have : ∀ d, Instr.sameBits (d + 1) (kv k) (kv k) = true := by
      intro d
      simp [Instr.sameBits, kv]
    rw [this 9999]
    simp
  find w k es h := by
    cases es with
    | nil => exact .inl ⟨by simp [Instr.findKey, Instr.findNow], fun e he => by simp at he⟩
    | cons x r =>
      obtain ⟨j, hj⟩ := h x (by simp)
      have e : Instr.findKey 44 (kv k) (x :: r) = Instr.findKey 44 (kv k) (x :: r) := rfl
      have hn : ∀ d, Instr.findNow (.struct d) (kv k) (x :: r) 0 = none := by
        intro d
        simp [Instr.findNow, Instr.sameNow]
      have hrun : (Instr.findKey 44 (kv k) (x :: r)).run Try.prog w = (Instr.findAsking 44 (kv k) (x :: r)).run Try.prog w := by
        simp [Instr.findKey, Sem.run_bind, hn]
      rw [hrun]
      rcases ask_kv k w (x :: r) 0 h with ⟨h1, h2⟩ | ⟨q, y, h1, h2, h3⟩
      · exact .inl ⟨h1, h2⟩
      · exact .inr ⟨q, y, by simpa using h1, h2, h3⟩

def iv (n : Int) : Value := .int .i64 n

theorem now_iv (k : Int) : ∀ (es : List MapEntry) (i : Nat), (∀ e ∈ es, ∃ j : Int, e.key = iv j) →
    (Instr.findNow (.int .i64) (iv k) es i = some none ∧ ∀ e ∈ es, e.key ≠ iv k) ∨
    ∃ j e, Instr.findNow (.int .i64) (iv k) es i = some (some (i + j, e.val)) ∧ es[j]? = some e ∧ e.key = iv k
  | [], i, _ => .inl ⟨rfl, fun e he => by simp at he⟩
  | x :: r, i, h => by
    obtain ⟨j, hj⟩ := h x (by simp)
    by_cases e : k = j
    · subst e
      refine .inr ⟨0, x, ?_, rfl, hj⟩
      simp [Instr.findNow, hj, iv, Instr.sameNow]
    · have hne : (k == j) = false := by simp [e]
      rcases now_iv k r (i + 1) (fun e he => h e (by simp [he])) with ⟨h1, h2⟩ | ⟨q, y, h1, h2, h3⟩
      · refine .inl ⟨?_, fun y hy => ?_⟩
        · simp [Instr.findNow, hj, Instr.sameNow]
          rw [show iv k = .int .i64 k from rfl, show iv j = .int .i64 j from rfl]
          simp [hne]
          exact h1
        · rcases List.mem_cons.1 hy with rfl | hy
          · rw [hj]; intro h; simp [iv] at h; exact e h.symm
          · exact h2 y hy
      · refine .inr ⟨q + 1, y, ?_, by simpa using h2, h3⟩
        simp [Instr.findNow, hj, Instr.sameNow]
        rw [show iv k = .int .i64 k from rfl, show iv j = .int .i64 j from rfl]
        simp [hne]
        rw [show (Value.int .i64 k) = iv k from rfl, h1]
        congr 3; omega

theorem keyok_iv : KeyOk 3 iv where
  inj j k h := by simpa [iv] using h
  check w em k := check_int 9999 w em k
  stays w k := by
    simp only [Instr.keyThatStays]
    have : ∀ d, Instr.sameBits (d + 1) (iv k) (iv k) = true := by
      intro d
      simp [Instr.sameBits, iv]
    rw [this 9999]
    simp
  find w k es h := by
    rcases now_iv k es 0 h with ⟨h1, h2⟩ | ⟨q, y, h1, h2, h3⟩
    · exact .inl ⟨by simp [Instr.findKey, Sem.run_bind, h1], h2⟩
    · exact .inr ⟨q, y, by simp [Instr.findKey, Sem.run_bind, h1], h2, h3⟩

/-- The entries es are the function f. -/
structure Fits {κ ν : Type} (enc : κ → Value) (encv : ν → Value) (f : κ → Option ν) (es : Array MapEntry) (clock : Nat) : Prop where
  keys : ∀ e ∈ es.toList, ∃ k v, e.key = enc k ∧ f k = some v ∧ e.val = encv v
  all : ∀ k v, f k = some v → ∃ e ∈ es.toList, e.key = enc k
  once : es.toList.Pairwise (fun x y => x.key ≠ y.key)
  born : ∀ e ∈ es.toList, e.born < clock
  stamps : (es.toList.map (·.born)).Nodup

/-- Block B is a map that is the function f. -/
def MapIn {κ ν : Type} (enc : κ → Value) (encv : ν → Value) (B : Nat) (f : κ → Option ν) (w : World) : Prop :=
  ∃ es clock, w.heap[B]? = some (.map es clock) ∧ Fits enc encv f es clock

def upd {κ ν : Type} [DecidableEq κ] (f : κ → Option ν) (k : κ) (v : ν) : κ → Option ν := fun j => if j = k then some v else f j

section
variable {κ ν : Type} {K : TypeId} {enc : κ → Value} {encv : ν → Value} {f : κ → Option ν} {B : Nat} {w : World}

theorem MapIn.lt (h : MapIn enc encv B f w) : B < w.heap.size := by
  obtain ⟨es, clock, hb, _⟩ := h
  exact lt_at hb

theorem MapIn.kept {X : Nat → Prop} {w' : World} (h : MapIn enc encv B f w) (hk : Kept X w w') (hx : ¬ X B) : MapIn enc encv B f w' := by
  obtain ⟨es, clock, hb, F⟩ := h
  exact ⟨es, clock, hk.at hb hx, F⟩

theorem MapIn.still {w' : World} (h : MapIn enc encv B f w) (hk : Kept (fun _ => False) w w') : MapIn enc encv B f w' := h.kept hk (fun x => x)

theorem MapIn.made {w : World} (hB : w.heap.size = B) : MapIn enc encv B (fun _ => none) (w.alloc (.map #[] 0)) :=
  ⟨#[], 0, alloc_at' _ hB, ⟨by simp, by simp, by simp, by simp, by simp⟩⟩

theorem MapIn.off {c : Array Value} {t : TypeId} {n : Nat} (h : MapIn enc encv B f w) (hn : w.heap[n]? = some (.cells c t (0, 0))) : n ≠ B := by
  obtain ⟨es, clock, hb, _⟩ := h
  intro e; rw [e, hb] at hn; cases hn

/-- A look-up. -/
theorem MapIn.look (h : MapIn enc encv B f w) (O : KeyOk K enc) {T E : TypeId} {z : Value} (hT : Try.prog.underlying T = some (.map K E)) (hz : ∀ w, (zeroValue E).run Try.prog w = .ok z w) (k : κ) (c : Bool) :
    (Instr.lookup T (.map (some B)) (enc k) c).run Try.prog w = .ok (if c = true then .tuple #[((f k).map encv).getD z, .bool (f k).isSome] else ((f k).map encv).getD z) w := by
  obtain ⟨es, clock, hb, F⟩ := h
  rcases O.find w k es.toList (fun e he => by obtain ⟨j, v, h1, _⟩ := F.keys e he; exact ⟨j, h1⟩) with ⟨h1, h2⟩ | ⟨j, e, h1, h2, h3⟩
  · have hn : f k = none := by
      cases hf : f k with
      | none => rfl
      | some v => obtain ⟨e, he, hk⟩ := F.all k v hf; exact absurd hk (h2 e he)
    simp [Instr.lookup, run_underlying hT, MapKept.run_getObj_map hb, O.check, h1, hz, hn, Sem.run_bind, Result.andThen]
  · obtain ⟨j', v, e1, e2, e3⟩ := F.keys e (List.mem_of_getElem? h2)
    rw [h3] at e1
    obtain rfl := O.inj _ _ e1
    simp [Instr.lookup, run_underlying hT, MapKept.run_getObj_map hb, O.check, h1, e2, e3, Sem.run_bind, Result.andThen]

theorem kept_setBlock (w : World) (B : Nat) (o' : Obj) : Kept (fun n => n = B) w (setBlock w B o') :=
  ⟨rfl, rfl, rfl, by simp [setBlock], fun k _ hk => by
    simp [setBlock, Array.getElem?_setIfInBounds]
    intro e; exact absurd e.symm hk⟩

theorem setBlock_at {o : Obj} (hb : w.heap[B]? = some o) (o' : Obj) : (setBlock w B o').heap[B]? = some o' := by
  have := lt_at hb
  simp [setBlock, this]

/-- A store. -/
theorem MapIn.store [DecidableEq κ] (h : MapIn enc encv B f w) (O : KeyOk K enc) {T E : TypeId} (hT : Try.prog.underlying T = some (.map K E)) (k : κ) (v : ν) :
    ∃ w', (Instr.mapUpdate T (.map (some B)) (enc k) (encv v)).run Try.prog w = .ok () w' ∧ MapIn enc encv B (upd f k v) w' ∧ Kept (fun n => n = B) w w' ∧ w'.heap.size = w.heap.size := by
  obtain ⟨es, clock, hb, F⟩ := h
  have other : ∀ e ∈ es.toList, e.key ≠ enc k → ∃ j u, e.key = enc j ∧ upd f k v j = some u ∧ e.val = encv u := by
    intro e he hne
    obtain ⟨j, u, e1, e2, e3⟩ := F.keys e he
    refine ⟨j, u, e1, ?_, e3⟩
    have : j ≠ k := by intro h; exact hne (by rw [e1, h])
    simp [upd, this, e2]
  rcases O.find w k es.toList (fun e he => by obtain ⟨j, v, h1, _⟩ := F.keys e he; exact ⟨j, h1⟩) with ⟨h1, h2⟩ | ⟨j, e, h1, h2, h3⟩
  · refine ⟨setBlock w B (.map (es.push { key := enc k, val := encv v, born := clock }) (clock + 1)), ?_, ⟨_, _, setBlock_at hb _, ?_, ?_, ?_, ?_, ?_⟩, kept_setBlock w B _, by simp [setBlock]⟩
    · simp [Instr.mapUpdate, run_underlying hT, MapKept.run_getObj_map hb, O.check, h1, MapKept.run_setObj_map _ hb, Sem.run_bind, Result.andThen, setBlock]
    · intro e he
      rw [Array.toList_push] at he
      rcases List.mem_append.1 he with he | he
      · exact other e he (h2 e he)
      · obtain rfl := List.mem_singleton.1 he
        exact ⟨k, v, rfl, by simp [upd], rfl⟩
    · intro j u hj
      by_cases hjk : j = k
      · subst hjk
        exact ⟨{ key := enc j, val := encv v, born := clock }, by simp, rfl⟩
      · simp [upd, hjk] at hj
        obtain ⟨e, he, hk⟩ := F.all j u hj
        exact ⟨e, by simp at he ⊢; exact .inl he, hk⟩
    · rw [Array.toList_push, List.pairwise_append]
      exact ⟨F.once, by simp, fun a ha b hb => by obtain rfl := List.mem_singleton.1 hb; exact h2 a ha⟩
    · intro e he
      rw [Array.toList_push] at he
      rcases List.mem_append.1 he with he | he
      · have := F.born e he; omega
      · obtain rfl := List.mem_singleton.1 he
        show clock < clock + 1
        omega
    · rw [Array.toList_push, List.map_append]
      refine List.nodup_append.2 ⟨F.stamps, by simp, fun a ha b hb => ?_⟩
      simp at hb
      obtain ⟨e, he, rfl⟩ := List.mem_map.1 ha
      have := F.born e he
      omega
  · have hj : j < es.size := by simpa using (List.getElem?_eq_some_iff.1 h2).1
    have hej : es[j]? = some e := by simpa using h2
    have hkey : (((es[j]?).map (·.key)).getD (enc k)) = enc k := by rw [hej]; exact h3
    have hge : es[j] = e := by
      have := Array.getElem?_eq_getElem hj
      rw [hej] at this
      exact (Option.some.inj this).symm
    have hlist : (es.modify j fun x => { x with key := enc k, val := encv v }).toList = es.toList.set j { e with key := enc k, val := encv v } := by
      apply List.ext_getElem?
      intro i
      rw [Array.getElem?_toList, Array.getElem?_modify, List.getElem?_set]
      by_cases hi : j = i
      · subst hi
        simp [hj, hge]
      · simp [hi]
    have hmap : ∀ (g : MapEntry → Nat) (hg : g { e with key := enc k, val := encv v } = g e), (es.toList.set j { e with key := enc k, val := encv v }).map g = es.toList.map g := by
      intro g hg
      rw [List.map_set, hg]
      apply List.ext_getElem?
      intro i
      rw [List.getElem?_set]
      by_cases hi : j = i
      · subst hi
        simp [hj, hge]
      · simp [hi]
    have hmapk : (es.toList.set j { e with key := enc k, val := encv v }).map (·.key) = es.toList.map (·.key) := by
      rw [List.map_set]
      apply List.ext_getElem?
      intro i
      rw [List.getElem?_set]
      by_cases hi : j = i
      · subst hi
        simp [hj, hge, h3]
      · simp [hi]
    refine ⟨setBlock w B (.map (es.modify j fun x => { x with key := enc k, val := encv v }) clock), ?_, ⟨_, _, setBlock_at hb _, ?_, ?_, ?_, ?_, ?_⟩, kept_setBlock w B _, by simp [setBlock]⟩
    · simp [Instr.mapUpdate, run_underlying hT, MapKept.run_getObj_map hb, O.check, h1, hkey, O.stays, MapKept.run_setObj_map _ hb, Sem.run_bind, Result.andThen, setBlock]
    · intro x hx
      rw [hlist] at hx
      obtain ⟨i, hi⟩ := List.mem_iff_getElem?.1 hx
      rw [List.getElem?_set] at hi
      by_cases hji : j = i
      · subst hji
        have : x = { e with key := enc k, val := encv v } := by
          rw [if_pos rfl, if_pos (by simpa using hj)] at hi
          exact (Option.some.inj hi).symm
        subst this
        exact ⟨k, v, rfl, by simp [upd], rfl⟩
      · rw [if_neg hji] at hi
        refine other x (List.mem_of_getElem? hi) ?_
        intro hk
        have hp := List.pairwise_iff_getElem.1 F.once
        obtain ⟨li, ei⟩ := List.getElem?_eq_some_iff.1 hi
        obtain ⟨lj, ej⟩ := List.getElem?_eq_some_iff.1 h2
        rcases Nat.lt_or_ge i j with hlt | hge
        · exact hp i j li lj hlt (by rw [ei, ej, hk, h3])
        · exact hp j i lj li (by omega) (by rw [ei, ej, hk, h3])
    · intro i u hi
      rw [hlist]
      by_cases hik : i = k
      · subst hik
        exact ⟨{ e with key := enc i, val := encv v }, List.mem_iff_getElem?.2 ⟨j, by rw [List.getElem?_set, if_pos rfl, if_pos (by simpa using hj)]⟩, rfl⟩
      · simp [upd, hik] at hi
        obtain ⟨x, hx, hk⟩ := F.all i u hi
        obtain ⟨q, hq⟩ := List.mem_iff_getElem?.1 hx
        refine ⟨x, List.mem_iff_getElem?.2 ⟨q, ?_⟩, hk⟩
        rw [List.getElem?_set]
        have : j ≠ q := by
          intro e1; subst e1
          rw [h2] at hq
          have := Option.some.inj hq
          subst this
          rw [h3] at hk
          exact hik (O.inj _ _ hk).symm
        rw [if_neg this]; exact hq
    · rw [hlist]
      have : ((es.toList.set j { e with key := enc k, val := encv v }).map (·.key)).Pairwise (· ≠ ·) := by rw [hmapk]; exact List.pairwise_map.2 F.once
      exact List.pairwise_map.1 this
    · intro x hx
      rw [hlist] at hx
      have : x.born ∈ (es.toList.set j { e with key := enc k, val := encv v }).map (·.born) := List.mem_map.2 ⟨x, hx, rfl⟩
      rw [hmap _ rfl] at this
      obtain ⟨y, hy, e1⟩ := List.mem_map.1 this
      rw [← e1]; exact F.born y hy
    · rw [hlist, hmap _ rfl]; exact F.stamps

/-- A map is copied. -/
theorem MapIn.clone {n : Nat} (h : MapIn enc encv B f w) (hn : w.heap.size = n) {es : Array MapEntry} {clock : Nat} (hb : w.heap[B]? = some (.map es clock)) : MapIn enc encv n f (w.alloc (.map es clock)) := by
  obtain ⟨es', clock', hb', F⟩ := h
  rw [hb] at hb'
  cases hb'
  exact ⟨es, clock, alloc_at' _ hn, F⟩

/-- The loop over a map is under way: left are those still to come. -/
def RangeIn (enc : κ → Value) (encv : ν → Value) (B r : Nat) (f : κ → Option ν) (left : κ → Bool) (w : World) : Prop :=
  ∃ es clock since seen c0, w.heap[B]? = some (.map es clock) ∧ Fits enc encv f es clock ∧ w.heap[r]? = some (.mapIter (some B) since seen c0) ∧
    (∀ x ∈ es.toList, x.born < since) ∧ since ≤ c0 ∧ since ≤ clock ∧ (∀ x ∈ es.toList, ∀ k, x.key = enc k → left k = !seen.contains x.born) ∧ (∀ k, left k = true → (f k).isSome = true)

theorem RangeIn.map {r : Nat} {left : κ → Bool} (h : RangeIn enc encv B r f left w) : MapIn enc encv B f w := by
  obtain ⟨es, clock, _, _, _, hb, F, _⟩ := h
  exact ⟨es, clock, hb, F⟩

theorem RangeIn.kept {X : Nat → Prop} {w' : World} {r : Nat} {left : κ → Bool} (h : RangeIn enc encv B r f left w) (hk : Kept X w w') (hx : ¬ X B) (hr : ¬ X r) : RangeIn enc encv B r f left w' := by
  obtain ⟨es, clock, since, seen, c0, hb, F, hi, rest⟩ := h
  exact ⟨es, clock, since, seen, c0, hk.at hb hx, F, hk.at hi hr, rest⟩

theorem RangeIn.start {T E : TypeId} {r : Nat} (h : MapIn enc encv B f w) (O : KeyOk K enc) (hT : Try.prog.underlying T = some (.map K E)) (hr : w.heap.size = r) :
    ∃ w', (Instr.range T (.map (some B))).run Try.prog w = .ok (.pointer (some ⟨r, 0, none⟩)) w' ∧ RangeIn enc encv B r f (fun k => (f k).isSome) w' ∧ Kept (fun _ => False) w w' ∧ w'.heap.size = r + 1 := by
  subst hr
  obtain ⟨es, clock, hb, F⟩ := h
  refine ⟨_, run_range_map w T K E B es clock hT hb, ⟨es, clock, clock, #[], clock, alloc_off hb, F, alloc_at w _, F.born, Nat.le_refl _, Nat.le_refl _, ?_, fun k h => h⟩, (Kept.refl _ _).alloc _, by simp⟩
  intro x hx k hk
  obtain ⟨j, v, e1, e2, _⟩ := F.keys x hx
  rw [hk] at e1
  obtain rfl := O.inj _ _ e1
  simp [e2]

theorem RangeIn.next {r : Nat} {left : κ → Bool} [DecidableEq κ] (h : RangeIn enc encv B r f left w) (O : KeyOk K enc) (ty : TypeId) :
    (w.rangeLeft B r = 0 ∧ (∀ k, left k = false) ∧ (Instr.next (.pointer (some ⟨r, 0, none⟩)) false ty).run Try.prog w = .ok (.tuple #[.bool false]) w) ∨
    ∃ k v w', left k = true ∧ f k = some v ∧ (Instr.next (.pointer (some ⟨r, 0, none⟩)) false ty).run Try.prog w = .ok (.tuple #[.bool true, enc k, encv v]) w' ∧
      (Instr.entry (.pointer (some ⟨r, 0, none⟩))).run Try.prog w' = .ok (.tuple #[enc k, encv v]) w' ∧ RangeIn enc encv B r f (fun j => left j && !decide (j = k)) w' ∧ w'.rangeLeft B r < w.rangeLeft B r ∧
      Kept (fun n => n = r) w w' ∧ w'.heap.size = w.heap.size := by
  obtain ⟨es, clock, since, seen, c0, hb, F, hr, hold, hsc, hsk, hl, hlf⟩ := h
  have hne : B ≠ r := by intro e; rw [e, hr] at hb; cases hb
  have hleft : w.rangeLeft B r = (leftOf es seen).size := by simp [World.rangeLeft, hb, hr]
  rcases run_next_at (P := Try.prog) w ty r B since c0 seen es clock hr hb hold hsc with ⟨h0, hrun⟩ | ⟨e, he, w1, hal, hrun⟩
  · refine .inl ⟨by rw [hleft, h0], fun k => ?_, hrun⟩
    cases hk : left k with
    | false => rfl
    | true =>
      have := hlf k hk
      cases hf : f k with
      | none => rw [hf] at this; cases this
      | some v =>
        obtain ⟨x, hx, hxk⟩ := F.all k v hf
        rw [hl x hx k hxk, all_seen es seen h0 x hx] at hk
        cases hk
  · obtain ⟨hem, hes⟩ := mem_left he
    obtain ⟨k, v, e1, e2, e3⟩ := F.keys e hem
    rw [e1, e3] at hrun
    have hr1 : w1.heap[r]? = some (.mapIter (some B) since seen c0) := by rcases hal with rfl | rfl <;> exact hr
    have hb1 : w1.heap[B]? = some (.map es clock) := by rcases hal with rfl | rfl <;> exact hb
    have hset := setBlock_at hr1 (.mapIter (some B) since (seen.push e.born) clock)
    have hk1 : Kept (fun n => n = r) w w1 := by rcases hal with rfl | rfl <;> exact ⟨rfl, rfl, rfl, Nat.le_refl _, fun _ _ _ => rfl⟩
    have hk2 := kept_setBlock w1 r (.mapIter (some B) since (seen.push e.born) clock)
    have hb2 := hk2.at hb1 hne
    refine .inr ⟨k, v, _, by rw [hl e hem k e1, hes]; rfl, e2, hrun, ?_, ⟨es, clock, since, seen.push e.born, clock, hb2, F, hset, hold, hsk, hsk, ?_, ?_⟩, ?_, hk1.trans hk2 (fun _ _ e => e), ?_⟩
    · have := run_entry_at (P := Try.prog) _ r B since seen es clock e hset hb2 hem F.stamps
      rw [e1, e3] at this
      exact this
    · intro x hx j hj
      show (left j && !decide (j = k)) = _
      rw [hl x hx j hj, contains_push]
      have hsame : (x.born == e.born) = decide (j = k) := by
        by_cases hjk : j = k
        · subst hjk
          have : x = e := entry_eq_of_key F.once hx hem (by rw [hj, e1])
          subst this
          simp
        · have hne2 : x.born ≠ e.born := by
            intro hbb
            have := born_inj F.stamps hx hem hbb
            subst this
            rw [hj] at e1
            exact hjk (O.inj _ _ e1)
          simp [hjk, hne2]
      rw [hsame]
      cases seen.contains x.born <;> cases decide (j = k) <;> rfl
    · intro j hj
      simp at hj
      exact hlf j hj.1
    · rw [hleft]
      have : (setBlock w1 r (.mapIter (some B) since (seen.push e.born) clock)).rangeLeft B r = (leftOf es (seen.push e.born)).size := by simp [World.rangeLeft, hb2, hset]
      rw [this]
      exact left_shrinks es seen e he
    · rcases hal with rfl | rfl <;> simp [setBlock]

theorem MapIn.count [DecidableEq κ] (h : MapIn enc encv B f w) (O : KeyOk K enc) {ks : List κ} (hn : ks.Nodup) (hks : ∀ k, k ∈ ks ↔ (f k).isSome = true) {T E ty : TypeId} (hT : Try.prog.underlying T = some (.map K E)) :
    (Builtin.len_ #[T] ty #[.map (some B)]).run Try.prog w = .ok (.int .i64 ks.length) w := by
  obtain ⟨es, clock, hb, F⟩ := h
  have hp : (es.toList.map (·.key)).Perm (ks.map enc) := by
    have n1 : (es.toList.map (·.key)).Nodup := List.pairwise_map.2 F.once
    have n2 : (ks.map enc).Nodup := List.pairwise_map.2 (hn.imp (fun hne h => hne (O.inj _ _ h)))
    refine (List.perm_ext_iff_of_nodup n1 n2).2 (fun x => ?_)
    constructor
    · intro hx
      obtain ⟨e, he, rfl⟩ := List.mem_map.1 hx
      obtain ⟨k, v, e1, e2, _⟩ := F.keys e he
      exact List.mem_map.2 ⟨k, (hks k).2 (by simp [e2]), e1.symm⟩
    · intro hx
      obtain ⟨k, hk, rfl⟩ := List.mem_map.1 hx
      obtain ⟨v, hv⟩ := Option.isSome_iff_exists.1 ((hks k).1 hk)
      obtain ⟨e, he, hke⟩ := F.all k v hv
      exact List.mem_map.2 ⟨e, he, hke⟩
  have hl := hp.length_eq
  simp at hl
  simp [Builtin.len_, run_underlying hT, MapKept.run_getObj_map hb, Sem.run_bind, Result.andThen, hl, goInt]

end
end Go.Proofs.Ytigfgnaakoicjaa

namespace Go.Proofs.Ytigfgnaakoicjaa
open Go.RowKit

section
variable {P : Program} {ops : Array Oper} {Q : Exit → Act → World → Prop} {md : Region.Mode} {S : World → Prop}

/-- Operation i is not wanted: it is passed over. -/
theorem h_skip (i : Nat) (d : Option Tmp) {fuel : Nat} {listed : Array Bool} {a : Act} {w : World} (hd : (ops[i]?).map (fun o => o.dst) = some d)
    (hw : (ops[i]?).map (fun o => Region.wanted o (yielded ops a.tmps)) = some false) (hs : Region.noSelect ops = true) (hf : Region.free md ops listed i = true) (hr : (Region.ready md ops listed).contains i = true)
    (hQ : ∀ c a w, Q (.panic c) (a.put d undef) w → Q (.panic c) a w) (hS : S w)
    (h : wpAnyH P md ops Q S fuel (listed.setIfInBounds i true) (a.put d undef) w) : wpAnyH P md ops Q S (fuel + 1) listed a w := by
  cases ho : ops[i]? with
  | none => rw [ho] at hd; cases hd
  | some o =>
    rw [ho] at hd hw
    have hd' : o.dst = d := by simpa using hd
    subst hd'
    exact wpAnyH_take ho hs hf hr hQ (Or.inr ⟨by simpa using hw, rfl⟩) hS h

/-- Operation i yields v: it is taken. -/
theorem h_take (i : Nat) (d : Option Tmp) (op : Op) (t : TypeId) (v : Value) {fuel : Nat} {listed : Array Bool} {a : Act} {w : World} (hd : (ops[i]?).map (fun o => (o.dst, o.op, o.type)) = some (d, op, t))
    (hw : (ops[i]?).map (fun o => Region.wanted o (yielded ops a.tmps)) = some true) (hs : Region.noSelect ops = true) (hf : Region.free md ops listed i = true) (hr : (Region.ready md ops listed).contains i = true)
    (hQ : ∀ c a w, Q (.panic c) (a.put d v) w → Q (.panic c) a w) (hy : ∀ p af g w, S w → (execOp a.eval ⟨d, op, t, p, af, g⟩).run P w = .ok (.value v) w) (hS : S w)
    (h : wpAnyH P md ops Q S fuel (listed.setIfInBounds i true) (a.put d v) w) : wpAnyH P md ops Q S (fuel + 1) listed a w := by
  cases ho : ops[i]? with
  | none => rw [ho] at hd; cases hd
  | some o =>
    rw [ho] at hd hw
    obtain ⟨d', op', t', p, af, g⟩ := o
    have hd' : (d', op', t') = (d, op, t) := by simpa using hd
    cases hd'
    exact wpAnyH_take ho hs hf hr hQ (Or.inl ⟨by simpa using hw, fun w hSw => hy p af g w hSw⟩) hS h

/-- Operation i alone may come up: it is done. -/
theorem h_step (i : Nat) (d : Option Tmp) (op : Op) (t : TypeId) {fuel : Nat} {listed : Array Bool} {a : Act} {w : World} (hd : (ops[i]?).map (fun o => (o.dst, o.op, o.type)) = some (d, op, t))
    (hw : (ops[i]?).map (fun o => Region.wanted o (yielded ops a.tmps)) = some true) (hr : Region.ready md ops listed = [i])
    (h : ∀ p af g (K : Act → World → Prop), Shut (∀ a w, S w → (S w → wpAnyH P md ops Q S fuel (listed.setIfInBounds i true) a w) → K a w) → Oper.wp P ⟨d, op, t, p, af, g⟩ a w K Q) : wpAnyH P md ops Q S (fuel + 1) listed a w := by
  cases ho : ops[i]? with
  | none => rw [ho] at hd; cases hd
  | some o =>
    rw [ho] at hd hw
    obtain ⟨d', op', t', p, af, g⟩ := o
    have hd' : (d', op', t') = (d, op, t) := by simpa using hd
    cases hd'
    refine wpAnyH_ready hr (by simp) (AllReadyH.cons ho (fun K hK => ?_) AllReadyH.nil)
    rw [if_pos (by simpa using hw)]
    exact h p af g K hK

/-- Two operations may come up. -/
theorem h_two (i : Nat) (d : Option Tmp) (op : Op) (t : TypeId) (j : Nat) (d2 : Option Tmp) (op2 : Op) (t2 : TypeId) {fuel : Nat} {listed : Array Bool} {a : Act} {w : World} (hd : (ops[i]?).map (fun o => (o.dst, o.op, o.type)) = some (d, op, t)) (hd2 : (ops[j]?).map (fun o => (o.dst, o.op, o.type)) = some (d2, op2, t2))
    (hw : (ops[i]?).map (fun o => Region.wanted o (yielded ops a.tmps)) = some true) (hw2 : (ops[j]?).map (fun o => Region.wanted o (yielded ops a.tmps)) = some true) (hr : Region.ready md ops listed = [i, j])
    (h : ∀ p af g (K : Act → World → Prop), Shut (∀ a w, S w → (S w → wpAnyH P md ops Q S fuel (listed.setIfInBounds i true) a w) → K a w) → Oper.wp P ⟨d, op, t, p, af, g⟩ a w K Q)
    (h2 : ∀ p af g (K : Act → World → Prop), Shut (∀ a w, S w → (S w → wpAnyH P md ops Q S fuel (listed.setIfInBounds j true) a w) → K a w) → Oper.wp P ⟨d2, op2, t2, p, af, g⟩ a w K Q) : wpAnyH P md ops Q S (fuel + 1) listed a w := by
  cases ho : ops[i]? with
  | none => rw [ho] at hd; cases hd
  | some o =>
    cases ho2 : ops[j]? with
    | none => rw [ho2] at hd2; cases hd2
    | some o2 =>
      rw [ho] at hd hw
      rw [ho2] at hd2 hw2
      obtain ⟨d', op', t', p, af, g⟩ := o
      have hd' : (d', op', t') = (d, op, t) := by simpa using hd
      cases hd'
      obtain ⟨d2', op2', t2', p2, af2, g2⟩ := o2
      have hd2' : (d2', op2', t2') = (d2, op2, t2) := by simpa using hd2
      cases hd2'
      refine wpAnyH_ready hr (by simp) (AllReadyH.cons ho (fun K hK => ?_) (AllReadyH.cons ho2 (fun K hK => ?_) AllReadyH.nil))
      · rw [if_pos (by simpa using hw)]
        exact h p af g K hK
      · rw [if_pos (by simpa using hw2)]
        exact h2 p2 af2 g2 K hK
end

theorem wp_yield {P : Program} {o : Oper} {a : Act} {w w' : World} {v : Value} {K : Act → World → Prop} {Q : Exit → Act → World → Prop} (hr : (execOp a.eval o).run P w = .ok (.value v) w') (h : K (a.put o.dst v) w') : o.wp P a w K Q := by
  unfold Oper.wp
  rw [hr]
  exact h
end Go.Proofs.Ytigfgnaakoicjaa

namespace Go.Proofs.Ytigfgnaakoicjaa
open Go.RowKit

/-- A value of an object. -/
structure V where
  n0 : Int
  n1 : Int
  n2 : Int
  n3 : Int
  n4 : Int
  n5 : Int
  n6 : Int
  n7 : Int
  n8 : Int
  n9 : Int
  n10 : Int
  n11 : Int
  n12 : Int
  n13 : Int
  n14 : Int
  n15 : Int
  s : ByteArray

def vc (x : V) : List Value := [.int .i64 x.n0, .int .i64 x.n1, .int .i64 x.n2, .int .i64 x.n3, .int .i64 x.n4, .int .i64 x.n5, .int .i64 x.n6, .int .i64 x.n7, .int .i64 x.n8, .int .i64 x.n9, .int .i64 x.n10, .int .i64 x.n11, .int .i64 x.n12, .int .i64 x.n13, .int .i64 x.n14, .int .i64 x.n15, .string x.s]
def nc (t : Bool × Bool × V) : List Value := .bool t.1 :: .bool t.2.1 :: vc t.2.2
def wc (t : (Int × Int) × V) : List Value := .int .i64 t.1.1 :: .int .i64 t.1.2 :: vc t.2
def vv (x : V) : Value := .agg (vc x).toArray
def ntv (t : Bool × Bool × V) : Value := .agg (nc t).toArray
def wtv (t : (Int × Int) × V) : Value := .agg (wc t).toArray
def zeroV : V := ⟨0, 0, 0, 0, 0, 0, 0, 0, 0, 0, 0, 0, 0, 0, 0, 0, ByteArray.empty⟩
theorem vc_length (x : V) : (vc x).length = 17 := rfl
theorem nc_length (t : Bool × Bool × V) : (nc t).length = 19 := rfl
theorem wc_length (t : (Int × Int) × V) : (wc t).length = 19 := rfl
theorem vc_one (x : V) : ∀ v ∈ vc x, v.oneCell' = true := by intro v hv; simp [vc] at hv; rcases hv with rfl | rfl | rfl | rfl | rfl | rfl | rfl | rfl | rfl | rfl | rfl | rfl | rfl | rfl | rfl | rfl | rfl <;> rfl
theorem nc_one (t : Bool × Bool × V) : ∀ v ∈ nc t, v.oneCell' = true := by
  intro v hv
  rcases List.mem_cons.1 hv with rfl | hv
  · rfl
  rcases List.mem_cons.1 hv with rfl | hv
  · rfl
  · exact vc_one _ v hv
theorem wc_one (t : (Int × Int) × V) : ∀ v ∈ wc t, v.oneCell' = true := by
  intro v hv
  rcases List.mem_cons.1 hv with rfl | hv
  · rfl
  rcases List.mem_cons.1 hv with rfl | hv
  · rfl
  · exact vc_one _ v hv
theorem zero_value (w : World) : (zeroValue 41).run Try.prog w = .ok (vv zeroV) w := by kernel_rfl
theorem zero_note (w : World) : (zeroValue 59).run Try.prog w = .ok (ntv (false, false, zeroV)) w := by kernel_rfl
theorem zero_bool (w : World) : (zeroValue 4).run Try.prog w = .ok (.bool false) w := by kernel_rfl

/-- A type whose values lie in n cells. -/
structure IsWide (ty : TypeId) (n : Nat) : Prop where
  desc : ∃ d, Try.prog.underlying ty = some d ∧ d.isRow = true
  size : (Try.prog.info? ty).map (·.size) = some n

theorem wide_V : IsWide 41 17 := ⟨⟨_, Try.underlying41, rfl⟩, by kernel_rfl⟩
theorem wide_N : IsWide 59 19 := ⟨⟨_, Try.underlying59, rfl⟩, by kernel_rfl⟩
theorem wide_W : IsWide 46 19 := ⟨⟨_, Try.underlying46, rfl⟩, by kernel_rfl⟩
theorem load_wide {ty : TypeId} {n : Nat} (W : IsWide ty n) {w : World} {b o : Nat} {cs : List Value} (hc : w.rangeAt b o cs) (hn : cs.length = n) :
    (Instr.loadAt ty (.pointer (some ⟨b, o, none⟩))).run Try.prog w = .ok (.agg cs.toArray) w := by
  obtain ⟨d, hu, hd⟩ := W.desc
  exact run_loadAt_mid w b o ty cs d hc hu hd (by rw [hn]; exact W.size)

theorem store_wide {ty : TypeId} {n : Nat} (W : IsWide ty n) {w : World} {b : Nat} {old cs : List Value} {t : TypeId} (hb : w.heap[b]? = some (.cells old.toArray t (0, 0))) (ho : old.length = n) (hn : cs.length = n) (h1 : ∀ v ∈ cs, v.oneCell' = true) :
    (Instr.storeAt ty (.pointer (some ⟨b, 0, none⟩)) (.agg cs.toArray)).run Try.prog w = .ok () (w.setRow b cs.toArray) := by
  simp only [Instr.storeAt, Instr.sureAddr, Sem.run_bind, Sem.run_pure, Result.andThen_ok]
  exact run_storeVar_row w b t ty old.toArray cs.toArray hb (by rw [W.size]; simp [hn]) (by simp [ho, hn]) (all_oneCell_toArray h1)

theorem whole_range {w : World} {b : Nat} {cs : List Value} {t : TypeId} (hb : w.heap[b]? = some (.cells cs.toArray t (0, 0))) : w.rangeAt b 0 cs := by
  intro j v hv
  rw [Nat.zero_add]
  exact cell_at hb (by simpa using hv)

theorem part_range {w : World} {b : Nat} {bs cs : List Value} {t : TypeId} (hb : w.heap[b]? = some (.cells (bs ++ cs).toArray t (0, 0))) {o : Nat} (ho : bs.length = o) : w.rangeAt b o cs := by
  subst ho
  intro j v hv
  refine cell_at hb ?_
  simp
  rw [List.getElem?_append_right (by omega)]
  simpa using hv

theorem range_kept {X : Nat → Prop} {w w' : World} {b o : Nat} {cs : List Value} (h : w.rangeAt b o cs) (hk : Kept X w w') (hx : ¬ X b) : w'.rangeAt b o cs :=
  fun j v hv => hk.cell (h j v hv) hx

theorem setRow_at {w : World} {b : Nat} {c : Array Value} {t : TypeId} (hb : w.heap[b]? = some (.cells c t (0, 0))) (c' : Array Value) : (w.setRow b c').heap[b]? = some (.cells c' t (0, 0)) := setRow_heap w b c c' t _ hb

theorem kept_setRow (w : World) (b : Nat) (c : Array Value) : Kept (fun n => n = b) w (w.setRow b c) :=
  ⟨rfl, rfl, rfl, by simp [World.setRow], fun k _ hk => by
    simp only [World.setRow, Array.getElem?_modify]
    rw [if_neg (fun e => hk e.symm)]⟩

theorem setRow_new (w : World) (c c' : Array Value) (t : TypeId) {n : Nat} (hn : w.heap.size = n) : (w.alloc (.cells c t)).setRow n c' = w.alloc (.cells c' t) := by
  subst hn
  simp only [World.setRow, World.alloc]
  congr 1
  apply Array.ext_getElem?
  intro i
  rw [Array.getElem?_modify]
  by_cases h : w.heap.size = i
  · subst h; simp
  · have h' : ¬ i = w.heap.size := fun e => h e.symm
    simp [h, h', Array.getElem?_push]

section
variable {ops : Array Oper} {rest : List Oper} {o : Oper} {a : Act} {w : World} {Q : Exit → Act → World → Prop}

/-- A wide load, at the list of a plain region's operations. -/
theorem list_wload (hg : o.guard = none) {ty : TypeId} {n : Nat} (W : IsWide ty n) (x : Operand) (ho : o.op = .load ty x) (b off : Nat) (hx : a.eval x = .pointer (some ⟨b, off, none⟩)) (cs : List Value) (hc : w.rangeAt b off cs) (hn : cs.length = n)
    (h : wpList Try.prog ops Q rest (a.put o.dst (.agg cs.toArray)) w) : wpList Try.prog ops Q (o :: rest) a w := by
  obtain ⟨d, hu, hd⟩ := W.desc
  exact wpList_load_mid hg ty x ho b off hx cs d hc hu hd (by rw [hn]; exact W.size) h

/-- A wide store into a variable that was just made. -/
theorem list_wnew (hg : o.guard = none) {ty : TypeId} {n : Nat} (W : IsWide ty n) (x y : Operand) (ho : o.op = .store ty x y) (b : Nat) (hx : a.eval x = .pointer (some ⟨b, 0, none⟩)) (cs : List Value) (hy : a.eval y = .agg cs.toArray)
    (old : Array Value) (hold : old.size = n) (hb : w.heap.size = b) (hn : cs.length = n) (h1 : ∀ v ∈ cs, v.oneCell' = true) {t : TypeId}
    (h : wpList Try.prog ops Q rest (a.put o.dst undef) (w.alloc (.cells cs.toArray t))) : wpList Try.prog ops Q (o :: rest) a (w.alloc (.cells old t)) := by
  refine wpList_store_row hg ty x y ho b cs.toArray hx hy t old (alloc_at' _ hb) (by rw [W.size]; simp [hn]) (by simp [hold, hn]) (all_oneCell_toArray h1) ?_
  rw [setRow_new w _ _ t hb]
  exact h

/-- A wide store into a variable. -/
theorem list_wstore (hg : o.guard = none) {ty : TypeId} {n : Nat} (W : IsWide ty n) (x y : Operand) (ho : o.op = .store ty x y) (b : Nat) (hx : a.eval x = .pointer (some ⟨b, 0, none⟩)) (cs : List Value) (hy : a.eval y = .agg cs.toArray)
    {old : Array Value} {t : TypeId} (hold : w.heap[b]? = some (.cells old t (0, 0))) (hs : old.size = n) (hn : cs.length = n) (h1 : ∀ v ∈ cs, v.oneCell' = true)
    (h : wpList Try.prog ops Q rest (a.put o.dst undef) (w.setRow b cs.toArray)) : wpList Try.prog ops Q (o :: rest) a w :=
  wpList_store_row hg ty x y ho b cs.toArray hx hy t old hold (by rw [W.size]; simp [hn]) (by simp [hs, hn]) (all_oneCell_toArray h1) h
end

theorem build_zero (w : World) : (Instr.build 41 #[]).run Try.prog w = .ok (vv zeroV) w := by kernel_rfl
theorem build_note (a b : Bool) (x : V) (w : World) : (Instr.build 59 #[(0, .bool a), (1, .bool b), (2, vv x)]).run Try.prog w = .ok (ntv (a, b, x)) w := by kernel_rfl
theorem build_write (k : Int × Int) (x : V) (w : World) : (Instr.build 46 #[(0, kv k), (1, vv x)]).run Try.prog w = .ok (wtv (k, x)) w := by kernel_rfl
theorem slice_write (t : (Int × Int) × V) (w : World) : (Instr.buildSlice 47 1 #[(0, wtv t)]).run Try.prog w = .ok (.slice (some ⟨w.heap.size, 0, none⟩) 1 1) (w.alloc (.cells (wc t).toArray 46)) := by kernel_rfl
theorem field_read (t : Bool × Bool × V) (w : World) : (Instr.field 59 (ntv t) 0).run Try.prog w = .ok (.bool t.1) w := by kernel_rfl
theorem field_last (t : Bool × Bool × V) (w : World) : (Instr.field 59 (ntv t) 2).run Try.prog w = .ok (vv t.2.2) w := by kernel_rfl

theorem forIn_yields {α : Type} (body : α → Option Bool × Unit → Sem (ForInStep (Option Bool × Unit))) (w : World) : ∀ (l : List α), (∀ i ∈ l, (body i (none, ())).run Try.prog w = .ok (.yield (none, ())) w) →
    (forIn l (none, ()) body).run Try.prog w = .ok (none, ()) w
  | [], _ => by simp
  | x :: r, h => by
    rw [List.forIn_cons, Sem.run_bind, h x (by simp)]
    simp only [Result.andThen_ok]
    exact forIn_yields body w r (fun i hi => h i (by simp [hi]))

theorem equalIn_arr (d : Nat) (cs : Array Value) (h : ∀ i, i < 16 → ∃ n, cs[i]? = some (.int .i64 n)) (w : World) : (Op.equalIn (d + 1 + 1) 39 (.agg cs) (.agg cs)).run Try.prog w = .ok true w := by
  rw [Op.equalIn]
  simp only [Sem.run_bind, Try.runUnderlying39, Result.andThen_ok, Try.sizeOf3]
  simp only [Std.Legacy.Range.forIn_eq_forIn_range', Std.Legacy.Range.size, Nat.sub_zero, Nat.add_sub_cancel, Nat.div_one]
  rw [forIn_yields]
  · simp
  · intro i hi
    have hi' : i < 16 := by simp at hi; omega
    obtain ⟨n, hn⟩ := h i hi'
    simp [part, Sem.run_bind, hn, equalIn_int]

theorem equalIn_str (d : Nat) (s : ByteArray) (w : World) : (Op.equalIn (d + 1) 9 (.string s) (.string s)).run Try.prog w = .ok true w := by
  rw [Op.equalIn]
  simp [Sem.run_bind]
  exact (MapKept.bytes_beq s s).2 rfl

theorem vc_ints (x : V) (i : Nat) (h : i < 16) : ∃ n, (vc x)[i]? = some (.int .i64 n) := by
  rcases i with _ | _ | _ | _ | _ | _ | _ | _ | _ | _ | _ | _ | _ | _ | _ | _ | i <;> first | exact ⟨_, rfl⟩ | omega

theorem vc_arr (x : V) (i : Nat) (hi : i < 16) : ∃ n, ((vc x).toArray.extract 0 16)[i]? = some (.int .i64 n) := by
  obtain ⟨n, hn⟩ := vc_ints x i hi
  refine ⟨n, ?_⟩
  rw [Array.getElem?_extract]
  simp only [List.size_toArray, vc_length]
  rw [if_pos (by omega)]
  simpa using hn

theorem vc_str (x : V) : (vc x).toArray[16]? = some (.string x.s) := by rfl

theorem part_arr (cs : Array Value) (w : World) : (part 39 cs 0).run Try.prog w = .ok (.agg (cs.extract 0 16)) w := by simp [part, Sem.run_bind]
theorem part_str (cs : Array Value) (s : ByteArray) (h : cs[16]? = some (.string s)) (w : World) : (part 9 cs 16).run Try.prog w = .ok (.string s) w := by simp [part, Sem.run_bind, h]

theorem forIn_yieldsA {α : Type} (body : α → Option Bool × Unit → Sem (ForInStep (Option Bool × Unit))) (w : World) (l : Array α) (h : ∀ i ∈ l.toList, (body i (none, ())).run Try.prog w = .ok (.yield (none, ())) w) :
    (forIn l (none, ()) body).run Try.prog w = .ok (none, ()) w := by
  rw [← Array.forIn_toList]
  exact forIn_yields body w l.toList h

theorem equalIn_cells (e : Nat) (cs : Array Value) (s : ByteArray) (w : World) (h1 : (Op.equalIn e 39 (.agg (cs.extract 0 16)) (.agg (cs.extract 0 16))).run Try.prog w = .ok true w)
    (h2 : (Op.equalIn e 9 (.string s) (.string s)).run Try.prog w = .ok true w) (h3 : cs[16]? = some (.string s)) : (Op.equalIn (e + 1) 41 (.agg cs) (.agg cs)).run Try.prog w = .ok true w := by
  have e1 := part_arr cs w
  have e2 := part_str cs s h3 w
  have hp : (program).run Try.prog w = .ok Try.prog w := rfl
  rw [Op.equalIn]
  simp only [Sem.run_bind, Try.runUnderlying41, Result.andThen_ok, hp, Try.stoodInHeld41, Bool.false_eq_true, if_false]
  rw [forIn_yieldsA]
  · rfl
  · intro f hf
    simp only [List.mem_cons, List.not_mem_nil, or_false] at hf
    rcases hf with rfl | rfl
    · rw [if_pos (by decide)]
      simp only [Sem.run_bind, e1, h1, Result.andThen_ok]
      rfl
    · rw [if_pos (by decide)]
      simp only [Sem.run_bind, e2, h2, Result.andThen_ok]
      rfl

theorem equalIn_vv (d : Nat) (x : V) (w : World) : (Op.equalIn (d + 1 + 1 + 1) 41 (vv x) (vv x)).run Try.prog w = .ok true w :=
  equalIn_cells (d + 1 + 1) (vc x).toArray x.s w (equalIn_arr d _ (vc_arr x) w) (equalIn_str (d + 1) x.s w) (vc_str x)

theorem part_val (t : (Int × Int) × V) (w : World) : (part 41 (wc t).toArray 2).run Try.prog w = .ok (vv t.2) w := by kernel_rfl
theorem part_key (t : (Int × Int) × V) (w : World) : (part 44 (wc t).toArray 0).run Try.prog w = .ok (kv t.1) w := by kernel_rfl

theorem equalIn_wtv (d : Nat) (t : (Int × Int) × V) (w : World) : (Op.equalIn (d + 1 + 1 + 1 + 1) 46 (wtv t) (wtv t)).run Try.prog w = .ok true w := by
  have e1 := part_key t w
  have e2 := part_val t w
  have h1 := equalIn_kv (d + 1) t.1 t.1 w
  have h2 := equalIn_vv d t.2 w
  have hp : (program).run Try.prog w = .ok Try.prog w := rfl
  rw [wtv, Op.equalIn]
  simp only [Sem.run_bind, Try.runUnderlying46, Result.andThen_ok, hp, Try.stoodInHeld46, Bool.false_eq_true, if_false]
  rw [forIn_yieldsA]
  · rfl
  · intro f hf
    simp only [List.mem_cons, List.not_mem_nil, or_false] at hf
    rcases hf with rfl | rfl
    · rw [if_pos (by decide)]
      simp only [Sem.run_bind, e1, h1, Result.andThen_ok, beq_self_eq_true]
      rfl
    · rw [if_pos (by decide)]
      simp only [Sem.run_bind, e2, h2, Result.andThen_ok]
      rfl

theorem eq_vv (x : V) (w : World) : (Op.equal 41 (vv x) (vv x)).run Try.prog w = .ok true w := equalIn_vv 9997 x w
theorem eq_wtv (t : (Int × Int) × V) (w : World) : (Op.equal 46 (wtv t) (wtv t)).run Try.prog w = .ok true w := equalIn_wtv 9996 t w
end Go.Proofs.Ytigfgnaakoicjaa

namespace Go.Proofs.Ytigfgnaakoicjaa
open Go.RowKit

section
variable {ev : Operand → Value} {w w' : World} {d : Option Tmp} {t : TypeId} {p : String} {af : Array Edge} {g : Option (Nat × Bool)} {v : Value}

theorem exec_load {ty : TypeId} {x : Operand} {y : Value} (hx : ev x = y) (h : (Instr.loadAt ty y).run Try.prog w = .ok v w) : (execOp ev ⟨d, .load ty x, t, p, af, g⟩).run Try.prog w = .ok (.value v) w := by
  subst hx; simp [execOp, h]
theorem exec_store {ty : TypeId} {x y : Operand} {a b : Value} (hx : ev x = a) (hy : ev y = b) (h : (Instr.storeAt ty a b).run Try.prog w = .ok () w') : (execOp ev ⟨d, .store ty x y, t, p, af, g⟩).run Try.prog w = .ok .skip w' := by
  subst hx; subst hy; simp [execOp, h]
theorem exec_look {ty : TypeId} {x y : Operand} {a b : Value} {c : Bool} (hx : ev x = a) (hy : ev y = b) (h : (Instr.lookup ty a b c).run Try.prog w = .ok v w) : (execOp ev ⟨d, .lookup ty x y c, t, p, af, g⟩).run Try.prog w = .ok (.value v) w := by
  subst hx; subst hy; simp [execOp, h]
theorem exec_update {ty : TypeId} {x y z : Operand} {a b c : Value} (hx : ev x = a) (hy : ev y = b) (hz : ev z = c) (h : (Instr.mapUpdate ty a b c).run Try.prog w = .ok () w') : (execOp ev ⟨d, .mapUpdate ty x y z, t, p, af, g⟩).run Try.prog w = .ok .skip w' := by
  subst hx; subst hy; subst hz; simp [execOp, h]
theorem exec_field {ty : TypeId} {x : Operand} {a : Value} {i : Nat} (hx : ev x = a) (h : (Instr.field ty a i).run Try.prog w = .ok v w) : (execOp ev ⟨d, .field ty x i, t, p, af, g⟩).run Try.prog w = .ok (.value v) w := by
  subst hx; simp [execOp, h]
theorem exec_build {ty : TypeId} {ps : Array (Nat × Operand)} {vs : Array (Nat × Value)} (h : (Instr.build ty vs).run Try.prog w = .ok v w) (hx : (ps.map fun (i, x) => (i, ev x)) = vs) : (execOp ev ⟨d, .build ty ps, t, p, af, g⟩).run Try.prog w = .ok (.value v) w := by
  subst hx; simp [execOp, h]
theorem exec_slice {ty : TypeId} {n : Nat} {ps : Array (Nat × Operand)} {vs : Array (Nat × Value)} (h : (Instr.buildSlice ty n vs).run Try.prog w = .ok v w') (hx : (ps.map fun (i, x) => (i, ev x)) = vs) : (execOp ev ⟨d, .buildSlice ty n ps, t, p, af, g⟩).run Try.prog w = .ok (.value v) w' := by
  subst hx; simp [execOp, h]
theorem guard_vv (a : V) (x y : Operand) (op : BinOp) (w : World) : (eqGuard op 41 x y (vv a) (vv a)).run Try.prog w = .ok () w := by
  unfold vv eqGuard
  have hp : (program).run Try.prog w = .ok Try.prog w := rfl
  split <;> simp [Sem.run_bind]
theorem guard_wtv (a : (Int × Int) × V) (x y : Operand) (op : BinOp) (w : World) : (eqGuard op 46 x y (wtv a) (wtv a)).run Try.prog w = .ok () w := by
  unfold wtv eqGuard
  have hp : (program).run Try.prog w = .ok Try.prog w := rfl
  split <;> simp [Sem.run_bind]
theorem exec_eqV {x y : Operand} {a : V} {r : TypeId} (hx : ev x = vv a) (hy : ev y = vv a) : (execOp ev ⟨d, .binOp .eql 41 x y r, t, p, af, g⟩).run Try.prog w = .ok (.value (.bool true)) w := by
  have h := eq_vv a w
  have h2 := guard_vv a x y .eql w
  have h3 : (binOp .eql 41 (vv a) (vv a)).run Try.prog w = .ok (.bool true) w := by
    have : binOp .eql 41 (vv a) (vv a) = (do pure (.bool (← Op.equal 41 (vv a) (vv a)))) := rfl
    rw [this, Sem.run_bind, h]; rfl
  simp [execOp, hx, hy, h2, h3]
theorem exec_neV {x y : Operand} {a : V} {r : TypeId} (hx : ev x = vv a) (hy : ev y = vv a) : (execOp ev ⟨d, .binOp .neq 41 x y r, t, p, af, g⟩).run Try.prog w = .ok (.value (.bool false)) w := by
  have h := eq_vv a w
  have h2 := guard_vv a x y .neq w
  have h3 : (binOp .neq 41 (vv a) (vv a)).run Try.prog w = .ok (.bool false) w := by
    have : binOp .neq 41 (vv a) (vv a) = (do pure (.bool (!(← Op.equal 41 (vv a) (vv a))))) := rfl
    rw [this, Sem.run_bind, h]; rfl
  simp [execOp, hx, hy, h2, h3]
theorem exec_neW {x y : Operand} {a : (Int × Int) × V} {r : TypeId} (hx : ev x = wtv a) (hy : ev y = wtv a) : (execOp ev ⟨d, .binOp .neq 46 x y r, t, p, af, g⟩).run Try.prog w = .ok (.value (.bool false)) w := by
  have h := eq_wtv a w
  have h2 := guard_wtv a x y .neq w
  have h3 : (binOp .neq 46 (wtv a) (wtv a)).run Try.prog w = .ok (.bool false) w := by
    have : binOp .neq 46 (wtv a) (wtv a) = (do pure (.bool (!(← Op.equal 46 (wtv a) (wtv a))))) := rfl
    rw [this, Sem.run_bind, h]; rfl
  simp [execOp, hx, hy, h2, h3]
end

theorem wp_skip {P : Program} {o : Oper} {a : Act} {w w' : World} {K : Act → World → Prop} {Q : Exit → Act → World → Prop} (hr : (execOp a.eval o).run P w = .ok .skip w') (h : K (a.put o.dst undef) w') : o.wp P a w K Q := by
  unfold Oper.wp
  rw [hr]
  exact h
end Go.Proofs.Ytigfgnaakoicjaa
