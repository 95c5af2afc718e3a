
/- What the reference's views tell of what was read and written; no conditions but that each object that is noted was read or written. -/
import Derived.Test.YtkpcillgoeidaaaRVw
namespace Go.Proofs.Ytkpcillgoeidaaa
open Go.RowKit
set_option maxRecDepth 100000
set_option linter.unusedSimpArgs false

def wrB (F : Int → Option V) : Int → Option Bool := fun j => if (F j).isSome = true then some true else none
def doneB {ν : Type} (F : Int → Option ν) (left : Int → Bool) (G : Int → Option Bool) : Int → Option Bool := fun j => if (F j).isSome && !left j then some true else G j

theorem done_start {ν : Type} (F : Int → Option ν) (G : Int → Option Bool) : doneB F (fun j => (F j).isSome) G = G := by
  funext j; unfold doneB; cases h : (F j).isSome <;> simp [h]
theorem done_step {ν : Type} {F : Int → Option ν} {left : Int → Bool} {G : Int → Option Bool} {k : Int} {v : ν} (h : F k = some v) : doneB F (fun j => left j && !decide (j = k)) G = upd (doneB F left G) k true := by
  funext j
  unfold doneB upd
  by_cases e : j = k
  · subst e; simp [h]
  · simp [e]
theorem done_end {ν : Type} {F : Int → Option ν} {left : Int → Bool} {G : Int → Option Bool} (h : ∀ k, left k = false) : doneB F left G = fun j => if (F j).isSome = true then some true else G j := by
  funext j; unfold doneB; rw [h j]; simp

theorem kept_two {B r : Nat} {a b c : World} (h : Kept (fun n => n = r) a b) (g : Kept (fun n => n = B) b c) : Kept (fun n => n = r ∨ n = B) a c :=
  (h.mono (fun _ _ e => .inl e)).trans g (fun _ _ e => .inr e)

set_option maxHeartbeats 1000000 in
theorem written_w (q R W p : Nat) (g : VwF) (w : World) (h : RViewIn q R W p g w) : Calls Try.prog 76 #[.pointer (some ⟨q, 0, none⟩)] w
    fun e w' => ∃ B, e = .returned (.map (some B)) ∧ MapIn iv bv B (fun j => if (byP (ownOf g) j).isSome = true then some true else none) w' ∧ Kept (fun _ => False) w w' ∧ w.heap.size ≤ B := by
  obtain ⟨B, hB⟩ : ∃ B : Nat, w.heap.size = B := ⟨_, rfl⟩
  have hmm := @run_makeMap Try.prog
  obtain ⟨w1, h1⟩ : ∃ w1, w.alloc (.map #[] 0) = w1 := ⟨_, rfl⟩
  have k1 : Kept (fun _ => False) w w1 := by subst h1; exact (Kept.refl _ _).alloc _
  have m1 : MapIn (ν := Bool) iv bv B (fun _ => none) w1 := by subst h1; exact MapIn.made hB
  have hs1 : w1.heap.size = B + 1 := by subst h1; simp [hB]
  have hv := h.still k1
  have c2 := cell_at hv.cell (i := 2) rfl
  obtain ⟨w2, hr2, hR2, k2, hs2⟩ := RangeIn.start hv.w keyok_iv mapRV hs1
  have lW : W < B := by have := h.w.lt; omega
  have H0 : Hid (RangeIn iv vv W (B + 1) (byP (ownOf g)) (fun j => (byP (ownOf g) j).isSome) w2 ∧ MapIn iv bv B (doneB (byP (ownOf g)) (fun j => (byP (ownOf g) j).isSome) (fun _ => none)) w2 ∧ Kept (fun _ => False) w w2) :=
    ⟨hR2, by rw [done_start]; exact m1.still k2, k1.thru k2⟩
  clear hR2 m1 k1 k2 hs2 hv h
  go_enter Try.func76, Try.ntmps76
  go_wp2_with fail
  go_loopw [4] (fun _ wr => ∃ left : Int → Bool, Hid (RangeIn iv vv W (B + 1) (byP (ownOf g)) left wr ∧ MapIn iv bv B (doneB (byP (ownOf g)) left (fun _ => none)) wr ∧ Kept (fun _ => False) w wr)) (fun _ wr => wr.rangeLeft W (B + 1))
  case atStart => exact ⟨_, H0.out⟩
  case round =>
    obtain ⟨left, HH⟩ := hrel
    clear H0 hr2 c2 h1 hs1 hmm
    rcases HH.out.1.next keyok_iv 0 with ⟨-, hl, hn⟩ | ⟨k, v, y1, hlk, hfk, hn, he, hR1, hlt, hk1, hsz⟩
    · have HR : Hid (MapIn iv bv B (fun j => if (byP (ownOf g) j).isSome = true then some true else none) wr ∧ Kept (fun _ => False) w wr) := by
        have := HH.out.2.1
        rw [done_end hl] at this
        exact ⟨this, HH.out.2.2⟩
      clear HH hl
      go_wp2
      go_ret
      exact ⟨B, rfl, HR.out.1, HR.out.2, by omega⟩
    · have hm1 : MapIn iv bv B (doneB (byP (ownOf g)) left (fun _ => none)) y1 := HH.out.2.1.kept hk1 (show ¬ B = B + 1 by omega)
      obtain ⟨y2, hu, hm2, hk2, hsz2⟩ := hm1.store keyok_iv mapRS k true
      have hu' : (Instr.mapUpdate 114 (.map (some B)) (.int .i64 k) (.bool true)).run Try.prog y1 = .ok () y2 := hu
      have hn' : (Instr.next (.pointer (some ⟨B + 1, 0, none⟩)) false 0).run Try.prog wr = .ok (.tuple #[.bool true, .int .i64 k, vv v]) y1 := hn
      have he' : (Instr.entry (.pointer (some ⟨B + 1, 0, none⟩))).run Try.prog y1 = .ok (.tuple #[.int .i64 k, vv v]) y1 := he
      have HN : Hid (RangeIn iv vv W (B + 1) (byP (ownOf g)) (fun j => left j && !decide (j = k)) y2 ∧ MapIn iv bv B (doneB (byP (ownOf g)) (fun j => left j && !decide (j = k)) (fun _ => none)) y2 ∧ Kept (fun _ => False) w y2) :=
        ⟨hR1.kept hk2 (show ¬ W = B by omega) (show ¬ B + 1 = B by omega), by rw [done_step hfk]; exact hm2, HH.out.2.2.trans (kept_two hk1 hk2) (fun k h1 h2 => by omega)⟩
      have HM : Hid (y2.rangeLeft W (B + 1) < wr.rangeLeft W (B + 1)) := by
        show _ < _
        have e : y2.rangeLeft W (B + 1) = y1.rangeLeft W (B + 1) := by
          obtain ⟨es, ck, since, seen, c0, q1, -, q2, -⟩ := hR1
          have e1 := hk2.at q1 (show ¬ W = B by omega)
          have e2 := hk2.at q2 (show ¬ B + 1 = B by omega)
          simp [World.rangeLeft, q1, q2, e1, e2]
        rw [e]; exact hlt
      clear HH hm1 hm2 hu hn he hR1 hlt hk1 hk2 hsz hsz2 hlk hfk
      go_wp2
      go_roundw
      case rel => exact ⟨_, HN.out⟩
      case measure => exact HM.out

theorem rreads0_w (q R W p : Nat) (g : VwF) (w : World) (h : RViewIn q R W p g w) : Calls Try.prog 57 #[.pointer (some ⟨q, 0, none⟩)] w fun e w' => ∃ v, e = .returned v ∧ OwnK w v (upto (isB (byP (rdOf g))) 55) w' := by
  have RL := rlist_w R _ w h.r
  have c1 := cell_at h.cell (i := 1) rfl
  clear h
  go_enter Try.func57, Try.ntmps57
  go_wp2_with fail
  refine RL.mono ?_
  rintro e w1 ⟨v, rfl, ho⟩
  have HO : Hid (OwnK w v (upto (isB (byP (rdOf g))) 55) w1) := ho
  clear RL ho
  go_wp2
  go_ret
  exact ⟨_, rfl, HO.out⟩

theorem upto_same {f h : Nat → Bool} (n : Nat) (e : ∀ p, p < n → f p = h p) : upto f n = upto h n := by
  unfold upto
  congr 1
  exact List.filter_congr (fun p hp => e p (by simpa using hp))

theorem byP_at {ν : Type} (f : K2 → Option ν) {p : Nat} (h : p < 55) : byP f (p : Int) = f (keyAt p) := by
  unfold byP; rw [if_pos (by omega)]

theorem reads_same (g : VwF) : upto (isB (byP (rdOf g))) 55 = readsF g := by
  refine upto_same 55 (fun p hp => ?_)
  unfold isB isF
  rw [byP_at _ hp]
  unfold rdOf noteF
  cases g (keyAt (p : Int)) with
  | none => rfl
  | some t => rcases t with ⟨a, b, c⟩; cases a <;> rfl

theorem wrote_same (g : VwF) : upto (isB (fun j => if (byP (ownOf g) j).isSome = true then some true else none)) 55 = wroteF g := by
  refine upto_same 55 (fun p hp => ?_)
  unfold isB isF
  dsimp only
  rw [byP_at _ hp]
  unfold ownOf noteF
  cases g (keyAt (p : Int)) with
  | none => rfl
  | some t => rcases t with ⟨a, b, c⟩; cases b <;> rfl

/-- Each object that is noted was read or written. -/
def Noted (g : VwF) : Prop := ∀ k t, g k = some t → t.1 = true ∨ t.2.1 = true

theorem noted_none : Noted (fun _ => none) := fun _ _ h => by cases h
theorem noted_get {g : VwF} (h : Noted g) (k : K2) : Noted (vgetT g k) := by
  intro j t hj
  unfold vgetT at hj
  split at hj
  · unfold upd at hj
    split at hj
    · cases hj; exact .inl rfl
    · exact h j t hj
  · exact h j t hj
theorem noted_put {g : VwF} (h : Noted g) (k : K2) (x : V) : Noted (vputT g k x) := by
  intro j t hj
  unfold vputT at hj
  split at hj
  · unfold upd at hj
    split at hj
    · cases hj; exact .inr rfl
    · exact h j t hj
  · exact h j t hj

theorem rreads_w (q R W p : Nat) (g : VwF) (w : World) (h : RViewIn q R W p g w) : Calls Try.prog 57 #[.pointer (some ⟨q, 0, none⟩)] w fun e w' => ∃ v, e = .returned v ∧ OwnK w v (readsF g) w' := by
  have := rreads0_w q R W p g w h
  rw [reads_same] at this
  exact this

end Go.Proofs.Ytkpcillgoeidaaa
