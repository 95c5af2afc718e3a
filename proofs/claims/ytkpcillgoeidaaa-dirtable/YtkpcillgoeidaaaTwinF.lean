
/- What a view owns: plain facts; no conditions. -/
import Derived.Test.YtkpcillgoeidaaaRedo
namespace Go.Proofs.Ytkpcillgoeidaaa
open Go.RowKit
set_option maxRecDepth 100000

def ownOf (g : VwF) : StF := fun k => if (noteF g k).2.1 = true then some (noteF g k).2.2 else none
def seenF (f g : StF) (k : K2) : V := (g k).getD (lookF f k)

theorem note_upd (g : VwF) (k j : K2) (t : Bool × Bool × V) : noteF (upd g k t) j = if j = k then t else noteF g j := by
  unfold noteF upd
  split <;> rfl

theorem own_put {g : VwF} {k : K2} (h : 0 ≤ plc k) (x : V) : ownOf (vputT g k x) = upd (ownOf g) k x := by
  funext j
  unfold ownOf vputT
  rw [if_pos h, note_upd]
  unfold upd
  by_cases e : j = k
  · simp [e]
  · simp [e]

theorem own_get {g : VwF} {k : K2} (h : 0 ≤ plc k) : ownOf (vgetT g k) = ownOf g := by
  funext j
  unfold ownOf vgetT
  rw [if_pos h, note_upd]
  by_cases e : j = k
  · subst e; simp
  · simp [e]

theorem own_none : ownOf (fun _ => none) = fun _ => none := rfl

theorem seen_get {f : StF} {g : VwF} {k : K2} (h : 0 ≤ plc k) : vgetF f g k = seenF f (ownOf g) k := by
  unfold vgetF seenF ownOf
  rw [if_pos h]
  split <;> rfl

theorem upto_nodup (f : Nat → Bool) (n : Nat) (hn : n ≤ 55) : (upto f n).Nodup := by
  unfold upto
  refine List.pairwise_map.2 ?_
  have h1 : ((List.range n).filter f).Pairwise (fun a b => a < n ∧ b < n ∧ a ≠ b) := by
    have h0 : ((List.range n).filter f).Nodup := List.Pairwise.filter _ List.nodup_range
    refine List.Pairwise.imp_of_mem ?_ h0
    intro a b ha hb hne
    exact ⟨by simpa using (List.mem_filter.1 ha).1, by simpa using (List.mem_filter.1 hb).1, hne⟩
  refine h1.imp ?_
  rintro a b ⟨ha, hb, hne⟩ e
  have := keyAt_inj (p := (a : Int)) (q := (b : Int)) (by omega) (by omega) (by omega) (by omega) e
  exact hne (by omega)

theorem wrote_mem {g : VwF} (hg : ∀ k, (g k).isSome = true → 0 ≤ plc k) (k : K2) : k ∈ wroteF g ↔ (ownOf g k).isSome = true := by
  unfold wroteF
  rw [upto_mem]
  constructor
  · rintro ⟨p, hp, hf, rfl⟩
    unfold isF at hf
    unfold ownOf noteF
    cases hk : g (keyAt (p : Int)) with
    | none => rw [hk] at hf; cases hf
    | some t => rw [hk] at hf; simp only at hf; rw [Option.getD_some, if_pos (show t.2.1 = true from hf)]; rfl
  · intro h
    unfold ownOf noteF at h
    cases hk : g k with
    | none => rw [hk] at h; simp at h
    | some t =>
      rw [hk] at h
      have hp := hg k (by rw [hk]; rfl)
      have hb := plc_bounds k
      refine ⟨(plc k).toNat, by omega, ?_, ?_⟩
      · unfold isF
        rw [show (((plc k).toNat : Nat) : Int) = plc k by omega, keyAt_plc hp, hk]
        show t.2.1 = true
        rcases t with ⟨a, b, c⟩
        cases b with
        | true => rfl
        | false => simp at h
      · rw [show (((plc k).toNat : Nat) : Int) = plc k by omega, keyAt_plc hp]

theorem redo_len (g : VwF) : (redoF g).length = (wroteF g).length := by simp [redoF]

theorem look_vok {B : Nat} {f : StF} {w : World} (h : MapIn kv vv B f w) (k : K2) : (Instr.lookup 95 (.map (some B)) (kv k) true).run Try.prog w = .ok (.tuple #[vv (lookF f k), .bool (f k).isSome]) w := by
  have := h.look keyok_kv mapV zero_value k true
  rw [this]
  unfold lookF
  cases f k <;> rfl

theorem OwnR.shape {α : Type} {cs : α → List Value} {n : Nat} {ty : TypeId} {w0 w : World} {v : Value} {l : List α} (h : OwnR cs n ty w0 v l w) : ∃ ao c, v = .slice ao l.length c := by
  rcases h.form with ⟨rfl, rfl⟩ | ⟨g, c, rfl, _⟩
  · exact ⟨_, _, rfl⟩
  · exact ⟨_, _, rfl⟩

end Go.Proofs.Ytkpcillgoeidaaa
