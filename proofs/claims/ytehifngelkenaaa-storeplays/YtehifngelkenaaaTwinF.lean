/- What the statement on twins keeps beside the stores: plain facts; no conditions. -/
import Derived.Test.YtehifngelkenaaaRuns
import Derived.Test.YtehifngelkenaaaOpenArgs
namespace Go.Proofs.Ytehifngelkenaaa
open Go.RowKit

def ownOf (g : VwF) : StF := fun k => if (noteF g k).2.1 = true then some (noteF g k).2.2 else none
def seenF (f g : StF) (k : K2) : V := (g k).getD (lookF f k)
def wasF (f : StF) (i : Nat) : StF := fun k => if 0 ≤ plc k ∧ plc k < (i : Int) then some (lookF f k) else none

theorem note_upd (g : VwF) (k j : K2) (t : Bool × Bool × V) : noteF (upd g k t) j = if j = k then t else noteF g j := by
  unfold noteF upd
  split <;> rfl

theorem own_put {g : VwF} {k : K2} (h : 0 ≤ plc k) (x : V) : ownOf (vputT g k x) = upd (ownOf g) k x := by
  funext j
  unfold ownOf vputT
  rw [if_pos h, note_upd]
  unfold upd
  by_cases e : j = k
  · simp [e]
  · simp [e]

theorem own_get {g : VwF} {k : K2} (h : 0 ≤ plc k) : ownOf (vgetT g k) = ownOf g := by
  funext j
  unfold ownOf vgetT
  rw [if_pos h, note_upd]
  by_cases e : j = k
  · subst e; simp
  · simp [e]

theorem own_none : ownOf (fun _ => none) = fun _ => none := rfl

theorem seen_get {f : StF} {g : VwF} {k : K2} (h : 0 ≤ plc k) : vgetF f g k = seenF f (ownOf g) k := by
  unfold vgetF seenF ownOf
  rw [if_pos h]
  split <;> rfl

theorem was_zero (f : StF) : wasF f 0 = fun _ => none := by
  funext k
  unfold wasF
  rw [if_neg (by omega)]

theorem was_step (f : StF) {i : Nat} (h : i < 55) : wasF f (i + 1) = upd (wasF f i) (keyAt i) (lookF f (keyAt i)) := by
  funext k
  unfold wasF upd
  by_cases e : k = keyAt (i : Int)
  · subst e
    rw [plc_keyAt (by omega) (by omega), if_pos (by omega), if_pos rfl]
  · rw [if_neg e]
    dsimp only
    by_cases hk : 0 ≤ plc k ∧ plc k < (i : Int)
    · rw [if_pos hk, if_pos (by omega)]
    · rw [if_neg hk, if_neg]
      intro hh
      have : plc k = i := by omega
      exact e (by rw [← this, keyAt_plc hh.1])

theorem was_look {f : StF} {k : K2} (h : 0 ≤ plc k) : lookF (wasF f 55) k = lookF f k := by
  have := plc_bounds k
  have hh : wasF f 55 k = some (lookF f k) := by unfold wasF; rw [if_pos ⟨h, by omega⟩]
  show (wasF f 55 k).getD zeroV = _
  rw [hh]; rfl

theorem upto_nodup (f : Nat → Bool) (n : Nat) (hn : n ≤ 55) : (upto f n).Nodup := by
  unfold upto
  refine List.pairwise_map.2 ?_
  have h1 : ((List.range n).filter f).Pairwise (fun a b => a < n ∧ b < n ∧ a ≠ b) := by
    have h0 : ((List.range n).filter f).Nodup := List.Pairwise.filter _ List.nodup_range
    refine List.Pairwise.imp_of_mem ?_ h0
    intro a b ha hb hne
    exact ⟨by simpa using (List.mem_filter.1 ha).1, by simpa using (List.mem_filter.1 hb).1, hne⟩
  refine h1.imp ?_
  rintro a b ⟨ha, hb, hne⟩ e
  have := keyAt_inj (p := (a : Int)) (q := (b : Int)) (by omega) (by omega) (by omega) (by omega) e
  exact hne (by omega)

theorem wrote_mem {g : VwF} (hg : ∀ k, (g k).isSome = true → 0 ≤ plc k) (k : K2) : k ∈ wroteF g ↔ (ownOf g k).isSome = true := by
  unfold wroteF
  rw [upto_mem]
  constructor
  · rintro ⟨p, hp, hf, rfl⟩
    unfold isF at hf
    unfold ownOf noteF
    cases hk : g (keyAt (p : Int)) with
    | none => rw [hk] at hf; cases hf
    | some t => rw [hk] at hf; simp only at hf; rw [Option.getD_some, if_pos (show t.2.1 = true from hf)]; rfl
  · intro h
    unfold ownOf noteF at h
    cases hk : g k with
    | none => rw [hk] at h; simp at h
    | some t =>
      rw [hk] at h
      have hp := hg k (by rw [hk]; rfl)
      have hb := plc_bounds k
      refine ⟨(plc k).toNat, by omega, ?_, ?_⟩
      · unfold isF
        rw [show (((plc k).toNat : Nat) : Int) = plc k by omega, keyAt_plc hp, hk]
        show t.2.1 = true
        rcases t with ⟨a, b, c⟩
        cases b with
        | true => rfl
        | false => simp at h
      · rw [show (((plc k).toNat : Nat) : Int) = plc k by omega, keyAt_plc hp]

theorem redo_len (g : VwF) : (redoF g).length = (wroteF g).length := by simp [redoF]

/-- All that the statement on twins has in memory. -/
structure TwinIn (w0 : World) (p B p' B' q N Bw Bo : Nat) (f f0 : StF) (g : VwF) (u : StF) (w : World) : Prop where
  s : StoreIn p B f w
  t : StoreIn p' B' f0 w
  v : ViewIn q N p g w
  was : MapIn kv vv Bw (wasF f0 55) w
  own : MapIn kv vv Bo u w
  kept : Kept (fun _ => False) w0 w
  nB : w0.heap.size ≤ B
  nN : w0.heap.size ≤ N
  nO : w0.heap.size ≤ Bo
  a1 : B ≠ B'
  a2 : B ≠ N
  a3 : B ≠ Bw
  a4 : B ≠ Bo
  a5 : N ≠ B'
  a6 : N ≠ Bw
  a7 : N ≠ Bo
  a8 : Bo ≠ B'
  a9 : Bo ≠ Bw

section
variable {w0 : World} {p B p' B' q N Bw Bo : Nat} {f f0 : StF} {g : VwF} {u : StF} {w w' : World}

theorem TwinIn.still (h : TwinIn w0 p B p' B' q N Bw Bo f f0 g u w) (hk : Kept (fun _ => False) w w') : TwinIn w0 p B p' B' q N Bw Bo f f0 g u w' :=
  { h with s := h.s.still hk, t := h.t.still hk, v := h.v.still hk, was := h.was.still hk, own := h.own.still hk, kept := h.kept.thru hk }

theorem TwinIn.putS {f' : StF} (h : TwinIn w0 p B p' B' q N Bw Bo f f0 g u w) (hs : StoreIn p B f' w') (hk : Kept (fun n => n = B) w w') : TwinIn w0 p B p' B' q N Bw Bo f' f0 g u w' :=
  { h with s := hs, t := h.t.kept hk (fun e => h.s.map.off h.t.cell e) (fun e => h.a1 e.symm), v := h.v.kept hk (fun e => h.s.map.off h.v.cell e) (fun e => h.a2 e.symm), was := h.was.kept hk (fun e => h.a3 e.symm), own := h.own.kept hk (fun e => h.a4 e.symm),
           kept := h.kept.trans hk (fun k h1 h2 => by have := h.nB; omega) }

theorem TwinIn.putV {g' : VwF} (h : TwinIn w0 p B p' B' q N Bw Bo f f0 g u w) (hv : ViewIn q N p g' w') (hk : Kept (fun n => n = N) w w') : TwinIn w0 p B p' B' q N Bw Bo f f0 g' u w' :=
  { h with s := h.s.kept hk (fun e => h.v.map.off h.s.cell e) h.a2, t := h.t.kept hk (fun e => h.v.map.off h.t.cell e) (fun e => h.a5 e.symm), v := hv, was := h.was.kept hk (fun e => h.a6 e.symm), own := h.own.kept hk (fun e => h.a7 e.symm),
           kept := h.kept.trans hk (fun k h1 h2 => by have := h.nN; omega) }

theorem TwinIn.putO {u' : StF} (h : TwinIn w0 p B p' B' q N Bw Bo f f0 g u w) (ho : MapIn kv vv Bo u' w') (hk : Kept (fun n => n = Bo) w w') : TwinIn w0 p B p' B' q N Bw Bo f f0 g u' w' :=
  { h with s := h.s.kept hk (fun e => h.own.off h.s.cell e) h.a4, t := h.t.kept hk (fun e => h.own.off h.t.cell e) (fun e => h.a8 e.symm), v := h.v.kept hk (fun e => h.own.off h.v.cell e) h.a7, was := h.was.kept hk (fun e => h.a9 e.symm), own := ho,
           kept := h.kept.trans hk (fun k h1 h2 => by have := h.nO; omega) }

/-- A new variable is written. -/
theorem TwinIn.put1 {X : Nat} {c : Array Value} {t : TypeId} (h : TwinIn w0 p B p' B' q N Bw Bo f f0 g u w) (hk : Kept (fun n => n = X) w w') (hX : w.heap[X]? = some (.cells c t (0, 0))) (hn : w0.heap.size ≤ X) (e1 : X ≠ p) (e2 : X ≠ p') (e3 : X ≠ q) : TwinIn w0 p B p' B' q N Bw Bo f f0 g u w' :=
  { h with s := h.s.kept hk (fun e => e1 e.symm) (fun e => h.s.map.off hX e.symm), t := h.t.kept hk (fun e => e2 e.symm) (fun e => h.t.map.off hX e.symm), v := h.v.kept hk (fun e => e3 e.symm) (fun e => h.v.map.off hX e.symm),
           was := h.was.kept hk (fun e => h.was.off hX e.symm), own := h.own.kept hk (fun e => h.own.off hX e.symm), kept := h.kept.trans hk (fun k h1 h2 => by omega) }
end

theorem look_vok {B : Nat} {f : StF} {w : World} (h : MapIn kv vv B f w) (k : K2) : (Instr.lookup 58 (.map (some B)) (kv k) true).run Try.prog w = .ok (.tuple #[vv (lookF f k), .bool (f k).isSome]) w := by
  have := h.look keyok_kv mapV zero_value k true
  rw [this]
  unfold lookF
  cases f k <;> rfl

theorem OwnR.shape {α : Type} {cs : α → List Value} {n : Nat} {ty : TypeId} {w0 w : World} {v : Value} {l : List α} (h : OwnR cs n ty w0 v l w) : ∃ ao c, v = .slice ao l.length c := by
  rcases h.form with ⟨rfl, rfl⟩ | ⟨g, c, rfl, _⟩
  · exact ⟨_, _, rfl⟩
  · exact ⟨_, _, rfl⟩

/-- len of a map. -/
theorem list_lenmap {ops : Array Oper} {rest : List Oper} {o : Oper} {a : Act} {w : World} {Q : Exit → Act → World → Prop} (hg : o.guard = none) (m : Operand) (t : TypeId) (hop : o.op = Op.call { callee := Callee.builtin Builtin.len, args := #[m], argTypes := #[t] })
    (b : Nat) (n : Int) (hm : a.eval m = .map (some b)) (hr : (Builtin.len_ #[t] o.type #[.map (some b)]).run Try.prog w = .ok (.int .i64 n) w)
    (h : wpList Try.prog ops Q rest (a.put o.dst (.int .i64 n)) w) : wpList Try.prog ops Q (o :: rest) a w :=
  wpList_plain hg fun _ hK => by
    unfold Oper.wp
    simp [execOp, hop, resolve, invoke, builtin, hm, hr, Result.andThen]
    exact hK _ _ h
end Go.Proofs.Ytehifngelkenaaa
