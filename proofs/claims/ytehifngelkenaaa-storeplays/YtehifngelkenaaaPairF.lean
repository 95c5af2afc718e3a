/- What the statement on views apart keeps beside the stores: plain facts; no conditions. -/
import Derived.Test.YtehifngelkenaaaTwinF
namespace Go.Proofs.Ytehifngelkenaaa
open Go.RowKit

def putAll (f : StF) (l : Ws) : StF := l.foldl (fun f t => putF f t.1 t.2) f

theorem putAll_app (f : StF) (a b : Ws) : putAll f (a ++ b) = putAll (putAll f a) b := by unfold putAll; rw [List.foldl_append]
theorem putAll_one (f : StF) (t : K2 × V) : putAll f [t] = putF f t.1 t.2 := rfl

theorem put_comm (f : StF) (j k : K2) (x y : V) (h : j ≠ k) : putF (putF f j x) k y = putF (putF f k y) j x := by
  funext i
  unfold putF
  by_cases h1 : 0 ≤ plc j <;> by_cases h2 : 0 ≤ plc k <;> simp only [h1, h2, if_true, if_false]
  unfold upd
  by_cases e1 : i = k
  · by_cases e2 : i = j
    · exact absurd (e2.symm.trans e1) h
    · rw [if_pos e1, if_neg e2, if_pos e1]
  · by_cases e2 : i = j
    · rw [if_neg e1, if_pos e2, if_pos e2]
    · rw [if_neg e1, if_neg e2, if_neg e2, if_neg e1]

theorem inj_of_nodup {α β : Type} (f : α → β) : ∀ {l : List α}, (l.map f).Nodup → ∀ {x y : α}, x ∈ l → y ∈ l → f x = f y → x = y
  | [], _, x, _, hx, _, _ => by simp at hx
  | a :: r, hn, x, y, hx, hy, h => by
    obtain ⟨h1, h2⟩ := List.nodup_cons.1 (by simpa using hn : (f a :: r.map f).Nodup)
    rcases List.mem_cons.1 hx with ex | hx'
    · rcases List.mem_cons.1 hy with ey | hy'
      · rw [ex, ey]
      · exact absurd (List.mem_map.2 ⟨y, hy', by rw [← h, ex]⟩) h1
    · rcases List.mem_cons.1 hy with ey | hy'
      · exact absurd (List.mem_map.2 ⟨x, hx', by rw [h, ey]⟩) h1
      · exact inj_of_nodup f h2 hx' hy' h

theorem putAll_perm (f : StF) {a b : Ws} (hn : (a.map Prod.fst).Nodup) (h : a.Perm b) : putAll f a = putAll f b := by
  unfold putAll
  refine h.foldl_eq' (fun x hx y hy z => ?_) f
  by_cases e : x.1 = y.1
  · rw [inj_of_nodup Prod.fst hn hx hy e]
  · exact put_comm z x.1 y.1 x.2 y.2 e

theorem redo_keys (g : VwF) : (redoF g).map Prod.fst = wroteF g := by
  unfold redoF
  rw [List.map_map]
  exact List.map_id _

theorem wrote_some {g : VwF} {k : K2} (h : k ∈ wroteF g) : (g k).isSome = true := by
  unfold wroteF at h
  obtain ⟨p, _, hf, rfl⟩ := upto_mem.1 h
  unfold isF at hf
  cases hk : g (keyAt (p : Int)) with
  | none => rw [hk] at hf; cases hf
  | some t => rfl

theorem apart_nodup {g1 g2 : VwF} (h : ∀ k, (g2 k).isSome = true → g1 k = none) : ((redoF g1 ++ redoF g2).map Prod.fst).Nodup := by
  rw [List.map_append, redo_keys, redo_keys]
  refine List.nodup_append.2 ⟨upto_nodup _ 55 (Nat.le_refl _), upto_nodup _ 55 (Nat.le_refl _), fun a ha b hb e => ?_⟩
  subst e
  have := wrote_some ha
  rw [h a (wrote_some hb)] at this
  cases this

theorem foot_within {g : VwF} {k : K2} (hg : ∀ k, (g k).isSome = true → 0 ≤ plc k) (h : withinOf [k] (footF g) = false) : g k = none := by
  cases hk : g k with
  | none => rfl
  | some t =>
    exfalso
    have hp := hg k (by rw [hk]; rfl)
    have hb := plc_bounds k
    rw [← Bool.not_eq_true] at h
    apply h
    unfold withinOf
    refine List.all_eq_true.2 (fun p hp' => ?_)
    by_cases e : plc k = (p : Int)
    · have hm : mk (footF g) p = true := mk_mem.2 ⟨k, by
        unfold footF
        refine upto_mem.2 ⟨p, by simpa using hp', ?_, by rw [← e, keyAt_plc hp]⟩
        unfold isF
        rw [← e, keyAt_plc hp, hk]
        rfl, e⟩
      rw [hm]; simp
    · rw [mk_one]
      have : (plc k == (p : Int)) = false := by simpa using e
      rw [this]; rfl

theorem foot_len (g : VwF) : (footF g).length ≤ 55 := upto_len _ _

theorem apart_get {g1 g2 : VwF} {k : K2} (hA : ∀ k, (g2 k).isSome = true → g1 k = none) (h : g1 k = none) : ∀ j, (vgetT g2 k j).isSome = true → g1 j = none := by
  intro j hj
  unfold vgetT at hj
  split at hj
  · unfold upd at hj
    split at hj
    · rename_i e; rw [e]; exact h
    · exact hA j hj
  · exact hA j hj

theorem apart_put {g1 g2 : VwF} {k : K2} {x : V} (hA : ∀ k, (g2 k).isSome = true → g1 k = none) (h : g1 k = none) : ∀ j, (vputT g2 k x j).isSome = true → g1 j = none := by
  intro j hj
  unfold vputT at hj
  split at hj
  · unfold upd at hj
    split at hj
    · rename_i e; rw [e]; exact h
    · exact hA j hj
  · exact hA j hj

/-- A store and two views of it. -/
structure PairIn (w0 : World) (p B q N q2 N2 : Nat) (f : StF) (g1 g2 : VwF) (w : World) : Prop where
  s : StoreIn p B f w
  v : ViewIn q N p g1 w
  v2 : ViewIn q2 N2 p g2 w
  kept : Kept (fun _ => False) w0 w
  nN : w0.heap.size ≤ N
  nN2 : w0.heap.size ≤ N2
  a1 : N ≠ B
  a2 : N2 ≠ B
  a3 : N ≠ N2

section
variable {w0 : World} {p B q N q2 N2 : Nat} {f : StF} {g1 g2 : VwF} {w w' : World}
theorem PairIn.still (h : PairIn w0 p B q N q2 N2 f g1 g2 w) (hk : Kept (fun _ => False) w w') : PairIn w0 p B q N q2 N2 f g1 g2 w' :=
  { h with s := h.s.still hk, v := h.v.still hk, v2 := h.v2.still hk, kept := h.kept.thru hk }
theorem PairIn.one {g' : VwF} (h : PairIn w0 p B q N q2 N2 f g1 g2 w) (hv : ViewIn q N p g' w') (hk : Kept (fun n => n = N) w w') : PairIn w0 p B q N q2 N2 f g' g2 w' :=
  { h with s := h.s.kept hk (fun e => h.v.map.off h.s.cell e) (fun e => h.a1 e.symm), v := hv, v2 := h.v2.kept hk (fun e => h.v.map.off h.v2.cell e) (fun e => h.a3 e.symm), kept := h.kept.trans hk (fun k h1 h2 => by have := h.nN; omega) }
theorem PairIn.two {g' : VwF} (h : PairIn w0 p B q N q2 N2 f g1 g2 w) (hv : ViewIn q2 N2 p g' w') (hk : Kept (fun n => n = N2) w w') : PairIn w0 p B q N q2 N2 f g1 g' w' :=
  { h with s := h.s.kept hk (fun e => h.v2.map.off h.s.cell e) (fun e => h.a2 e.symm), v2 := hv, v := h.v.kept hk (fun e => h.v2.map.off h.v.cell e) h.a3, kept := h.kept.trans hk (fun k h1 h2 => by have := h.nN2; omega) }
end

theorem SrcR.keptM {α : Type} {cs : α → List Value} {n : Nat} (hn : ∀ a, 0 < (cs a).length) {x : Value} {l : List α} {w w' : World} {κ ν : Type} {enc : κ → Value} {encv : ν → Value} {B : Nat} {f : κ → Option ν} (h : SrcR cs n x l w) (hm : MapIn enc encv B f w) (hk : Kept (fun n => n = B) w w') : SrcR cs n x l w' := by
  obtain ⟨ao, b, o, c, e, h0, h1, hc, h2⟩ := h
  refine ⟨ao, b, o, c, e, h0, h1, hc, fun j a ha => ?_⟩
  have hr := h2 j a ha
  refine range_kept hr hk (fun eb => ?_)
  have hv := List.getElem?_eq_getElem (hn a)
  have hcell := hr 0 _ hv
  obtain ⟨es, clock, hb, _⟩ := hm
  rw [eb] at hcell
  simp [World.cell?, hb] at hcell

theorem SrcR.tail {α : Type} {cs : α → List Value} {n : Nat} {a : Addr} {len c : Nat} {x : α} {l : List α} {w : World} (h : SrcR cs n (.slice (some a) len c) (x :: l) w) : SrcR cs n (.slice (some (if c - 1 = 0 then a else a.add (1 * n))) (len - 1) (c - 1)) l w ∧ len = l.length + 1 ∧ 1 ≤ c := by
  obtain ⟨ao, b, o, c', e, h0, h1, hc, h2⟩ := h
  simp only [Value.slice.injEq] at e
  obtain ⟨rfl, rfl, rfl⟩ := e
  have ha := h1 (by simp)
  simp only [Option.some.injEq] at ha
  subst ha
  refine ⟨⟨some (if c - 1 = 0 then ⟨b, o, Option.none⟩ else (⟨b, o, Option.none⟩ : Addr).add (1 * n)), b, o + n, c - 1, by simp, (fun h => by cases h), fun h0 => ?_, by simp at hc; omega, fun j y hy => ?_⟩, by simp, by simp at hc; omega⟩
  · have : ¬ c - 1 = 0 := by simp at hc; omega
    rw [if_neg this, Nat.one_mul, Addr.add_lit]
  · have := h2 (j + 1) y (by simpa using hy)
    rw [show o + n + j * n = o + (j + 1) * n by rw [Nat.succ_mul]; omega]
    exact this

theorem OwnR.made {α : Type} {cs : α → List Value} {n : Nat} {w0 w : World} (h : Kept (fun _ => False) w0 w) {E : Nat} (hE : w.heap.size = E) (ty : TypeId) : OwnR cs n ty w0 (.slice (some ⟨E, 0, none⟩) 0 0) [] (w.alloc (.cells #[] ty)) := by
  subst hE
  exact ⟨h.alloc _, World.ownsRow_made w #[] 0 h.size (by unfold maxLen; omega) (by simp)⟩

/-- The two stores into which the writes are put. -/
structure OutIn (w0 : World) (p3 B3 p4 B4 : Nat) (ft fu : StF) (w : World) : Prop where
  t : StoreIn p3 B3 ft w
  u : StoreIn p4 B4 fu w
  kept : Kept (fun _ => False) w0 w
  n3 : w0.heap.size ≤ B3
  n4 : w0.heap.size ≤ B4
  a : B3 ≠ B4

section
variable {w0 : World} {p3 B3 p4 B4 : Nat} {ft fu f' : StF} {w w' : World}
theorem OutIn.still (h : OutIn w0 p3 B3 p4 B4 ft fu w) (hk : Kept (fun _ => False) w w') : OutIn w0 p3 B3 p4 B4 ft fu w' :=
  { h with t := h.t.still hk, u := h.u.still hk, kept := h.kept.thru hk }
theorem OutIn.putT (h : OutIn w0 p3 B3 p4 B4 ft fu w) (hs : StoreIn p3 B3 f' w') (hk : Kept (fun n => n = B3) w w') : OutIn w0 p3 B3 p4 B4 f' fu w' :=
  { h with t := hs, u := h.u.kept hk (fun e => h.t.map.off h.u.cell e) (fun e => h.a e.symm), kept := h.kept.trans hk (fun k h1 h2 => by have := h.n3; omega) }
theorem OutIn.putU (h : OutIn w0 p3 B3 p4 B4 ft fu w) (hs : StoreIn p4 B4 f' w') (hk : Kept (fun n => n = B4) w w') : OutIn w0 p3 B3 p4 B4 ft f' w' :=
  { h with u := hs, t := h.t.kept hk (fun e => h.u.map.off h.t.cell e) h.a, kept := h.kept.trans hk (fun k h1 h2 => by have := h.n4; omega) }
end

theorem wc_pos (t : K2 × V) : 0 < (wc t).length := by rw [wc_length]; omega

theorem take_putAll (f : StF) {l : Ws} {i : Nat} (h : i < l.length) : putAll f (l.take (i + 1)) = putF (putAll f (l.take i)) l[i].1 l[i].2 := by
  rw [List.take_succ_eq_append_getElem h, putAll_app]; rfl

theorem write_cells {w : World} {b o : Nat} {t : K2 × V} (h : w.rangeAt b o (wc t)) : w.cell? ⟨b, o, none⟩ = some (.int .i64 t.1.1) ∧ w.cell? ⟨b, o + 1, none⟩ = some (.int .i64 t.1.2) ∧ w.rangeAt b (o + 2) (vc t.2) := by
  refine ⟨h 0 _ rfl, h 1 _ rfl, fun j u hu => ?_⟩
  have : (wc t)[2 + j]? = some u := by rw [Nat.add_comm]; exact hu
  have := h _ _ this
  rw [show o + (2 + j) = o + 2 + j by omega] at this
  exact this

theorem take_perm {a b : Ws} {t : K2 × V} {d : Ws} {l : Ws} (h : (d ++ (t :: a) ++ b).Perm l) : ((d ++ [t]) ++ a ++ b).Perm l := by simpa using h
theorem take_perm2 {a b : Ws} {t : K2 × V} {d : Ws} {l : Ws} (h : (d ++ a ++ (t :: b)).Perm l) : ((d ++ [t]) ++ a ++ b).Perm l := by
  refine List.Perm.trans ?_ h
  simp only [List.append_assoc, List.singleton_append]
  exact List.Perm.append_left d List.perm_middle.symm

def lenV : Value → Nat
  | .slice _ n _ => n
  | _ => 0
end Go.Proofs.Ytehifngelkenaaa
