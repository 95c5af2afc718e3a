
/- Maps as functions: made, looked up, stored into, copied, counted, ranged over; no conditions. -/
import Derived.Test.YtkpcillgoeidaaaMarks
import Derived.Maps.RangeRun
import Derived.Maps.RangeWalk
namespace Go.Proofs.Ytkpcillgoeidaaa
open Go.RowKit
open Go.ChangeMaps (setBlock)

/-- What a map asks of the spelling of its keys. -/
structure KeyOk {κ : Type} (K : TypeId) (enc : κ → Value) : Prop where
  inj : ∀ j k, enc j = enc k → j = k
  check : ∀ w em k, (Instr.checkKey em 10000 K (enc k)).run Try.prog w = .ok () w
  find : ∀ w k (es : List MapEntry), (∀ e ∈ es, ∃ j, e.key = enc j) →
    ((Instr.findKey K (enc k) es).run Try.prog w = .ok none w ∧ ∀ e ∈ es, e.key ≠ enc k) ∨
    ∃ j e, (Instr.findKey K (enc k) es).run Try.prog w = .ok (some (j, e.val)) w ∧ es[j]? = some e ∧ e.key = enc k
  stays : ∀ w k, (Instr.keyThatStays (enc k) (enc k)).run Try.prog w = .ok (enc k) w

theorem equalIn_int (d : Nat) (a b : Int) (w : World) : (Op.equalIn (d + 1) 3 (.int .i64 a) (.int .i64 b)).run Try.prog w = .ok (a == b) w := by
  rw [Op.equalIn]
  simp [Sem.run_bind]

theorem equalIn_kv (d : Nat) (a b : Int × Int) (w : World) : (Op.equalIn (d + 1 + 1) 61 (kv a) (kv b)).run Try.prog w = .ok (a == b) w := by
  obtain ⟨a1, a2⟩ := a
  obtain ⟨b1, b2⟩ := b
  rw [Op.equalIn]
  simp [kv, part, Sem.run_bind, equalIn_int]
  by_cases h1 : a1 = b1 <;> by_cases h2 : a2 = b2 <;> simp [h1, h2]

theorem check_int (d : Nat) (w : World) (em : Bool) (k : Int) : (Instr.checkKey em (d + 1) 3 (.int .i64 k)).run Try.prog w = .ok () w := by
  rw [Instr.checkKey]
  simp [Sem.run_bind]

theorem check_kv (d : Nat) (w : World) (em : Bool) (k : Int × Int) : (Instr.checkKey em (d + 1 + 1) 61 (kv k)).run Try.prog w = .ok () w := by
  rw [Instr.checkKey]
  simp [kv, part, Sem.run_bind, check_int]

theorem kv_inj (j k : Int × Int) (h : kv j = kv k) : j = k := by
  simp [kv] at h
  exact Prod.ext h.1 h.2

theorem ask_kv (k : Int × Int) (w : World) : ∀ (es : List MapEntry) (i : Nat), (∀ e ∈ es, ∃ j : Int × Int, e.key = kv j) →
    ((Instr.findAsking 61 (kv k) es i).run Try.prog w = .ok none w ∧ ∀ e ∈ es, e.key ≠ kv k) ∨
    ∃ j e, (Instr.findAsking 61 (kv k) es i).run Try.prog w = .ok (some (i + j, e.val)) w ∧ es[j]? = some e ∧ e.key = kv k
  | [], i, _ => .inl ⟨by simp [Instr.findAsking], fun e he => by simp at he⟩
  | x :: r, i, h => by
    obtain ⟨j, hj⟩ := h x (by simp)
    have heq : (Op.equal 61 (kv k) x.key).run Try.prog w = .ok (k == j) w := by
      rw [hj]; exact equalIn_kv 9998 k j w
    by_cases e : k = j
    · subst e
      refine .inr ⟨0, x, ?_, rfl, hj⟩
      simp [Instr.findAsking, Sem.run_bind, heq]
    · have hne : (k == j) = false := by simp [e]
      rw [hne] at heq
      rcases ask_kv k w r (i + 1) (fun e he => h e (by simp [he])) with ⟨h1, h2⟩ | ⟨q, y, h1, h2, h3⟩
      · refine .inl ⟨by simp [Instr.findAsking, Sem.run_bind, heq, h1], fun y hy => ?_⟩
        rcases List.mem_cons.1 hy with rfl | hy
        · rw [hj]; intro h; exact e (kv_inj _ _ h).symm
        · exact h2 y hy
      · refine .inr ⟨q + 1, y, ?_, by simpa using h2, h3⟩
        simp [Instr.findAsking, Sem.run_bind, heq, h1]
        omega

theorem keyok_kv : KeyOk 61 kv where
  inj := kv_inj
  check w em k := check_kv 9998 w em k
  stays w k := by
    simp only [Instr.keyThatStays]
    have : ∀ d, Instr.sameBits (d + 1) (kv k) (kv k) = true := by
      intro d
      simp [Instr.sameBits, kv]
    rw [this 9999]
    simp
  find w k es h := by
    cases es with
    | nil => exact .inl ⟨by simp [Instr.findKey, Instr.findNow], fun e he => by simp at he⟩
    | cons x r =>
      obtain ⟨j, hj⟩ := h x (by simp)
      have e : Instr.findKey 61 (kv k) (x :: r) = Instr.findKey 61 (kv k) (x :: r) := rfl
      have hn : ∀ d, Instr.findNow (.struct d) (kv k) (x :: r) 0 = none := by
        intro d
        simp [Instr.findNow, Instr.sameNow]
      have hrun : (Instr.findKey 61 (kv k) (x :: r)).run Try.prog w = (Instr.findAsking 61 (kv k) (x :: r)).run Try.prog w := by
        simp [Instr.findKey, Sem.run_bind, hn]
      rw [hrun]
      rcases ask_kv k w (x :: r) 0 h with ⟨h1, h2⟩ | ⟨q, y, h1, h2, h3⟩
      · exact .inl ⟨h1, h2⟩
      · exact .inr ⟨q, y, by simpa using h1, h2, h3⟩

def iv (n : Int) : Value := .int .i64 n

theorem now_iv (k : Int) : ∀ (es : List MapEntry) (i : Nat), (∀ e ∈ es, ∃ j : Int, e.key = iv j) →
    (Instr.findNow (.int .i64) (iv k) es i = some none ∧ ∀ e ∈ es, e.key ≠ iv k) ∨
    ∃ j e, Instr.findNow (.int .i64) (iv k) es i = some (some (i + j, e.val)) ∧ es[j]? = some e ∧ e.key = iv k
  | [], i, _ => .inl ⟨rfl, fun e he => by simp at he⟩
  | x :: r, i, h => by
    obtain ⟨j, hj⟩ := h x (by simp)
    by_cases e : k = j
    · subst e
      refine .inr ⟨0, x, ?_, rfl, hj⟩
      simp [Instr.findNow, hj, iv, Instr.sameNow]
    · have hne : (k == j) = false := by simp [e]
      rcases now_iv k r (i + 1) (fun e he => h e (by simp [he])) with ⟨h1, h2⟩ | ⟨q, y, h1, h2, h3⟩
      · refine .inl ⟨?_, fun y hy => ?_⟩
        · simp [Instr.findNow, hj, Instr.sameNow]
          rw [show iv k = .int .i64 k from rfl, show iv j = .int .i64 j from rfl]
          simp [hne]
          exact h1
        · rcases List.mem_cons.1 hy with rfl | hy
          · rw [hj]; intro h; simp [iv] at h; exact e h.symm
          · exact h2 y hy
      · refine .inr ⟨q + 1, y, ?_, by simpa using h2, h3⟩
        simp [Instr.findNow, hj, Instr.sameNow]
        rw [show iv k = .int .i64 k from rfl, show iv j = .int .i64 j from rfl]
        simp [hne]
        rw [show (Value.int .i64 k) = iv k from rfl, h1]
        congr 3; omega

theorem keyok_iv : KeyOk 3 iv where
  inj j k h := by simpa [iv] using h
  check w em k := check_int 9999 w em k
  stays w k := by
    simp only [Instr.keyThatStays]
    have : ∀ d, Instr.sameBits (d + 1) (iv k) (iv k) = true := by
      intro d
      simp [Instr.sameBits, iv]
    rw [this 9999]
    simp
  find w k es h := by
    rcases now_iv k es 0 h with ⟨h1, h2⟩ | ⟨q, y, h1, h2, h3⟩
    · exact .inl ⟨by simp [Instr.findKey, Sem.run_bind, h1], h2⟩
    · exact .inr ⟨q, y, by simp [Instr.findKey, Sem.run_bind, h1], h2, h3⟩

/-- The entries es are the function f. -/
structure Fits {κ ν : Type} (enc : κ → Value) (encv : ν → Value) (f : κ → Option ν) (es : Array MapEntry) (clock : Nat) : Prop where
  keys : ∀ e ∈ es.toList, ∃ k v, e.key = enc k ∧ f k = some v ∧ e.val = encv v
  all : ∀ k v, f k = some v → ∃ e ∈ es.toList, e.key = enc k
  once : es.toList.Pairwise (fun x y => x.key ≠ y.key)
  born : ∀ e ∈ es.toList, e.born < clock
  stamps : (es.toList.map (·.born)).Nodup

/-- Block B is a map that is the function f. -/
def MapIn {κ ν : Type} (enc : κ → Value) (encv : ν → Value) (B : Nat) (f : κ → Option ν) (w : World) : Prop :=
  ∃ es clock, w.heap[B]? = some (.map es clock) ∧ Fits enc encv f es clock

def upd {κ ν : Type} [DecidableEq κ] (f : κ → Option ν) (k : κ) (v : ν) : κ → Option ν := fun j => if j = k then some v else f j

section
variable {κ ν : Type} {K : TypeId} {enc : κ → Value} {encv : ν → Value} {f : κ → Option ν} {B : Nat} {w : World}

theorem MapIn.lt (h : MapIn enc encv B f w) : B < w.heap.size := by
  obtain ⟨es, clock, hb, _⟩ := h
  exact lt_at hb

theorem MapIn.kept {X : Nat → Prop} {w' : World} (h : MapIn enc encv B f w) (hk : Kept X w w') (hx : ¬ X B) : MapIn enc encv B f w' := by
  obtain ⟨es, clock, hb, F⟩ := h
  exact ⟨es, clock, hk.at hb hx, F⟩

theorem MapIn.still {w' : World} (h : MapIn enc encv B f w) (hk : Kept (fun _ => False) w w') : MapIn enc encv B f w' := h.kept hk (fun x => x)

theorem MapIn.made {w : World} (hB : w.heap.size = B) : MapIn enc encv B (fun _ => none) (w.alloc (.map #[] 0)) :=
  ⟨#[], 0, alloc_at' _ hB, ⟨by simp, by simp, by simp, by simp, by simp⟩⟩

theorem MapIn.off {c : Array Value} {t : TypeId} {n : Nat} (h : MapIn enc encv B f w) (hn : w.heap[n]? = some (.cells c t (0, 0))) : n ≠ B := by
  obtain ⟨es, clock, hb, _⟩ := h
  intro e; rw [e, hb] at hn; cases hn

/-- A look-up. -/
theorem MapIn.look (h : MapIn enc encv B f w) (O : KeyOk K enc) {T E : TypeId} {z : Value} (hT : Try.prog.underlying T = some (.map K E)) (hz : ∀ w, (zeroValue E).run Try.prog w = .ok z w) (k : κ) (c : Bool) :
    (Instr.lookup T (.map (some B)) (enc k) c).run Try.prog w = .ok (if c = true then .tuple #[((f k).map encv).getD z, .bool (f k).isSome] else ((f k).map encv).getD z) w := by
  obtain ⟨es, clock, hb, F⟩ := h
  rcases O.find w k es.toList (fun e he => by obtain ⟨j, v, h1, _⟩ := F.keys e he; exact ⟨j, h1⟩) with ⟨h1, h2⟩ | ⟨j, e, h1, h2, h3⟩
  · have hn : f k = none := by
      cases hf : f k with
      | none => rfl
      | some v => obtain ⟨e, he, hk⟩ := F.all k v hf; exact absurd hk (h2 e he)
    simp [Instr.lookup, run_underlying hT, MapKept.run_getObj_map hb, O.check, h1, hz, hn, Sem.run_bind, Result.andThen]
  · obtain ⟨j', v, e1, e2, e3⟩ := F.keys e (List.mem_of_getElem? h2)
    rw [h3] at e1
    obtain rfl := O.inj _ _ e1
    simp [Instr.lookup, run_underlying hT, MapKept.run_getObj_map hb, O.check, h1, e2, e3, Sem.run_bind, Result.andThen]

theorem kept_setBlock (w : World) (B : Nat) (o' : Obj) : Kept (fun n => n = B) w (setBlock w B o') :=
  ⟨rfl, rfl, rfl, by simp [setBlock], fun k _ hk => by
    simp [setBlock, Array.getElem?_setIfInBounds]
    intro e; exact absurd e.symm hk⟩

theorem setBlock_at {o : Obj} (hb : w.heap[B]? = some o) (o' : Obj) : (setBlock w B o').heap[B]? = some o' := by
  have := lt_at hb
  simp [setBlock, this]

/-- A store. -/
theorem MapIn.store [DecidableEq κ] (h : MapIn enc encv B f w) (O : KeyOk K enc) {T E : TypeId} (hT : Try.prog.underlying T = some (.map K E)) (k : κ) (v : ν) :
    ∃ w', (Instr.mapUpdate T (.map (some B)) (enc k) (encv v)).run Try.prog w = .ok () w' ∧ MapIn enc encv B (upd f k v) w' ∧ Kept (fun n => n = B) w w' ∧ w'.heap.size = w.heap.size := by
  obtain ⟨es, clock, hb, F⟩ := h
  have other : ∀ e ∈ es.toList, e.key ≠ enc k → ∃ j u, e.key = enc j ∧ upd f k v j = some u ∧ e.val = encv u := by
    intro e he hne
    obtain ⟨j, u, e1, e2, e3⟩ := F.keys e he
    refine ⟨j, u, e1, ?_, e3⟩
    have : j ≠ k := by intro h; exact hne (by rw [e1, h])
    simp [upd, this, e2]
  rcases O.find w k es.toList (fun e he => by obtain ⟨j, v, h1, _⟩ := F.keys e he; exact ⟨j, h1⟩) with ⟨h1, h2⟩ | ⟨j, e, h1, h2, h3⟩
  · refine ⟨setBlock w B (.map (es.push { key := enc k, val := encv v, born := clock }) (clock + 1)), ?_, ⟨_, _, setBlock_at hb _, ?_, ?_, ?_, ?_, ?_⟩, kept_setBlock w B _, by simp [setBlock]⟩
    · simp [Instr.mapUpdate, run_underlying hT, MapKept.run_getObj_map hb, O.check, h1, MapKept.run_setObj_map _ hb, Sem.run_bind, Result.andThen, setBlock]
    · intro e he
      rw [Array.toList_push] at he
      rcases List.mem_append.1 he with he | he
      · exact other e he (h2 e he)
      · obtain rfl := List.mem_singleton.1 he
        exact ⟨k, v, rfl, by simp [upd], rfl⟩
    · intro j u hj
      by_cases hjk : j = k
      · subst hjk
        exact ⟨{ key := enc j, val := encv v, born := clock }, by simp, rfl⟩
      · simp [upd, hjk] at hj
        obtain ⟨e, he, hk⟩ := F.all j u hj
        exact ⟨e, by simp at he ⊢; exact .inl he, hk⟩
    · rw [Array.toList_push, List.pairwise_append]
      exact ⟨F.once, by simp, fun a ha b hb => by obtain rfl := List.mem_singleton.1 hb; exact h2 a ha⟩
    · intro e he
      rw [Array.toList_push] at he
      rcases List.mem_append.1 he with he | he
      · have := F.born e he; omega
      · obtain rfl := List.mem_singleton.1 he
        show clock < clock + 1
        omega
    · rw [Array.toList_push, List.map_append]
      refine List.nodup_append.2 ⟨F.stamps, by simp, fun a ha b hb => ?_⟩
      simp at hb
      obtain ⟨e, he, rfl⟩ := List.mem_map.1 ha
      have := F.born e he
      omega
  · have hj : j < es.size := by simpa using (List.getElem?_eq_some_iff.1 h2).1
    have hej : es[j]? = some e := by simpa using h2
    have hkey : (((es[j]?).map (·.key)).getD (enc k)) = enc k := by rw [hej]; exact h3
    have hge : es[j] = e := by
      have := Array.getElem?_eq_getElem hj
      rw [hej] at this
      exact (Option.some.inj this).symm
    have hlist : (es.modify j fun x => { x with key := enc k, val := encv v }).toList = es.toList.set j { e with key := enc k, val := encv v } := by
      apply List.ext_getElem?
      intro i
      rw [Array.getElem?_toList, Array.getElem?_modify, List.getElem?_set]
      by_cases hi : j = i
      · subst hi
        simp [hj, hge]
      · simp [hi]
    have hmap : ∀ (g : MapEntry → Nat) (hg : g { e with key := enc k, val := encv v } = g e), (es.toList.set j { e with key := enc k, val := encv v }).map g = es.toList.map g := by
      intro g hg
      rw [List.map_set, hg]
      apply List.ext_getElem?
      intro i
      rw [List.getElem?_set]
      by_cases hi : j = i
      · subst hi
        simp [hj, hge]
      · simp [hi]
    have hmapk : (es.toList.set j { e with key := enc k, val := encv v }).map (·.key) = es.toList.map (·.key) := by
      rw [List.map_set]
      apply List.ext_getElem?
      intro i
      rw [List.getElem?_set]
      by_cases hi : j = i
      · subst hi
        simp [hj, hge, h3]
      · simp [hi]
    refine ⟨setBlock w B (.map (es.modify j fun x => { x with key := enc k, val := encv v }) clock), ?_, ⟨_, _, setBlock_at hb _, ?_, ?_, ?_, ?_, ?_⟩, kept_setBlock w B _, by simp [setBlock]⟩
    · simp [Instr.mapUpdate, run_underlying hT, MapKept.run_getObj_map hb, O.check, h1, hkey, O.stays, MapKept.run_setObj_map _ hb, Sem.run_bind, Result.andThen, setBlock]
    · intro x hx
      rw [hlist] at hx
      obtain ⟨i, hi⟩ := List.mem_iff_getElem?.1 hx
      rw [List.getElem?_set] at hi
      by_cases hji : j = i
      · subst hji
        have : x = { e with key := enc k, val := encv v } := by
          rw [if_pos rfl, if_pos (by simpa using hj)] at hi
          exact (Option.some.inj hi).symm
        subst this
        exact ⟨k, v, rfl, by simp [upd], rfl⟩
      · rw [if_neg hji] at hi
        refine other x (List.mem_of_getElem? hi) ?_
        intro hk
        have hp := List.pairwise_iff_getElem.1 F.once
        obtain ⟨li, ei⟩ := List.getElem?_eq_some_iff.1 hi
        obtain ⟨lj, ej⟩ := List.getElem?_eq_some_iff.1 h2
        rcases Nat.lt_or_ge i j with hlt | hge
        · exact hp i j li lj hlt (by rw [ei, ej, hk, h3])
        · exact hp j i lj li (by omega) (by rw [ei, ej, hk, h3])
    · intro i u hi
      rw [hlist]
      by_cases hik : i = k
      · subst hik
        exact ⟨{ e with key := enc i, val := encv v }, List.mem_iff_getElem?.2 ⟨j, by rw [List.getElem?_set, if_pos rfl, if_pos (by simpa using hj)]⟩, rfl⟩
      · simp [upd, hik] at hi
        obtain ⟨x, hx, hk⟩ := F.all i u hi
        obtain ⟨q, hq⟩ := List.mem_iff_getElem?.1 hx
        refine ⟨x, List.mem_iff_getElem?.2 ⟨q, ?_⟩, hk⟩
        rw [List.getElem?_set]
        have : j ≠ q := by
          intro e1; subst e1
          rw [h2] at hq
          have := Option.some.inj hq
          subst this
          rw [h3] at hk
          exact hik (O.inj _ _ hk).symm
        rw [if_neg this]; exact hq
    · rw [hlist]
      have : ((es.toList.set j { e with key := enc k, val := encv v }).map (·.key)).Pairwise (· ≠ ·) := by rw [hmapk]; exact List.pairwise_map.2 F.once
      exact List.pairwise_map.1 this
    · intro x hx
      rw [hlist] at hx
      have : x.born ∈ (es.toList.set j { e with key := enc k, val := encv v }).map (·.born) := List.mem_map.2 ⟨x, hx, rfl⟩
      rw [hmap _ rfl] at this
      obtain ⟨y, hy, e1⟩ := List.mem_map.1 this
      rw [← e1]; exact F.born y hy
    · rw [hlist, hmap _ rfl]; exact F.stamps

/-- A map is copied. -/
theorem MapIn.clone {n : Nat} (h : MapIn enc encv B f w) (hn : w.heap.size = n) {es : Array MapEntry} {clock : Nat} (hb : w.heap[B]? = some (.map es clock)) : MapIn enc encv n f (w.alloc (.map es clock)) := by
  obtain ⟨es', clock', hb', F⟩ := h
  rw [hb] at hb'
  cases hb'
  exact ⟨es, clock, alloc_at' _ hn, F⟩

/-- The loop over a map is under way: left are those still to come. -/
def RangeIn (enc : κ → Value) (encv : ν → Value) (B r : Nat) (f : κ → Option ν) (left : κ → Bool) (w : World) : Prop :=
  ∃ es clock since seen c0, w.heap[B]? = some (.map es clock) ∧ Fits enc encv f es clock ∧ w.heap[r]? = some (.mapIter (some B) since seen c0) ∧
    (∀ x ∈ es.toList, x.born < since) ∧ since ≤ c0 ∧ since ≤ clock ∧ (∀ x ∈ es.toList, ∀ k, x.key = enc k → left k = !seen.contains x.born) ∧ (∀ k, left k = true → (f k).isSome = true)

theorem RangeIn.map {r : Nat} {left : κ → Bool} (h : RangeIn enc encv B r f left w) : MapIn enc encv B f w := by
  obtain ⟨es, clock, _, _, _, hb, F, _⟩ := h
  exact ⟨es, clock, hb, F⟩

theorem RangeIn.kept {X : Nat → Prop} {w' : World} {r : Nat} {left : κ → Bool} (h : RangeIn enc encv B r f left w) (hk : Kept X w w') (hx : ¬ X B) (hr : ¬ X r) : RangeIn enc encv B r f left w' := by
  obtain ⟨es, clock, since, seen, c0, hb, F, hi, rest⟩ := h
  exact ⟨es, clock, since, seen, c0, hk.at hb hx, F, hk.at hi hr, rest⟩

theorem RangeIn.start {T E : TypeId} {r : Nat} (h : MapIn enc encv B f w) (O : KeyOk K enc) (hT : Try.prog.underlying T = some (.map K E)) (hr : w.heap.size = r) :
    ∃ w', (Instr.range T (.map (some B))).run Try.prog w = .ok (.pointer (some ⟨r, 0, none⟩)) w' ∧ RangeIn enc encv B r f (fun k => (f k).isSome) w' ∧ Kept (fun _ => False) w w' ∧ w'.heap.size = r + 1 := by
  subst hr
  obtain ⟨es, clock, hb, F⟩ := h
  refine ⟨_, run_range_map w T K E B es clock hT hb, ⟨es, clock, clock, #[], clock, alloc_off hb, F, alloc_at w _, F.born, Nat.le_refl _, Nat.le_refl _, ?_, fun k h => h⟩, (Kept.refl _ _).alloc _, by simp⟩
  intro x hx k hk
  obtain ⟨j, v, e1, e2, _⟩ := F.keys x hx
  rw [hk] at e1
  obtain rfl := O.inj _ _ e1
  simp [e2]

theorem RangeIn.next {r : Nat} {left : κ → Bool} [DecidableEq κ] (h : RangeIn enc encv B r f left w) (O : KeyOk K enc) (ty : TypeId) :
    (w.rangeLeft B r = 0 ∧ (∀ k, left k = false) ∧ (Instr.next (.pointer (some ⟨r, 0, none⟩)) false ty).run Try.prog w = .ok (.tuple #[.bool false]) w) ∨
    ∃ k v w', left k = true ∧ f k = some v ∧ (Instr.next (.pointer (some ⟨r, 0, none⟩)) false ty).run Try.prog w = .ok (.tuple #[.bool true, enc k, encv v]) w' ∧
      (Instr.entry (.pointer (some ⟨r, 0, none⟩))).run Try.prog w' = .ok (.tuple #[enc k, encv v]) w' ∧ RangeIn enc encv B r f (fun j => left j && !decide (j = k)) w' ∧ w'.rangeLeft B r < w.rangeLeft B r ∧
      Kept (fun n => n = r) w w' ∧ w'.heap.size = w.heap.size := by
  obtain ⟨es, clock, since, seen, c0, hb, F, hr, hold, hsc, hsk, hl, hlf⟩ := h
  have hne : B ≠ r := by intro e; rw [e, hr] at hb; cases hb
  have hleft : w.rangeLeft B r = (leftOf es seen).size := by simp [World.rangeLeft, hb, hr]
  rcases run_next_at (P := Try.prog) w ty r B since c0 seen es clock hr hb hold hsc with ⟨h0, hrun⟩ | ⟨e, he, w1, hal, hrun⟩
  · refine .inl ⟨by rw [hleft, h0], fun k => ?_, hrun⟩
    cases hk : left k with
    | false => rfl
    | true =>
      have := hlf k hk
      cases hf : f k with
      | none => rw [hf] at this; cases this
      | some v =>
        obtain ⟨x, hx, hxk⟩ := F.all k v hf
        rw [hl x hx k hxk, all_seen es seen h0 x hx] at hk
        cases hk
  · obtain ⟨hem, hes⟩ := mem_left he
    obtain ⟨k, v, e1, e2, e3⟩ := F.keys e hem
    rw [e1, e3] at hrun
    have hr1 : w1.heap[r]? = some (.mapIter (some B) since seen c0) := by rcases hal with rfl | rfl <;> exact hr
    have hb1 : w1.heap[B]? = some (.map es clock) := by rcases hal with rfl | rfl <;> exact hb
    have hset := setBlock_at hr1 (.mapIter (some B) since (seen.push e.born) clock)
    have hk1 : Kept (fun n => n = r) w w1 := by rcases hal with rfl | rfl <;> exact ⟨rfl, rfl, rfl, Nat.le_refl _, fun _ _ _ => rfl⟩
    have hk2 := kept_setBlock w1 r (.mapIter (some B) since (seen.push e.born) clock)
    have hb2 := hk2.at hb1 hne
    refine .inr ⟨k, v, _, by rw [hl e hem k e1, hes]; rfl, e2, hrun, ?_, ⟨es, clock, since, seen.push e.born, clock, hb2, F, hset, hold, hsk, hsk, ?_, ?_⟩, ?_, hk1.trans hk2 (fun _ _ e => e), ?_⟩
    · have := run_entry_at (P := Try.prog) _ r B since seen es clock e hset hb2 hem F.stamps
      rw [e1, e3] at this
      exact this
    · intro x hx j hj
      show (left j && !decide (j = k)) = _
      rw [hl x hx j hj, contains_push]
      have hsame : (x.born == e.born) = decide (j = k) := by
        by_cases hjk : j = k
        · subst hjk
          have : x = e := entry_eq_of_key F.once hx hem (by rw [hj, e1])
          subst this
          simp
        · have hne2 : x.born ≠ e.born := by
            intro hbb
            have := born_inj F.stamps hx hem hbb
            subst this
            rw [hj] at e1
            exact hjk (O.inj _ _ e1)
          simp [hjk, hne2]
      rw [hsame]
      cases seen.contains x.born <;> cases decide (j = k) <;> rfl
    · intro j hj
      simp at hj
      exact hlf j hj.1
    · rw [hleft]
      have : (setBlock w1 r (.mapIter (some B) since (seen.push e.born) clock)).rangeLeft B r = (leftOf es (seen.push e.born)).size := by simp [World.rangeLeft, hb2, hset]
      rw [this]
      exact left_shrinks es seen e he
    · rcases hal with rfl | rfl <;> simp [setBlock]

theorem MapIn.count [DecidableEq κ] (h : MapIn enc encv B f w) (O : KeyOk K enc) {ks : List κ} (hn : ks.Nodup) (hks : ∀ k, k ∈ ks ↔ (f k).isSome = true) {T E ty : TypeId} (hT : Try.prog.underlying T = some (.map K E)) :
    (Builtin.len_ #[T] ty #[.map (some B)]).run Try.prog w = .ok (.int .i64 ks.length) w := by
  obtain ⟨es, clock, hb, F⟩ := h
  have hp : (es.toList.map (·.key)).Perm (ks.map enc) := by
    have n1 : (es.toList.map (·.key)).Nodup := List.pairwise_map.2 F.once
    have n2 : (ks.map enc).Nodup := List.pairwise_map.2 (hn.imp (fun hne h => hne (O.inj _ _ h)))
    refine (List.perm_ext_iff_of_nodup n1 n2).2 (fun x => ?_)
    constructor
    · intro hx
      obtain ⟨e, he, rfl⟩ := List.mem_map.1 hx
      obtain ⟨k, v, e1, e2, _⟩ := F.keys e he
      exact List.mem_map.2 ⟨k, (hks k).2 (by simp [e2]), e1.symm⟩
    · intro hx
      obtain ⟨k, hk, rfl⟩ := List.mem_map.1 hx
      obtain ⟨v, hv⟩ := Option.isSome_iff_exists.1 ((hks k).1 hk)
      obtain ⟨e, he, hke⟩ := F.all k v hv
      exact List.mem_map.2 ⟨e, he, hke⟩
  have hl := hp.length_eq
  simp at hl
  simp [Builtin.len_, run_underlying hT, MapKept.run_getObj_map hb, Sem.run_bind, Result.andThen, hl, goInt]

end
end Go.Proofs.Ytkpcillgoeidaaa
