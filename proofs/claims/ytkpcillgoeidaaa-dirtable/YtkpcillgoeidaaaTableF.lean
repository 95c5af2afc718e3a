
/- A directory as a table: what an entry that is written does to its list, and to what its names say; plain facts; no conditions. -/
import Derived.Test.YtkpcillgoeidaaaDirG
import Derived.Test.YtkpcillgoeidaaaMapS
namespace Go.Proofs.Ytkpcillgoeidaaa
open Go.RowKit
set_option maxRecDepth 100000

theorem slc_over {l e : Bs} {k : Nat} (he : e.length = 16) (hk : k * 16 ≤ l.length) (i : Nat) : slc (l.take (k * 16) ++ e ++ l.drop (k * 16 + 16)) i = if i = k then e else slc l i := by
  have hA : (l.take (k * 16)).length = k * 16 := by rw [List.length_take]; omega
  unfold slc
  rw [List.append_assoc]
  rcases Nat.lt_trichotomy i k with h | h | h
  · rw [if_neg (by omega), List.drop_append, List.take_append]
    rw [show 16 - ((l.take (k * 16)).drop (i * 16)).length = 0 by rw [List.length_drop, hA]; omega, List.take_zero, List.append_nil, List.drop_take, List.take_take, Nat.min_eq_left (by omega)]
  · subst h
    rw [if_pos rfl, List.drop_append, hA, Nat.sub_self, List.drop_zero, List.drop_eq_nil_of_le (by omega), List.nil_append, List.take_append, he, Nat.sub_self, List.take_zero, List.append_nil]
    exact List.take_of_length_le (by omega)
  · rw [if_neg (by omega), List.drop_append, hA, List.drop_eq_nil_of_le (by omega), List.nil_append, List.drop_append, he, List.drop_eq_nil_of_le (by omega), List.nil_append, List.drop_drop]
    congr 2
    omega

theorem ents_over {l e : Bs} {k : Nat} (he : e.length = 16) (hk : k * 16 ≤ l.length) (h8 : k < 8) :
    entsF (l.take (k * 16) ++ e ++ l.drop (k * 16 + 16)) = if k < nEnt l then (entsF l).set k (Nm.nameF e, Nm.ptrF e) else entsF l ++ [(Nm.nameF e, Nm.ptrF e)] := by
  have hn : nEnt (l.take (k * 16) ++ e ++ l.drop (k * 16 + 16)) = if k < nEnt l then nEnt l else nEnt l + 1 := by
    unfold nEnt
    simp only [List.length_append, List.length_take, List.length_drop, he]
    split <;> omega
  have hkn : k ≤ nEnt l := by unfold nEnt; omega
  apply List.ext_getElem?
  intro i
  by_cases hi : i < nEnt (l.take (k * 16) ++ e ++ l.drop (k * 16 + 16))
  · rw [ents_at hi]
    unfold ent
    rw [slc_over he hk]
    by_cases hik : i = k
    · subst hik
      rw [if_pos rfl]
      by_cases hlt : i < nEnt l
      · rw [if_pos hlt, List.getElem?_set, if_pos rfl, if_pos (by rw [ents_len]; exact hlt)]
      · rw [if_neg hlt, List.getElem?_append_right (by rw [ents_len]; omega), ents_len, show i - nEnt l = 0 by omega]
        rfl
    · rw [if_neg hik]
      by_cases hlt : k < nEnt l
      · rw [hn, if_pos hlt] at hi
        rw [if_pos hlt, List.getElem?_set, if_neg (fun e => hik e.symm), ents_at hi]
        rfl
      · rw [hn, if_neg hlt] at hi
        rw [if_neg hlt, List.getElem?_append_left (by rw [ents_len]; omega), ents_at (by omega)]
        rfl
  · rw [List.getElem?_eq_none (by rw [ents_len]; omega)]
    rw [hn] at hi
    by_cases hlt : k < nEnt l
    · rw [if_pos hlt] at hi
      rw [if_pos hlt, List.getElem?_eq_none (by rw [List.length_set, ents_len]; omega)]
    · rw [if_neg hlt] at hi
      rw [if_neg hlt, List.getElem?_eq_none (by rw [List.length_append, ents_len]; simp; omega)]

theorem take_all : ∀ (s : Bs), (0 : UInt8) ∉ s → s.takeWhile (· != 0) = s
  | [], _ => rfl
  | x :: s, h => by
    have hx : x ≠ 0 := fun e => h (by simp [e])
    have := take_all s (fun hm => h (List.mem_cons_of_mem _ hm))
    simp [hx, this]
theorem pack_ent {s : Bs} {n : Int} (hs : s.length ≤ 14) (h0 : (0 : UInt8) ∉ s) (h1 : 0 ≤ n) (h2 : n < 16) : Nm.nameF (Nm.packF s n) = s ∧ Nm.ptrF (Nm.packF s n) = n := by
  constructor
  · rw [Nm.name_pack, List.take_of_length_le hs]
    exact take_all s h0
  · unfold Nm.ptrF
    rw [if_pos (Nm.pack_len s n), Nm.num_pack]
    omega

theorem isDir_put {f : StF} {g : VwF} {d : Int} (h : isDirF f g d = true) (off : Int) (b : ByteArray) : isDirF f (writeT f (findT g d) d off b) d = true := by
  unfold isDirF at h ⊢
  rw [write_n0, find_find]
  exact h

/-- An entry is written into a directory. -/
theorem dir_put {f : StF} {g : VwF} {d : Int} (h : isDirF f g d = true) {k : Nat} (h8 : k < 8) (hk : k ≤ (dirE f g d).length) {s : Bs} {n : Int} (hs : s.length ≤ 14) (h0 : (0 : UInt8) ∉ s) (h1 : 0 ≤ n) (h2 : n < 16) :
    dirE f (writeT f (findT g d) d ((k * 16 : Nat) : Int) (bs (Nm.packF s n))) d = if k < (dirE f g d).length then (dirE f g d).set k (s, n) else dirE f g d ++ [(s, n)] := by
  have hd : dirE f g d = entsF (bl (findV f g d).s) := by unfold dirE; rw [if_pos h]
  have hi : isI f g d = true := by
    have : (findV f g d).n0 = 1 := by simpa [isDirF] using h
    unfold isI
    rw [this]; rfl
  rw [hd, ents_len] at hk ⊢
  have hk16 : k * 16 ≤ (bl (findV f g d).s).length := by unfold nEnt at hk; omega
  have hok : wrOk f (findT g d) d ((k * 16 : Nat) : Int) = true := by
    rw [bl_len] at hk16
    unfold wrOk isI
    rw [find_find]
    unfold isI at hi
    rw [hi, decide_eq_true (by omega), decide_eq_true (by omega), decide_eq_true (by omega)]
    rfl
  have hc : cutD (bs (Nm.packF s n)) (k * 16) = bs (Nm.packF s n) := by
    unfold cutD
    rw [bl_bs, List.take_of_length_le (by rw [Nm.pack_len]; omega)]
  have hv : dirE f (writeT f (findT g d) d ((k * 16 : Nat) : Int) (bs (Nm.packF s n))) d = entsF ((bl (findV f g d).s).take (k * 16) ++ Nm.packF s n ++ (bl (findV f g d).s).drop (k * 16 + 16)) := by
    unfold dirE
    rw [if_pos (isDir_put h _ _), write_find _ hok, if_pos rfl, find_find, Int.toNat_natCast, hc]
    show entsF (bl (overF (findV f g d).s (k * 16) (bs (Nm.packF s n)))) = _
    unfold overF
    rw [bl_bs, bl_bs, bs_size, Nm.pack_len]
  obtain ⟨p1, p2⟩ := pack_ent hs h0 h1 h2
  rw [hv, ents_over (Nm.pack_len s n) hk16 h8, p1, p2]

theorem names_app (a b : List E2) : namesE (a ++ b) = namesE a ++ namesE b := by unfold namesE; rw [List.filter_append, List.map_append]
theorem names_one (e : E2) : namesE [e] = if hereB e.2 = true then [e.1] else [] := by
  unfold namesE
  by_cases h : hereB e.2 = true <;> simp [h]
theorem parted {es : List E2} {k : Nat} {e0 : E2} (h : es[k]? = some e0) (e : E2) : ∃ a b, es = a ++ [e0] ++ b ∧ es.set k e = a ++ [e] ++ b := by
  obtain ⟨hk, rfl⟩ := List.getElem?_eq_some_iff.1 h
  refine ⟨es.take k, es.drop (k + 1), ?_, ?_⟩
  · rw [List.append_assoc]
    show es = es.take k ++ (es[k] :: es.drop (k + 1))
    rw [← List.drop_eq_getElem_cons hk, List.take_append_drop]
  · rw [List.set_eq_take_append_cons_drop, if_pos hk, List.append_assoc]
    rfl
theorem mem_names {es : List E2} {s : Bs} : s ∈ namesE es ↔ ∃ n, (s, n) ∈ es ∧ hereB n = true := by
  unfold namesE
  simp only [List.mem_map, List.mem_filter]
  constructor
  · rintro ⟨⟨x, n⟩, ⟨h1, h2⟩, rfl⟩
    exact ⟨n, h1, h2⟩
  · rintro ⟨n, h1, h2⟩
    exact ⟨(s, n), ⟨h1, h2⟩, rfl⟩

/-- The list of entries says the function o; names stand once; all are right. -/
structure TabE (es : List E2) (o : Bs → Option Int) : Prop where
  le : es.length ≤ 8
  once : (namesE es).Nodup
  says : ∀ s n, o s = some n ↔ ((s, n) ∈ es ∧ hereB n = true)
  right : ∀ s, (o s).isSome = true → Nm.rightF s = true

section
variable {es : List E2} {o : Bs → Option Int}
theorem TabE.keys (h : TabE es o) (s : Bs) : s ∈ namesE es ↔ (o s).isSome = true := by
  rw [mem_names, Option.isSome_iff_exists]
  exact ⟨fun ⟨n, hn⟩ => ⟨n, (h.says s n).2 hn⟩, fun ⟨n, hn⟩ => ⟨n, (h.says s n).1 hn⟩⟩
theorem TabE.found (h : TabE es o) {s : Bs} (hr : Nm.rightF s = true) : foundE es s = o s := by
  cases hf : foundE es s with
  | some n =>
    obtain ⟨-, -, ⟨e, he, h1, h2, h3⟩, -⟩ := place_yes hf
    have hm := List.mem_of_getElem? he
    exact ((h.says s n).2 ⟨by rw [← h1, ← h2]; exact hm, h3⟩).symm
  | none =>
    cases ho : o s with
    | none => rfl
    | some n =>
      obtain ⟨hm, hh⟩ := (h.says s n).1 ho
      exfalso
      have hlt : es.findIdx (hasP s) < es.length := List.findIdx_lt_length_of_exists ⟨(s, n), hm, by simp [hasP, hh]⟩
      unfold foundE at hf
      rw [if_pos ⟨hr, hlt⟩] at hf
      cases hf
theorem TabE.room (h : TabE es o) : gapA es < 8 ↔ (namesE es).length < 8 := by
  have hle := h.le
  have hn := names_len es
  have hg : gapA es ≤ es.length := List.findIdx_le_length
  constructor
  · intro hlt
    by_cases hx : gapA es < es.length
    · have hp := List.findIdx_getElem (w := hx)
      have hm : es[gapA es]? = some es[gapA es] := List.getElem?_eq_getElem hx
      obtain ⟨a, b, he, -⟩ := parted hm ([], 0)
      have hz : hereB (es[gapA es]).2 = false := by
        have : gapP es[gapA es] = true := hp
        simpa [gapP] using this
      have h1 : (namesE es).length = (namesE a).length + (namesE b).length := by
        rw [he, names_app, names_app, names_one]
        rw [hz]
        simp
      have h2 : es.length = a.length + 1 + b.length := by
        have := congrArg List.length he
        simp at this
        omega
      have := names_len a
      have := names_len b
      omega
    · omega
  · intro hlt
    apply Nat.lt_of_not_le
    intro h8
    have hall : ∀ e ∈ es, hereB e.2 = true := by
      intro e he
      obtain ⟨i, hi, rfl⟩ := List.mem_iff_getElem.1 he
      have hx : i < es.findIdx gapP := by show i < gapA es; omega
      have := List.not_of_lt_findIdx hx
      simpa [gapP] using this
    have hfull : namesE es = es.map (·.1) := by
      unfold namesE
      rw [List.filter_eq_self.2 hall]
    rw [hfull, List.length_map] at hlt
    omega

theorem TabE.put (h : TabE es o) {s : Bs} {n : Int} (hr : Nm.rightF s = true) (hn : hereB n = true) (ho : o s = none) {a b : List E2} {m : List E2} (hm : ∀ e ∈ m, hereB e.2 = false) (he : es = a ++ m ++ b) (hl : (a ++ [(s, n)] ++ b).length ≤ 8) :
    TabE (a ++ [(s, n)] ++ b) (upd o s n) := by
  have hs : s ∉ namesE es := by rw [h.keys, ho]; simp
  have hm0 : namesE m = [] := by
    unfold namesE
    rw [List.filter_eq_nil_iff.2 (fun e he => by rw [hm e he]; simp)]
    rfl
  have hne : namesE es = namesE a ++ namesE b := by rw [he, names_app, names_app, hm0, List.append_nil]
  refine ⟨hl, ?_, ?_, ?_⟩
  · rw [names_app, names_app, names_one, if_pos hn]
    have h1 := h.once
    rw [hne] at h1 hs
    obtain ⟨q1, q2, q3⟩ := List.nodup_append.1 h1
    simp only [List.mem_append, not_or] at hs
    rw [List.append_assoc, List.nodup_append]
    refine ⟨q1, List.nodup_cons.2 ⟨hs.2, q2⟩, fun x hx y hy => ?_⟩
    rcases List.mem_cons.1 hy with rfl | hy
    · intro e; subst e; exact hs.1 hx
    · exact q3 x hx y hy
  · intro x k
    unfold upd
    by_cases hx : x = s
    · subst hx
      rw [if_pos rfl]
      constructor
      · intro e
        obtain rfl := Option.some.inj e
        exact ⟨by simp, hn⟩
      · rintro ⟨h1, h2⟩
        simp only [List.mem_append, List.mem_singleton] at h1
        rcases h1 with (h1 | h1) | h1
        · exact absurd (mem_names.2 ⟨k, by rw [he]; simp [h1], h2⟩) hs
        · injection h1 with _ h1; rw [h1]
        · exact absurd (mem_names.2 ⟨k, by rw [he]; simp [h1], h2⟩) hs
    · rw [if_neg hx, h.says x k, he]
      simp only [List.mem_append, List.mem_singleton]
      constructor
      · rintro ⟨(h1 | h1) | h1, h2⟩
        · exact ⟨.inl (.inl h1), h2⟩
        · have := hm _ h1; rw [h2] at this; cases this
        · exact ⟨.inr h1, h2⟩
      · rintro ⟨(h1 | h1) | h1, h2⟩
        · exact ⟨.inl (.inl h1), h2⟩
        · injection h1 with h1 _; exact absurd h1 hx
        · exact ⟨.inr h1, h2⟩
  · intro x hx
    unfold upd at hx
    by_cases e : x = s
    · subst e; exact hr
    · rw [if_neg e] at hx; exact h.right x hx

theorem TabE.cut (h : TabE es o) {s : Bs} {n : Int} (hn : hereB n = true) {a b : List E2} (he : es = a ++ [(s, n)] ++ b) : TabE (a ++ [([], 0)] ++ b) (del o s) := by
  have hne : namesE es = namesE a ++ ([s] ++ namesE b) := by rw [he, names_app, names_app, names_one, if_pos hn, List.append_assoc]
  have h1 := h.once
  rw [hne] at h1
  obtain ⟨q1, q2, q3⟩ := List.nodup_append.1 h1
  obtain ⟨q4, q5⟩ := List.nodup_cons.1 q2
  have hsa : s ∉ namesE a := fun hx => q3 s hx s (by simp) rfl
  have h0 : hereB 0 = false := rfl
  refine ⟨?_, ?_, ?_, ?_⟩
  · have := h.le; rw [he] at this; simpa using this
  · rw [names_app, names_app, names_one, if_neg (by rw [h0]; simp), List.append_nil]
    exact List.nodup_append.2 ⟨q1, q5, fun x hx y hy => q3 x hx y (List.mem_cons_of_mem _ hy)⟩
  · intro x k
    unfold del
    by_cases hx : x = s
    · subst hx
      rw [if_pos rfl]
      constructor
      · intro e; cases e
      · rintro ⟨h1, h2⟩
        simp only [List.mem_append, List.mem_singleton] at h1
        rcases h1 with (h1 | h1) | h1
        · exact absurd (mem_names.2 ⟨k, h1, h2⟩) hsa
        · injection h1 with _ h1; rw [h1, h0] at h2; cases h2
        · exact absurd (mem_names.2 ⟨k, h1, h2⟩) q4
    · rw [if_neg hx, h.says x k, he]
      simp only [List.mem_append, List.mem_singleton]
      constructor
      · rintro ⟨(h1 | h1) | h1, h2⟩
        · exact ⟨.inl (.inl h1), h2⟩
        · injection h1 with h1 _; exact absurd h1 hx
        · exact ⟨.inr h1, h2⟩
      · rintro ⟨(h1 | h1) | h1, h2⟩
        · exact ⟨.inl (.inl h1), h2⟩
        · injection h1 with _ h1; rw [h1, h0] at h2; cases h2
        · exact ⟨.inr h1, h2⟩
  · intro x hx
    unfold del at hx
    by_cases e : x = s
    · rw [if_pos e] at hx; simp at hx
    · rw [if_neg e] at hx; exact h.right x hx
end
end Go.Proofs.Ytkpcillgoeidaaa
