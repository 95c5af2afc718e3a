
/- A directory as a table, beside the map that a statement keeps of it: each call's end; no conditions. -/
import Derived.Test.YtkpcillgoeidaaaTableF
namespace Go.Proofs.Ytkpcillgoeidaaa
open Go.RowKit
set_option maxRecDepth 100000

theorem isdir_find {f : StF} {g : VwF} (d : Int) : isDirF f (findT g d) d = isDirF f g d := by unfold isDirF; rw [find_find]
structure TabF (g : VwF) (o : Bs → Option Int) : Prop where
  dir : isDirF f0 g 1 = true
  e : TabE (dirE f0 g 1) o
  size : ∀ j, (findV f0 g j).s.size ≤ 128
  nodot : ∀ s, (o s).isSome = true → s ≠ [46] ∧ s ≠ [46, 46]

section
variable {g : VwF} {o : Bs → Option Int}
theorem TabF.find (h : TabF g o) : TabF (findT g 1) o ∧ dirE f0 (findT g 1) 1 = dirE f0 g 1 := by
  have he : dirE f0 (findT g 1) 1 = dirE f0 g 1 := dirE_eq (find_find _ _ _ _)
  exact ⟨⟨by rw [isdir_find]; exact h.dir, by rw [he]; exact h.e, fun j => by rw [find_find]; exact h.size j, h.nodot⟩, he⟩
theorem TabF.ok (h : TabF g o) {s : Bs} {n : Int} (hr : Nm.rightF s = true) (hn : hereB n = true) : addOk f0 g 1 s n = ((o s).isNone && decide ((namesE (dirE f0 g 1)).length < 8)) := by
  unfold addOk
  rw [h.dir, hr, hn, h.e.found hr]
  congr 1
  exact decide_eq_decide.2 h.e.room
theorem right_parts {s : Bs} (h : Nm.rightF s = true) : s.length ≤ 14 ∧ (0 : UInt8) ∉ s := ⟨(Nm.right_iff.1 h).2.1, (Nm.right_iff.1 h).2.2.2⟩
theorem TabF.add (h : TabF g o) {s : Bs} {n : Int} (hr : Nm.rightF s = true) (hn : hereB n = true) (hd : s ≠ [46] ∧ s ≠ [46, 46]) (hok : addOk f0 g 1 s n = true) : TabF (addT f0 g 1 s n) (upd o s n) := by
  have hok2 := h.ok hr hn
  rw [hok] at hok2
  simp only [Bool.true_eq, Bool.and_eq_true, decide_eq_true_eq, Option.isNone_iff_eq_none] at hok2
  obtain ⟨ho, hlen⟩ := hok2
  have h8 := h.e.room.2 hlen
  obtain ⟨s1, s2⟩ := right_parts hr
  obtain ⟨n1, n2⟩ := here_iff.1 hn
  have hT : addT f0 g 1 s n = writeT f0 (findT g 1) 1 ((gapA (dirE f0 g 1) * 16 : Nat) : Int) (bs (Nm.packF s n)) := by unfold addT; rw [if_pos hok]
  have hgl : gapA (dirE f0 g 1) ≤ (dirE f0 g 1).length := List.findIdx_le_length
  have hdp := dir_put h.dir h8 hgl s1 s2 (by omega : 0 ≤ n) n2
  rw [hT]
  refine ⟨isDir_put h.dir _ _, ?_, write_size (by omega) _ _ _ (fun j => by rw [find_find]; exact h.size j), ?_⟩
  · rw [hdp]
    by_cases hx : gapA (dirE f0 g 1) < (dirE f0 g 1).length
    · rw [if_pos hx]
      have hp := List.findIdx_getElem (w := hx)
      obtain ⟨a, b, e1, e2⟩ := parted (List.getElem?_eq_getElem hx) (s, n)
      rw [e2]
      refine h.e.put hr hn ho (fun e he => ?_) e1 (by rw [← e2, List.length_set]; exact h.e.le)
      obtain rfl := List.mem_singleton.1 he
      have : gapP (dirE f0 g 1)[gapA (dirE f0 g 1)] = true := hp
      simpa [gapP] using this
    · rw [if_neg hx]
      have := h.e.put hr hn ho (a := dirE f0 g 1) (b := []) (m := []) (fun e he => by cases he) (by simp) (by simp; omega)
      simpa using this
  · intro x hx
    unfold upd at hx
    by_cases e : x = s
    · subst e; exact hd
    · rw [if_neg e] at hx; exact h.nodot x hx
theorem TabF.rm (h : TabF g o) {s : Bs} (hr : Nm.rightF s = true) : TabF (rmT f0 g 1 s) (del o s) := by
  have hf := h.e.found hr
  cases ho : o s with
  | none =>
    rw [ho] at hf
    have hT : rmT f0 g 1 s = findT g 1 := by unfold rmT; rw [hf, if_neg (by simp)]
    have hdel : del o s = o := by
      funext x
      unfold del
      by_cases e : x = s
      · rw [if_pos e, e, ho]
      · rw [if_neg e]
    rw [hT, hdel]
    exact h.find.1
  | some n =>
    rw [ho] at hf
    obtain ⟨-, hlt, ⟨e, he, e1, e2, e3⟩, -⟩ := place_yes hf
    have hT : rmT f0 g 1 s = writeT f0 (findT g 1) 1 (((dirE f0 g 1).findIdx (hasP s) * 16 : Nat) : Int) (bs (Nm.packF [] 0)) := by unfold rmT; rw [hf]; rfl
    have hdp := dir_put h.dir (by have := h.e.le; omega) (Nat.le_of_lt hlt) (s := []) (n := 0) (by simp) (by simp) (by omega) (by omega)
    rw [hT]
    refine ⟨isDir_put h.dir _ _, ?_, write_size (by omega) _ _ _ (fun j => by rw [find_find]; exact h.size j), ?_⟩
    · rw [hdp, if_pos hlt]
      obtain ⟨a, b, p1, p2⟩ := parted he ([], 0)
      rw [p2]
      refine h.e.cut e3 (a := a) (b := b) ?_
      rw [p1, show e = (s, n) from by rw [← e1, ← e2]]
    · intro x hx
      unfold del at hx
      by_cases e : x = s
      · rw [if_pos e] at hx; simp at hx
      · rw [if_neg e] at hx; exact h.nodot x hx
theorem TabF.bare (h : TabF g o) : bareE (dirE f0 g 1) = decide ((namesE (dirE f0 g 1)).length = 0) := by
  rw [bare_is]
  have hk := h.e.keys
  cases hn : namesE (dirE f0 g 1) with
  | nil => rfl
  | cons x l =>
    have hx : (o x).isSome = true := (hk x).1 (by rw [hn]; simp)
    obtain ⟨d1, d2⟩ := h.nodot x hx
    rw [decide_eq_false (by simp)]
    simp [dotP, d1, d2]
end

theorem tab_new : TabF r1 (fun _ => none) where
  dir := by decide +kernel
  e := by
    have hn : dirE f0 r1 1 = [] := by decide +kernel
    rw [hn]
    exact ⟨by simp, by simp [namesE], fun s n => by simp, fun s hs => by simp at hs⟩
  size := fun j => by
    have h1 : Small f0 g0 := ⟨fun _ => zero_small, fun _ => zero_small⟩
    have a1 : allocA f0 g0 = 1 := by decide +kernel
    show (findV f0 (allocT f0 g0 1) j).s.size ≤ 128
    rw [alloc_find (by decide) (by omega), a1]
    split
    · show ByteArray.empty.size ≤ 128; decide
    · have h : vgetF f0 g0 (10, j) = zeroV := by unfold vgetF; split <;> rfl
      unfold findV
      rw [h]
      split
      · split <;> (show ByteArray.empty.size ≤ 128; decide)
      · show ByteArray.empty.size ≤ 128; decide
  nodot := fun s hs => by simp at hs

theorem MapIn.offK {κ ν : Type} {enc : κ → Value} {encv : ν → Value} {f : κ → Option ν} {B : Nat} {w : World} (h : MapIn enc encv B f w) {k o : Nat} {v : Value} (hc : w.cell? ⟨k, o, none⟩ = some v) : k ≠ B := by
  obtain ⟨es, clock, hb, _⟩ := h
  intro e
  subst e
  simp [World.cell?, hb] at hc
theorem srcK {x : Value} {xs : List Bs} {w w' : World} {X : Nat → Prop} (h : Nm.SrcS x xs w) (hk : Kept X w w') (hX : ∀ k o v, w.cell? ⟨k, o, none⟩ = some v → ¬ X k) : Nm.SrcS x xs w' := by
  rcases h with ⟨b, o, c, rfl, hb, hc⟩ | h
  · exact .inl ⟨b, o, c, rfl, Nat.lt_of_lt_of_le hb hk.size, fun j u hu => hk.cell (hc j u hu) (hX b _ _ (hc j u hu))⟩
  · exact .inr h

structure TabIn (w0 : World) (T p B q N O : Nat) (g : VwF) (o : Bs → Option Int) (w : World) : Prop where
  side : SideIn w0 T p B q N g w
  own : MapIn sv iv O o w
  nN : N ≠ O
  nB : B ≠ O
  lo : w0.heap.size ≤ O

section
variable {w0 : World} {T p B q N O : Nat} {g g' : VwF} {o o' : Bs → Option Int} {w w' : World}
theorem TabIn.still (h : TabIn w0 T p B q N O g o w) (hk : Kept (fun _ => False) w w') : TabIn w0 T p B q N O g o w' := { h with side := h.side.still hk, own := h.own.still hk }
theorem TabIn.view (h : TabIn w0 T p B q N O g o w) (hs : SideIn w0 T p B q N g' w') (hk : Kept (fun n => n = N) w w') : TabIn w0 T p B q N O g' o w' := { h with side := hs, own := h.own.kept hk (fun e => h.nN e.symm) }
theorem TabIn.put (h : TabIn w0 T p B q N O g o w) (hm : MapIn sv iv O o' w') (hk : Kept (fun n => n = O) w w') : TabIn w0 T p B q N O g o' w' :=
  { h with
    own := hm
    side := { h.side with
      v := h.side.v.kept hk (fun e => h.own.off h.side.v.cell e) h.nN
      s := h.side.s.kept hk (fun e => h.own.off h.side.s.cell e) h.nB
      t := hk.cell h.side.t (fun e => by
        obtain ⟨es, clock, hb, _⟩ := h.own
        have ht := h.side.t
        simp only at e
        subst e
        simp [World.cell?, hb] at ht)
      kept := h.side.kept.trans hk (fun k h1 h2 => by have := h.lo; omega) } }
theorem TabIn.look (h : TabIn w0 T p B q N O g o w) (s : ByteArray) : (Instr.lookup 50 (.map (some O)) (.string s) true).run Try.prog w = .ok (.tuple #[.int .i64 ((o (bl s)).getD 0), .bool (o (bl s)).isSome]) w := by
  have := h.own.look keyok_sv Try.underlying50 (z := .int .i64 0) (fun w => by kernel_rfl) (bl s) true
  unfold sv at this
  rw [bs_bl] at this
  rw [this]
  cases o (bl s) <;> rfl
theorem TabIn.len (h : TabIn w0 T p B q N O g o w) (hf : TabF g o) (ty : TypeId) : (Builtin.len_ #[50] ty #[.map (some O)]).run Try.prog w = .ok (.int .i64 (namesE (dirE f0 g 1)).length) w :=
  h.own.count keyok_sv hf.e.once hf.e.keys Try.underlying50
theorem TabIn.store (h : TabIn w0 T p B q N O g o w) (s : ByteArray) (n : Int) : ∃ w', (Instr.mapUpdate 50 (.map (some O)) (.string s) (.int .i64 n)).run Try.prog w = .ok () w' ∧ TabIn w0 T p B q N O g (upd o (bl s) n) w' := by
  obtain ⟨w', h1, h2, h3, -⟩ := h.own.store keyok_sv Try.underlying50 (bl s) n
  unfold sv iv at h1
  rw [bs_bl] at h1
  exact ⟨w', h1, h.put h2 h3⟩
theorem TabIn.drop (h : TabIn w0 T p B q N O g o w) (s : ByteArray) (ty : TypeId) : ∃ w', (Builtin.delete_ #[50, 9] ty #[.map (some O), .string s]).run Try.prog w = .ok (.tuple #[]) w' ∧ TabIn w0 T p B q N O g (del o (bl s)) w' := by
  obtain ⟨w', h1, h2, h3, -⟩ := h.own.delete keyok_sv (ty := ty) Try.underlying50 (bl s)
  unfold sv at h1
  rw [bs_bl] at h1
  exact ⟨w', h1, h.put h2 h3⟩
end
end Go.Proofs.Ytkpcillgoeidaaa
