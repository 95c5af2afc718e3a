
/- Maps whose keys are texts; what delete does; no conditions. -/
import Derived.Test.YtkpcillgoeidaaaRuns
namespace Go.Proofs.Ytkpcillgoeidaaa
open Go.RowKit
open Go.ChangeMaps (setBlock)
set_option maxRecDepth 100000

def sv (x : Bs) : Value := .string (bs x)
theorem sv_inj (j k : Bs) (h : sv j = sv k) : j = k := by
  have : bs j = bs k := by simpa [sv] using h
  exact bs_inj this
theorem bs_beq (j k : Bs) : (bs j == bs k) = decide (j = k) := by
  show (j.toArray == k.toArray) = _
  rw [List.beq_toArray]
  by_cases h : j = k
  · subst h; simp
  · rw [decide_eq_false h]
    exact beq_eq_false_iff_ne.2 h
theorem bs_ne {j k : Bs} (h : j ≠ k) : (bs j == bs k) = false := by rw [bs_beq]; exact decide_eq_false h

theorem now_sv (k : Bs) : ∀ (es : List MapEntry) (i : Nat), (∀ e ∈ es, ∃ j : Bs, e.key = sv j) →
    (Instr.findNow .string (sv k) es i = some none ∧ ∀ e ∈ es, e.key ≠ sv k) ∨
    ∃ j e, Instr.findNow .string (sv k) es i = some (some (i + j, e.val)) ∧ es[j]? = some e ∧ e.key = sv k
  | [], i, _ => .inl ⟨rfl, fun e he => by simp at he⟩
  | x :: r, i, h => by
    obtain ⟨j, hj⟩ := h x (by simp)
    by_cases e : k = j
    · subst e
      refine .inr ⟨0, x, ?_, rfl, hj⟩
      simp [Instr.findNow, hj, sv, Instr.sameNow, bs_beq]
    · have hne : (bs k == bs j) = false := bs_ne e
      have hst : Instr.findNow .string (sv k) (x :: r) i = Instr.findNow .string (sv k) r (i + 1) := by
        show (match Instr.sameNow .string (sv k) x.key with | some true => _ | some false => _ | none => _) = _
        rw [hj]
        show (match some (bs k == bs j) with | some true => _ | some false => _ | none => _) = _
        rw [hne]
      rw [hst]
      rcases now_sv k r (i + 1) (fun e he => h e (by simp [he])) with ⟨h1, h2⟩ | ⟨q, y, h1, h2, h3⟩
      · refine .inl ⟨h1, fun y hy => ?_⟩
        rcases List.mem_cons.1 hy with rfl | hy
        · rw [hj]; intro h; exact e (sv_inj _ _ h).symm
        · exact h2 y hy
      · refine .inr ⟨q + 1, y, ?_, by simpa using h2, h3⟩
        rw [h1]
        congr 3; omega

theorem check_sv (d : Nat) (w : World) (em : Bool) (k : Bs) : (Instr.checkKey em (d + 1) 9 (sv k)).run Try.prog w = .ok () w := by
  rw [Instr.checkKey]
  simp [Sem.run_bind, sv]

theorem keyok_sv : KeyOk 9 sv where
  inj := sv_inj
  check w em k := check_sv 9999 w em k
  stays w k := by
    simp only [Instr.keyThatStays]
    have : ∀ d, Instr.sameBits (d + 1) (sv k) (sv k) = true := by
      intro d
      simp [Instr.sameBits, sv, bs_beq]
    rw [this 9999]
    simp
  find w k es h := by
    rcases now_sv k es 0 h with ⟨h1, h2⟩ | ⟨q, y, h1, h2, h3⟩
    · exact .inl ⟨by simp [Instr.findKey, Sem.run_bind, h1], h2⟩
    · exact .inr ⟨q, y, by simp [Instr.findKey, Sem.run_bind, h1], h2, h3⟩

def del {κ ν : Type} [DecidableEq κ] (f : κ → Option ν) (k : κ) : κ → Option ν := fun j => if j = k then none else f j

section
variable {κ ν : Type} {K : TypeId} {enc : κ → Value} {encv : ν → Value} {f : κ → Option ν} {B : Nat} {w : World}
/-- A key is deleted. -/
theorem MapIn.delete [DecidableEq κ] (h : MapIn enc encv B f w) (O : KeyOk K enc) {T E ty : TypeId} (hT : Try.prog.underlying T = some (.map K E)) (k : κ) :
    ∃ w', (Builtin.delete_ #[T, K] ty #[.map (some B), enc k]).run Try.prog w = .ok (.tuple #[]) w' ∧ MapIn enc encv B (del f k) w' ∧ Kept (fun n => n = B) w w' ∧ w'.heap.size = w.heap.size := by
  obtain ⟨es, clock, hb, F⟩ := h
  rcases O.find w k es.toList (fun e he => by obtain ⟨j, v, h1, _⟩ := F.keys e he; exact ⟨j, h1⟩) with ⟨h1, h2⟩ | ⟨j, e, h1, h2, h3⟩
  · refine ⟨setBlock w B (.map es clock), ?_, ⟨_, _, setBlock_at hb _, ?_, ?_, F.once, F.born, F.stamps⟩, kept_setBlock w B _, by simp [setBlock]⟩
    · simp [Builtin.delete_, run_underlying hT, MapKept.run_getObj_map hb, O.check, h1, MapKept.run_setObj_map _ hb, Sem.run_bind, Result.andThen, setBlock]
    · intro e he
      obtain ⟨j, v, e1, e2, e3⟩ := F.keys e he
      refine ⟨j, v, e1, ?_, e3⟩
      have : j ≠ k := by intro x; exact h2 e he (by rw [e1, x])
      simp [del, this, e2]
    · intro j v hj
      unfold del at hj
      by_cases x : j = k
      · rw [if_pos x] at hj; cases hj
      · rw [if_neg x] at hj; exact F.all j v hj
  · have hjl : j < es.toList.length := (List.getElem?_eq_some_iff.1 h2).1
    have hjs : j < es.size := by simpa using hjl
    have hsub : (es.eraseIdxIfInBounds j).toList = es.toList.eraseIdx j := by
      unfold Array.eraseIdxIfInBounds
      rw [dif_pos hjs]
      simp
    have sub : (es.toList.eraseIdx j).Sublist es.toList := List.eraseIdx_sublist _ _
    have hp := List.pairwise_iff_getElem.1 F.once
    have two : ∀ (i : Nat) (y : MapEntry), es.toList[i]? = some y → i ≠ j → y.key ≠ enc k := by
      intro i y hi hij hk
      obtain ⟨li, ei⟩ := List.getElem?_eq_some_iff.1 hi
      obtain ⟨lj, ej⟩ := List.getElem?_eq_some_iff.1 h2
      rcases Nat.lt_or_ge i j with hlt | hge
      · exact hp i j li lj hlt (by rw [ei, ej, hk, h3])
      · exact hp j i lj li (by omega) (by rw [ei, ej, hk, h3])
    refine ⟨setBlock w B (.map (es.eraseIdxIfInBounds j) clock), ?_, ⟨_, _, setBlock_at hb _, ?_, ?_, ?_, ?_, ?_⟩, kept_setBlock w B _, by simp [setBlock]⟩
    · simp [Builtin.delete_, run_underlying hT, MapKept.run_getObj_map hb, O.check, h1, MapKept.run_setObj_map _ hb, Sem.run_bind, Result.andThen, setBlock]
    · intro x hx
      rw [hsub] at hx
      obtain ⟨i', hi', ei'⟩ := List.mem_iff_getElem.1 hx
      have hx2 : ∃ i, es.toList[i]? = some x ∧ i ≠ j := by
        rw [List.getElem_eraseIdx] at ei'
        split at ei'
        · exact ⟨i', by rw [← ei']; exact List.getElem?_eq_getElem _, by omega⟩
        · exact ⟨i' + 1, by rw [← ei']; exact List.getElem?_eq_getElem _, by omega⟩
      obtain ⟨i, hi, hij⟩ := hx2
      obtain ⟨a, v, e1, e2, e3⟩ := F.keys x (List.mem_of_getElem? hi)
      refine ⟨a, v, e1, ?_, e3⟩
      have : a ≠ k := by intro y; exact two i x hi hij (by rw [e1, y])
      simp [del, this, e2]
    · intro a v ha
      unfold del at ha
      by_cases x : a = k
      · rw [if_pos x] at ha; cases ha
      · rw [if_neg x] at ha
        obtain ⟨y, hy, hk⟩ := F.all a v ha
        refine ⟨y, ?_, hk⟩
        rw [hsub]
        obtain ⟨i, hi, ei⟩ := List.mem_iff_getElem.1 hy
        have hij : i ≠ j := by
          intro e1; subst e1
          rw [List.getElem?_eq_getElem hi, ei] at h2
          have := Option.some.inj h2
          subst this
          rw [h3] at hk
          exact x (O.inj _ _ hk).symm
        rcases Nat.lt_or_ge i j with hlt | hge
        · refine List.mem_iff_getElem?.2 ⟨i, ?_⟩
          rw [List.getElem?_eraseIdx, if_pos hlt, List.getElem?_eq_getElem hi, ei]
        · refine List.mem_iff_getElem?.2 ⟨i - 1, ?_⟩
          rw [List.getElem?_eraseIdx, if_neg (by omega), show i - 1 + 1 = i by omega, List.getElem?_eq_getElem hi, ei]
    · rw [hsub]; exact F.once.sublist sub
    · intro x hx
      rw [hsub] at hx
      exact F.born x (sub.subset hx)
    · rw [hsub]; exact F.stamps.sublist (sub.map _)
end
end Go.Proofs.Ytkpcillgoeidaaa
