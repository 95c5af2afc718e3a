
/- What one directory's calls change; a directory as a table; no conditions but lengths. -/
import Derived.Test.YthonlakpgncinaaDiA
namespace Go.Proofs.Ythonlakpgncinaa
open Go.RowKit
set_option maxRecDepth 100000

theorem write_n0 {f : StF} {g : VwF} {i off : Int} (d : ByteArray) (j : Int) : (findV f (writeT f g i off d) j).n0 = (findV f g j).n0 := by
  by_cases h : wrOk f g i off = true
  · rw [write_find d h]
    split
    · rename_i e; subst e; rfl
    · rfl
  · have h : wrOk f g i off = false := by simpa using h
    rw [(write_no d h).1, find_find]
theorem add_other {f : StF} {g : VwF} {d : Int} (s : Bs) (i : Int) {j : Int} (h : j ≠ d) : findV f (addT f g d s i) j = findV f g j := by
  unfold addT
  split
  · rw [write_other _ h, find_find]
  · rw [find_find]
theorem add_n0 {f : StF} {g : VwF} {d : Int} (s : Bs) (i : Int) (j : Int) : (findV f (addT f g d s i) j).n0 = (findV f g j).n0 := by
  unfold addT
  split
  · rw [write_n0, find_find]
  · rw [find_find]
theorem rm_other {f : StF} {g : VwF} {d : Int} (s : Bs) {j : Int} (h : j ≠ d) : findV f (rmT f g d s) j = findV f g j := by
  unfold rmT
  split
  · rw [write_other _ h, find_find]
  · rw [find_find]
theorem rm_n0 {f : StF} {g : VwF} {d : Int} (s : Bs) (j : Int) : (findV f (rmT f g d s) j).n0 = (findV f g j).n0 := by
  unfold rmT
  split
  · rw [write_n0, find_find]
  · rw [find_find]
theorem dirE_eq {f f' : StF} {g g' : VwF} {d : Int} (h : findV f' g' d = findV f g d) : dirE f' g' d = dirE f g d := by unfold dirE isDirF; rw [h]

def u1 : VwF := allocT f0 g0 1
def u2 : VwF := allocT f0 u1 1
def keepB : Bs := [107, 101, 101, 112]
def u3 (i : Int) : VwF := addT f0 u2 1 keepB i
theorem u_a : allocV (allocA f0 u1) = .tuple #[.int .i64 2, .bool true] := by kernel_rfl
theorem u_all : ∀ k : Fin 15, addOk f0 u2 1 keepB ((k.val : Int) + 1) = true ∧ foundE (dirE f0 (u3 ((k.val : Int) + 1)) 1) keepB = some ((k.val : Int) + 1) ∧ namesE (dirE f0 (u3 ((k.val : Int) + 1)) 1) = [keepB] := by decide +kernel
theorem u_at {i : Int} (h1 : 1 ≤ i) (h2 : i < 16) : addOk f0 u2 1 keepB i = true ∧ foundE (dirE f0 (u3 i) 1) keepB = some i ∧ namesE (dirE f0 (u3 i) 1) = [keepB] := by
  have := u_all ⟨(i - 1).toNat, by omega⟩
  rw [show (((⟨(i - 1).toNat, by omega⟩ : Fin 15).val : Nat) : Int) + 1 = i by show ((i - 1).toNat : Int) + 1 = i; omega] at this
  exact this

structure ApF (i : Int) (g : VwF) : Prop where
  one : findV f0 g 1 = findV f0 (u3 i) 1
  two : (findV f0 g 2).n0 = 1
theorem u2_two : (findV f0 u2 2).n0 = 1 := by decide +kernel
theorem ap_new (i : Int) : ApF i (u3 i) := ⟨rfl, by unfold u3; rw [add_n0]; exact u2_two⟩
theorem ApF.find {i : Int} {g : VwF} (h : ApF i g) (j : Int) : ApF i (findT g j) := ⟨by rw [find_find]; exact h.one, by rw [find_find]; exact h.two⟩
theorem ApF.add {i : Int} {g : VwF} (h : ApF i g) (s : Bs) (n : Int) : ApF i (addT f0 g 2 s n) := ⟨by rw [add_other _ _ (by decide)]; exact h.one, by rw [add_n0]; exact h.two⟩
theorem ApF.rm {i : Int} {g : VwF} (h : ApF i g) (s : Bs) : ApF i (rmT f0 g 2 s) := ⟨by rw [rm_other _ (by decide)]; exact h.one, by rw [rm_n0]; exact h.two⟩
theorem ApF.dir {i : Int} {g : VwF} (h : ApF i g) : dirE f0 g 1 = dirE f0 (u3 i) 1 := dirE_eq h.one
end Go.Proofs.Ythonlakpgncinaa

namespace Go.Proofs.Ythonlakpgncinaa
open Go.RowKit
open Go.ChangeMaps (setBlock)
set_option maxRecDepth 100000

def sv (x : Bs) : Value := .string (bs x)
theorem sv_inj (j k : Bs) (h : sv j = sv k) : j = k := by
  have : bs j = bs k := by simpa [sv] using h
  exact bs_inj this
theorem bs_beq (j k : Bs) : (bs j == bs k) = decide (j = k) := by
  show (j.toArray == k.toArray) = _
  rw [List.beq_toArray]
  by_cases h : j = k
  · subst h; simp
  · rw [decide_eq_false h]
    exact beq_eq_false_iff_ne.2 h
theorem bs_ne {j k : Bs} (h : j ≠ k) : (bs j == bs k) = false := by rw [bs_beq]; exact decide_eq_false h

theorem now_sv (k : Bs) : ∀ (es : List MapEntry) (i : Nat), (∀ e ∈ es, ∃ j : Bs, e.key = sv j) →
    (Instr.findNow .string (sv k) es i = some none ∧ ∀ e ∈ es, e.key ≠ sv k) ∨
    ∃ j e, Instr.findNow .string (sv k) es i = some (some (i + j, e.val)) ∧ es[j]? = some e ∧ e.key = sv k
  | [], i, _ => .inl ⟨rfl, fun e he => by simp at he⟩
  | x :: r, i, h => by
    obtain ⟨j, hj⟩ := h x (by simp)
    by_cases e : k = j
    · subst e
      refine .inr ⟨0, x, ?_, rfl, hj⟩
      simp [Instr.findNow, hj, sv, Instr.sameNow, bs_beq]
    · have hne : (bs k == bs j) = false := bs_ne e
      have hst : Instr.findNow .string (sv k) (x :: r) i = Instr.findNow .string (sv k) r (i + 1) := by
        show (match Instr.sameNow .string (sv k) x.key with | some true => _ | some false => _ | none => _) = _
        rw [hj]
        show (match some (bs k == bs j) with | some true => _ | some false => _ | none => _) = _
        rw [hne]
      rw [hst]
      rcases now_sv k r (i + 1) (fun e he => h e (by simp [he])) with ⟨h1, h2⟩ | ⟨q, y, h1, h2, h3⟩
      · refine .inl ⟨h1, fun y hy => ?_⟩
        rcases List.mem_cons.1 hy with rfl | hy
        · rw [hj]; intro h; exact e (sv_inj _ _ h).symm
        · exact h2 y hy
      · refine .inr ⟨q + 1, y, ?_, by simpa using h2, h3⟩
        rw [h1]
        congr 3; omega

theorem check_sv (d : Nat) (w : World) (em : Bool) (k : Bs) : (Instr.checkKey em (d + 1) 9 (sv k)).run Try.prog w = .ok () w := by
  rw [Instr.checkKey]
  simp [Sem.run_bind, sv]

theorem keyok_sv : KeyOk 9 sv where
  inj := sv_inj
  check w em k := check_sv 9999 w em k
  stays w k := by
    simp only [Instr.keyThatStays]
    have : ∀ d, Instr.sameBits (d + 1) (sv k) (sv k) = true := by
      intro d
      simp [Instr.sameBits, sv, bs_beq]
    rw [this 9999]
    simp
  find w k es h := by
    rcases now_sv k es 0 h with ⟨h1, h2⟩ | ⟨q, y, h1, h2, h3⟩
    · exact .inl ⟨by simp [Instr.findKey, Sem.run_bind, h1], h2⟩
    · exact .inr ⟨q, y, by simp [Instr.findKey, Sem.run_bind, h1], h2, h3⟩

def del {κ ν : Type} [DecidableEq κ] (f : κ → Option ν) (k : κ) : κ → Option ν := fun j => if j = k then none else f j

section
variable {κ ν : Type} {K : TypeId} {enc : κ → Value} {encv : ν → Value} {f : κ → Option ν} {B : Nat} {w : World}
/-- A key is deleted. -/
theorem MapIn.delete [DecidableEq κ] (h : MapIn enc encv B f w) (O : KeyOk K enc) {T E ty : TypeId} (hT : Try.prog.underlying T = some (.map K E)) (k : κ) :
    ∃ w', (Builtin.delete_ #[T, K] ty #[.map (some B), enc k]).run Try.prog w = .ok (.tuple #[]) w' ∧ MapIn enc encv B (del f k) w' ∧ Kept (fun n => n = B) w w' ∧ w'.heap.size = w.heap.size := by
  obtain ⟨es, clock, hb, F⟩ := h
  rcases O.find w k es.toList (fun e he => by obtain ⟨j, v, h1, _⟩ := F.keys e he; exact ⟨j, h1⟩) with ⟨h1, h2⟩ | ⟨j, e, h1, h2, h3⟩
  · refine ⟨setBlock w B (.map es clock), ?_, ⟨_, _, setBlock_at hb _, ?_, ?_, F.once, F.born, F.stamps⟩, kept_setBlock w B _, by simp [setBlock]⟩
    · simp [Builtin.delete_, run_underlying hT, MapKept.run_getObj_map hb, O.check, h1, MapKept.run_setObj_map _ hb, Sem.run_bind, Result.andThen, setBlock]
    · intro e he
      obtain ⟨j, v, e1, e2, e3⟩ := F.keys e he
      refine ⟨j, v, e1, ?_, e3⟩
      have : j ≠ k := by intro x; exact h2 e he (by rw [e1, x])
      simp [del, this, e2]
    · intro j v hj
      unfold del at hj
      by_cases x : j = k
      · rw [if_pos x] at hj; cases hj
      · rw [if_neg x] at hj; exact F.all j v hj
  · have hjl : j < es.toList.length := (List.getElem?_eq_some_iff.1 h2).1
    have hjs : j < es.size := by simpa using hjl
    have hsub : (es.eraseIdxIfInBounds j).toList = es.toList.eraseIdx j := by
      unfold Array.eraseIdxIfInBounds
      rw [dif_pos hjs]
      simp
    have sub : (es.toList.eraseIdx j).Sublist es.toList := List.eraseIdx_sublist _ _
    have hp := List.pairwise_iff_getElem.1 F.once
    have two : ∀ (i : Nat) (y : MapEntry), es.toList[i]? = some y → i ≠ j → y.key ≠ enc k := by
      intro i y hi hij hk
      obtain ⟨li, ei⟩ := List.getElem?_eq_some_iff.1 hi
      obtain ⟨lj, ej⟩ := List.getElem?_eq_some_iff.1 h2
      rcases Nat.lt_or_ge i j with hlt | hge
      · exact hp i j li lj hlt (by rw [ei, ej, hk, h3])
      · exact hp j i lj li (by omega) (by rw [ei, ej, hk, h3])
    refine ⟨setBlock w B (.map (es.eraseIdxIfInBounds j) clock), ?_, ⟨_, _, setBlock_at hb _, ?_, ?_, ?_, ?_, ?_⟩, kept_setBlock w B _, by simp [setBlock]⟩
    · simp [Builtin.delete_, run_underlying hT, MapKept.run_getObj_map hb, O.check, h1, MapKept.run_setObj_map _ hb, Sem.run_bind, Result.andThen, setBlock]
    · intro x hx
      rw [hsub] at hx
      obtain ⟨i', hi', ei'⟩ := List.mem_iff_getElem.1 hx
      have hx2 : ∃ i, es.toList[i]? = some x ∧ i ≠ j := by
        rw [List.getElem_eraseIdx] at ei'
        split at ei'
        · exact ⟨i', by rw [← ei']; exact List.getElem?_eq_getElem _, by omega⟩
        · exact ⟨i' + 1, by rw [← ei']; exact List.getElem?_eq_getElem _, by omega⟩
      obtain ⟨i, hi, hij⟩ := hx2
      obtain ⟨a, v, e1, e2, e3⟩ := F.keys x (List.mem_of_getElem? hi)
      refine ⟨a, v, e1, ?_, e3⟩
      have : a ≠ k := by intro y; exact two i x hi hij (by rw [e1, y])
      simp [del, this, e2]
    · intro a v ha
      unfold del at ha
      by_cases x : a = k
      · rw [if_pos x] at ha; cases ha
      · rw [if_neg x] at ha
        obtain ⟨y, hy, hk⟩ := F.all a v ha
        refine ⟨y, ?_, hk⟩
        rw [hsub]
        obtain ⟨i, hi, ei⟩ := List.mem_iff_getElem.1 hy
        have hij : i ≠ j := by
          intro e1; subst e1
          rw [List.getElem?_eq_getElem hi, ei] at h2
          have := Option.some.inj h2
          subst this
          rw [h3] at hk
          exact x (O.inj _ _ hk).symm
        rcases Nat.lt_or_ge i j with hlt | hge
        · refine List.mem_iff_getElem?.2 ⟨i, ?_⟩
          rw [List.getElem?_eraseIdx, if_pos hlt, List.getElem?_eq_getElem hi, ei]
        · refine List.mem_iff_getElem?.2 ⟨i - 1, ?_⟩
          rw [List.getElem?_eraseIdx, if_neg (by omega), show i - 1 + 1 = i by omega, List.getElem?_eq_getElem hi, ei]
    · rw [hsub]; exact F.once.sublist sub
    · intro x hx
      rw [hsub] at hx
      exact F.born x (sub.subset hx)
    · rw [hsub]; exact F.stamps.sublist (sub.map _)
end
end Go.Proofs.Ythonlakpgncinaa

namespace Go.Proofs.Ythonlakpgncinaa
open Go.RowKit
set_option maxRecDepth 100000

theorem slc_over {l e : Bs} {k : Nat} (he : e.length = 16) (hk : k * 16 ≤ l.length) (i : Nat) : slc (l.take (k * 16) ++ e ++ l.drop (k * 16 + 16)) i = if i = k then e else slc l i := by
  have hA : (l.take (k * 16)).length = k * 16 := by rw [List.length_take]; omega
  unfold slc
  rw [List.append_assoc]
  rcases Nat.lt_trichotomy i k with h | h | h
  · rw [if_neg (by omega), List.drop_append, List.take_append]
    rw [show 16 - ((l.take (k * 16)).drop (i * 16)).length = 0 by rw [List.length_drop, hA]; omega, List.take_zero, List.append_nil, List.drop_take, List.take_take, Nat.min_eq_left (by omega)]
  · subst h
    rw [if_pos rfl, List.drop_append, hA, Nat.sub_self, List.drop_zero, List.drop_eq_nil_of_le (by omega), List.nil_append, List.take_append, he, Nat.sub_self, List.take_zero, List.append_nil]
    exact List.take_of_length_le (by omega)
  · rw [if_neg (by omega), List.drop_append, hA, List.drop_eq_nil_of_le (by omega), List.nil_append, List.drop_append, he, List.drop_eq_nil_of_le (by omega), List.nil_append, List.drop_drop]
    congr 2
    omega

theorem ents_over {l e : Bs} {k : Nat} (he : e.length = 16) (hk : k * 16 ≤ l.length) (h8 : k < 8) :
    entsF (l.take (k * 16) ++ e ++ l.drop (k * 16 + 16)) = if k < nEnt l then (entsF l).set k (Nm.nameF e, Nm.ptrF e) else entsF l ++ [(Nm.nameF e, Nm.ptrF e)] := by
  have hn : nEnt (l.take (k * 16) ++ e ++ l.drop (k * 16 + 16)) = if k < nEnt l then nEnt l else nEnt l + 1 := by
    unfold nEnt
    simp only [List.length_append, List.length_take, List.length_drop, he]
    split <;> omega
  have hkn : k ≤ nEnt l := by unfold nEnt; omega
  apply List.ext_getElem?
  intro i
  by_cases hi : i < nEnt (l.take (k * 16) ++ e ++ l.drop (k * 16 + 16))
  · rw [ents_at hi]
    unfold ent
    rw [slc_over he hk]
    by_cases hik : i = k
    · subst hik
      rw [if_pos rfl]
      by_cases hlt : i < nEnt l
      · rw [if_pos hlt, List.getElem?_set, if_pos rfl, if_pos (by rw [ents_len]; exact hlt)]
      · rw [if_neg hlt, List.getElem?_append_right (by rw [ents_len]; omega), ents_len, show i - nEnt l = 0 by omega]
        rfl
    · rw [if_neg hik]
      by_cases hlt : k < nEnt l
      · rw [hn, if_pos hlt] at hi
        rw [if_pos hlt, List.getElem?_set, if_neg (fun e => hik e.symm), ents_at hi]
        rfl
      · rw [hn, if_neg hlt] at hi
        rw [if_neg hlt, List.getElem?_append_left (by rw [ents_len]; omega), ents_at (by omega)]
        rfl
  · rw [List.getElem?_eq_none (by rw [ents_len]; omega)]
    rw [hn] at hi
    by_cases hlt : k < nEnt l
    · rw [if_pos hlt] at hi
      rw [if_pos hlt, List.getElem?_eq_none (by rw [List.length_set, ents_len]; omega)]
    · rw [if_neg hlt] at hi
      rw [if_neg hlt, List.getElem?_eq_none (by rw [List.length_append, ents_len]; simp; omega)]

theorem take_all : ∀ (s : Bs), (0 : UInt8) ∉ s → s.takeWhile (· != 0) = s
  | [], _ => rfl
  | x :: s, h => by
    have hx : x ≠ 0 := fun e => h (by simp [e])
    have := take_all s (fun hm => h (List.mem_cons_of_mem _ hm))
    simp [hx, this]
theorem pack_ent {s : Bs} {n : Int} (hs : s.length ≤ 14) (h0 : (0 : UInt8) ∉ s) (h1 : 0 ≤ n) (h2 : n < 16) : Nm.nameF (Nm.packF s n) = s ∧ Nm.ptrF (Nm.packF s n) = n := by
  constructor
  · rw [Nm.name_pack, List.take_of_length_le hs]
    exact take_all s h0
  · unfold Nm.ptrF
    rw [if_pos (Nm.pack_len s n), Nm.num_pack]
    omega

theorem isDir_put {f : StF} {g : VwF} {d : Int} (h : isDirF f g d = true) (off : Int) (b : ByteArray) : isDirF f (writeT f (findT g d) d off b) d = true := by
  unfold isDirF at h ⊢
  rw [write_n0, find_find]
  exact h

/-- An entry is written into a directory. -/
theorem dir_put {f : StF} {g : VwF} {d : Int} (h : isDirF f g d = true) {k : Nat} (h8 : k < 8) (hk : k ≤ (dirE f g d).length) {s : Bs} {n : Int} (hs : s.length ≤ 14) (h0 : (0 : UInt8) ∉ s) (h1 : 0 ≤ n) (h2 : n < 16) :
    dirE f (writeT f (findT g d) d ((k * 16 : Nat) : Int) (bs (Nm.packF s n))) d = if k < (dirE f g d).length then (dirE f g d).set k (s, n) else dirE f g d ++ [(s, n)] := by
  have hd : dirE f g d = entsF (bl (findV f g d).s) := by unfold dirE; rw [if_pos h]
  have hi : isI f g d = true := by
    have : (findV f g d).n0 = 1 := by simpa [isDirF] using h
    unfold isI
    rw [this]; rfl
  rw [hd, ents_len] at hk ⊢
  have hk16 : k * 16 ≤ (bl (findV f g d).s).length := by unfold nEnt at hk; omega
  have hok : wrOk f (findT g d) d ((k * 16 : Nat) : Int) = true := by
    rw [bl_len] at hk16
    unfold wrOk isI
    rw [find_find]
    unfold isI at hi
    rw [hi, decide_eq_true (by omega), decide_eq_true (by omega), decide_eq_true (by omega)]
    rfl
  have hc : cutD (bs (Nm.packF s n)) (k * 16) = bs (Nm.packF s n) := by
    unfold cutD
    rw [bl_bs, List.take_of_length_le (by rw [Nm.pack_len]; omega)]
  have hv : dirE f (writeT f (findT g d) d ((k * 16 : Nat) : Int) (bs (Nm.packF s n))) d = entsF ((bl (findV f g d).s).take (k * 16) ++ Nm.packF s n ++ (bl (findV f g d).s).drop (k * 16 + 16)) := by
    unfold dirE
    rw [if_pos (isDir_put h _ _), write_find _ hok, if_pos rfl, find_find, Int.toNat_natCast, hc]
    show entsF (bl (overF (findV f g d).s (k * 16) (bs (Nm.packF s n)))) = _
    unfold overF
    rw [bl_bs, bl_bs, bs_size, Nm.pack_len]
  obtain ⟨p1, p2⟩ := pack_ent hs h0 h1 h2
  rw [hv, ents_over (Nm.pack_len s n) hk16 h8, p1, p2]

theorem names_app (a b : List E2) : namesE (a ++ b) = namesE a ++ namesE b := by unfold namesE; rw [List.filter_append, List.map_append]
theorem names_one (e : E2) : namesE [e] = if hereB e.2 = true then [e.1] else [] := by
  unfold namesE
  by_cases h : hereB e.2 = true <;> simp [h]
theorem parted {es : List E2} {k : Nat} {e0 : E2} (h : es[k]? = some e0) (e : E2) : ∃ a b, es = a ++ [e0] ++ b ∧ es.set k e = a ++ [e] ++ b := by
  obtain ⟨hk, rfl⟩ := List.getElem?_eq_some_iff.1 h
  refine ⟨es.take k, es.drop (k + 1), ?_, ?_⟩
  · rw [List.append_assoc]
    show es = es.take k ++ (es[k] :: es.drop (k + 1))
    rw [← List.drop_eq_getElem_cons hk, List.take_append_drop]
  · rw [List.set_eq_take_append_cons_drop, if_pos hk, List.append_assoc]
    rfl
theorem mem_names {es : List E2} {s : Bs} : s ∈ namesE es ↔ ∃ n, (s, n) ∈ es ∧ hereB n = true := by
  unfold namesE
  simp only [List.mem_map, List.mem_filter]
  constructor
  · rintro ⟨⟨x, n⟩, ⟨h1, h2⟩, rfl⟩
    exact ⟨n, h1, h2⟩
  · rintro ⟨n, h1, h2⟩
    exact ⟨(s, n), ⟨h1, h2⟩, rfl⟩

/-- The list of entries says the function o; names stand once; all are right. -/
structure TabE (es : List E2) (o : Bs → Option Int) : Prop where
  le : es.length ≤ 8
  once : (namesE es).Nodup
  says : ∀ s n, o s = some n ↔ ((s, n) ∈ es ∧ hereB n = true)
  right : ∀ s, (o s).isSome = true → Nm.rightF s = true

section
variable {es : List E2} {o : Bs → Option Int}
theorem TabE.keys (h : TabE es o) (s : Bs) : s ∈ namesE es ↔ (o s).isSome = true := by
  rw [mem_names, Option.isSome_iff_exists]
  exact ⟨fun ⟨n, hn⟩ => ⟨n, (h.says s n).2 hn⟩, fun ⟨n, hn⟩ => ⟨n, (h.says s n).1 hn⟩⟩
theorem TabE.found (h : TabE es o) {s : Bs} (hr : Nm.rightF s = true) : foundE es s = o s := by
  cases hf : foundE es s with
  | some n =>
    obtain ⟨-, -, ⟨e, he, h1, h2, h3⟩, -⟩ := place_yes hf
    have hm := List.mem_of_getElem? he
    exact ((h.says s n).2 ⟨by rw [← h1, ← h2]; exact hm, h3⟩).symm
  | none =>
    cases ho : o s with
    | none => rfl
    | some n =>
      obtain ⟨hm, hh⟩ := (h.says s n).1 ho
      exfalso
      have hlt : es.findIdx (hasP s) < es.length := List.findIdx_lt_length_of_exists ⟨(s, n), hm, by simp [hasP, hh]⟩
      unfold foundE at hf
      rw [if_pos ⟨hr, hlt⟩] at hf
      cases hf
theorem TabE.room (h : TabE es o) : gapA es < 8 ↔ (namesE es).length < 8 := by
  have hle := h.le
  have hn := names_len es
  have hg : gapA es ≤ es.length := List.findIdx_le_length
  constructor
  · intro hlt
    by_cases hx : gapA es < es.length
    · have hp := List.findIdx_getElem (w := hx)
      have hm : es[gapA es]? = some es[gapA es] := List.getElem?_eq_getElem hx
      obtain ⟨a, b, he, -⟩ := parted hm ([], 0)
      have hz : hereB (es[gapA es]).2 = false := by
        have : gapP es[gapA es] = true := hp
        simpa [gapP] using this
      have h1 : (namesE es).length = (namesE a).length + (namesE b).length := by
        rw [he, names_app, names_app, names_one]
        rw [hz]
        simp
      have h2 : es.length = a.length + 1 + b.length := by
        have := congrArg List.length he
        simp at this
        omega
      have := names_len a
      have := names_len b
      omega
    · omega
  · intro hlt
    apply Nat.lt_of_not_le
    intro h8
    have hall : ∀ e ∈ es, hereB e.2 = true := by
      intro e he
      obtain ⟨i, hi, rfl⟩ := List.mem_iff_getElem.1 he
      have hx : i < es.findIdx gapP := by show i < gapA es; omega
      have := List.not_of_lt_findIdx hx
      simpa [gapP] using this
    have hfull : namesE es = es.map (·.1) := by
      unfold namesE
      rw [List.filter_eq_self.2 hall]
    rw [hfull, List.length_map] at hlt
    omega

theorem TabE.put (h : TabE es o) {s : Bs} {n : Int} (hr : Nm.rightF s = true) (hn : hereB n = true) (ho : o s = none) {a b : List E2} {m : List E2} (hm : ∀ e ∈ m, hereB e.2 = false) (he : es = a ++ m ++ b) (hl : (a ++ [(s, n)] ++ b).length ≤ 8) :
    TabE (a ++ [(s, n)] ++ b) (upd o s n) := by
  have hs : s ∉ namesE es := by rw [h.keys, ho]; simp
  have hm0 : namesE m = [] := by
    unfold namesE
    rw [List.filter_eq_nil_iff.2 (fun e he => by rw [hm e he]; simp)]
    rfl
  have hne : namesE es = namesE a ++ namesE b := by rw [he, names_app, names_app, hm0, List.append_nil]
  refine ⟨hl, ?_, ?_, ?_⟩
  · rw [names_app, names_app, names_one, if_pos hn]
    have h1 := h.once
    rw [hne] at h1 hs
    obtain ⟨q1, q2, q3⟩ := List.nodup_append.1 h1
    simp only [List.mem_append, not_or] at hs
    rw [List.append_assoc, List.nodup_append]
    refine ⟨q1, List.nodup_cons.2 ⟨hs.2, q2⟩, fun x hx y hy => ?_⟩
    rcases List.mem_cons.1 hy with rfl | hy
    · intro e; subst e; exact hs.1 hx
    · exact q3 x hx y hy
  · intro x k
    unfold upd
    by_cases hx : x = s
    · subst hx
      rw [if_pos rfl]
      constructor
      · intro e
        obtain rfl := Option.some.inj e
        exact ⟨by simp, hn⟩
      · rintro ⟨h1, h2⟩
        simp only [List.mem_append, List.mem_singleton] at h1
        rcases h1 with (h1 | h1) | h1
        · exact absurd (mem_names.2 ⟨k, by rw [he]; simp [h1], h2⟩) hs
        · injection h1 with _ h1; rw [h1]
        · exact absurd (mem_names.2 ⟨k, by rw [he]; simp [h1], h2⟩) hs
    · rw [if_neg hx, h.says x k, he]
      simp only [List.mem_append, List.mem_singleton]
      constructor
      · rintro ⟨(h1 | h1) | h1, h2⟩
        · exact ⟨.inl (.inl h1), h2⟩
        · have := hm _ h1; rw [h2] at this; cases this
        · exact ⟨.inr h1, h2⟩
      · rintro ⟨(h1 | h1) | h1, h2⟩
        · exact ⟨.inl (.inl h1), h2⟩
        · injection h1 with h1 _; exact absurd h1 hx
        · exact ⟨.inr h1, h2⟩
  · intro x hx
    unfold upd at hx
    by_cases e : x = s
    · subst e; exact hr
    · rw [if_neg e] at hx; exact h.right x hx

theorem TabE.cut (h : TabE es o) {s : Bs} {n : Int} (hn : hereB n = true) {a b : List E2} (he : es = a ++ [(s, n)] ++ b) : TabE (a ++ [([], 0)] ++ b) (del o s) := by
  have hne : namesE es = namesE a ++ ([s] ++ namesE b) := by rw [he, names_app, names_app, names_one, if_pos hn, List.append_assoc]
  have h1 := h.once
  rw [hne] at h1
  obtain ⟨q1, q2, q3⟩ := List.nodup_append.1 h1
  obtain ⟨q4, q5⟩ := List.nodup_cons.1 q2
  have hsa : s ∉ namesE a := fun hx => q3 s hx s (by simp) rfl
  have h0 : hereB 0 = false := rfl
  refine ⟨?_, ?_, ?_, ?_⟩
  · have := h.le; rw [he] at this; simpa using this
  · rw [names_app, names_app, names_one, if_neg (by rw [h0]; simp), List.append_nil]
    exact List.nodup_append.2 ⟨q1, q5, fun x hx y hy => q3 x hx y (List.mem_cons_of_mem _ hy)⟩
  · intro x k
    unfold del
    by_cases hx : x = s
    · subst hx
      rw [if_pos rfl]
      constructor
      · intro e; cases e
      · rintro ⟨h1, h2⟩
        simp only [List.mem_append, List.mem_singleton] at h1
        rcases h1 with (h1 | h1) | h1
        · exact absurd (mem_names.2 ⟨k, h1, h2⟩) hsa
        · injection h1 with _ h1; rw [h1, h0] at h2; cases h2
        · exact absurd (mem_names.2 ⟨k, h1, h2⟩) q4
    · rw [if_neg hx, h.says x k, he]
      simp only [List.mem_append, List.mem_singleton]
      constructor
      · rintro ⟨(h1 | h1) | h1, h2⟩
        · exact ⟨.inl (.inl h1), h2⟩
        · injection h1 with h1 _; exact absurd h1 hx
        · exact ⟨.inr h1, h2⟩
      · rintro ⟨(h1 | h1) | h1, h2⟩
        · exact ⟨.inl (.inl h1), h2⟩
        · injection h1 with _ h1; rw [h1, h0] at h2; cases h2
        · exact ⟨.inr h1, h2⟩
  · intro x hx
    unfold del at hx
    by_cases e : x = s
    · rw [if_pos e] at hx; simp at hx
    · rw [if_neg e] at hx; exact h.right x hx
end
end Go.Proofs.Ythonlakpgncinaa

namespace Go.Proofs.Ythonlakpgncinaa
open Go.RowKit
set_option maxRecDepth 100000

theorem isdir_find {f : StF} {g : VwF} (d : Int) : isDirF f (findT g d) d = isDirF f g d := by unfold isDirF; rw [find_find]
structure TabF (g : VwF) (o : Bs → Option Int) : Prop where
  dir : isDirF f0 g 1 = true
  e : TabE (dirE f0 g 1) o
  size : ∀ j, (findV f0 g j).s.size ≤ 128
  nodot : ∀ s, (o s).isSome = true → s ≠ [46] ∧ s ≠ [46, 46]

section
variable {g : VwF} {o : Bs → Option Int}
theorem TabF.find (h : TabF g o) : TabF (findT g 1) o ∧ dirE f0 (findT g 1) 1 = dirE f0 g 1 := by
  have he : dirE f0 (findT g 1) 1 = dirE f0 g 1 := dirE_eq (find_find _ _ _ _)
  exact ⟨⟨by rw [isdir_find]; exact h.dir, by rw [he]; exact h.e, fun j => by rw [find_find]; exact h.size j, h.nodot⟩, he⟩
theorem TabF.ok (h : TabF g o) {s : Bs} {n : Int} (hr : Nm.rightF s = true) (hn : hereB n = true) : addOk f0 g 1 s n = ((o s).isNone && decide ((namesE (dirE f0 g 1)).length < 8)) := by
  unfold addOk
  rw [h.dir, hr, hn, h.e.found hr]
  congr 1
  exact decide_eq_decide.2 h.e.room
theorem right_parts {s : Bs} (h : Nm.rightF s = true) : s.length ≤ 14 ∧ (0 : UInt8) ∉ s := ⟨(Nm.right_iff.1 h).2.1, (Nm.right_iff.1 h).2.2.2⟩
theorem TabF.add (h : TabF g o) {s : Bs} {n : Int} (hr : Nm.rightF s = true) (hn : hereB n = true) (hd : s ≠ [46] ∧ s ≠ [46, 46]) (hok : addOk f0 g 1 s n = true) : TabF (addT f0 g 1 s n) (upd o s n) := by
  have hok2 := h.ok hr hn
  rw [hok] at hok2
  simp only [Bool.true_eq, Bool.and_eq_true, decide_eq_true_eq, Option.isNone_iff_eq_none] at hok2
  obtain ⟨ho, hlen⟩ := hok2
  have h8 := h.e.room.2 hlen
  obtain ⟨s1, s2⟩ := right_parts hr
  obtain ⟨n1, n2⟩ := here_iff.1 hn
  have hT : addT f0 g 1 s n = writeT f0 (findT g 1) 1 ((gapA (dirE f0 g 1) * 16 : Nat) : Int) (bs (Nm.packF s n)) := by unfold addT; rw [if_pos hok]
  have hgl : gapA (dirE f0 g 1) ≤ (dirE f0 g 1).length := List.findIdx_le_length
  have hdp := dir_put h.dir h8 hgl s1 s2 (by omega : 0 ≤ n) n2
  rw [hT]
  refine ⟨isDir_put h.dir _ _, ?_, write_size (by omega) _ _ _ (fun j => by rw [find_find]; exact h.size j), ?_⟩
  · rw [hdp]
    by_cases hx : gapA (dirE f0 g 1) < (dirE f0 g 1).length
    · rw [if_pos hx]
      have hp := List.findIdx_getElem (w := hx)
      obtain ⟨a, b, e1, e2⟩ := parted (List.getElem?_eq_getElem hx) (s, n)
      rw [e2]
      refine h.e.put hr hn ho (fun e he => ?_) e1 (by rw [← e2, List.length_set]; exact h.e.le)
      obtain rfl := List.mem_singleton.1 he
      have : gapP (dirE f0 g 1)[gapA (dirE f0 g 1)] = true := hp
      simpa [gapP] using this
    · rw [if_neg hx]
      have := h.e.put hr hn ho (a := dirE f0 g 1) (b := []) (m := []) (fun e he => by cases he) (by simp) (by simp; omega)
      simpa using this
  · intro x hx
    unfold upd at hx
    by_cases e : x = s
    · subst e; exact hd
    · rw [if_neg e] at hx; exact h.nodot x hx
theorem TabF.rm (h : TabF g o) {s : Bs} (hr : Nm.rightF s = true) : TabF (rmT f0 g 1 s) (del o s) := by
  have hf := h.e.found hr
  cases ho : o s with
  | none =>
    rw [ho] at hf
    have hT : rmT f0 g 1 s = findT g 1 := by unfold rmT; rw [hf, if_neg (by simp)]
    have hdel : del o s = o := by
      funext x
      unfold del
      by_cases e : x = s
      · rw [if_pos e, e, ho]
      · rw [if_neg e]
    rw [hT, hdel]
    exact h.find.1
  | some n =>
    rw [ho] at hf
    obtain ⟨-, hlt, ⟨e, he, e1, e2, e3⟩, -⟩ := place_yes hf
    have hT : rmT f0 g 1 s = writeT f0 (findT g 1) 1 (((dirE f0 g 1).findIdx (hasP s) * 16 : Nat) : Int) (bs (Nm.packF [] 0)) := by unfold rmT; rw [hf]; rfl
    have hdp := dir_put h.dir (by have := h.e.le; omega) (Nat.le_of_lt hlt) (s := []) (n := 0) (by simp) (by simp) (by omega) (by omega)
    rw [hT]
    refine ⟨isDir_put h.dir _ _, ?_, write_size (by omega) _ _ _ (fun j => by rw [find_find]; exact h.size j), ?_⟩
    · rw [hdp, if_pos hlt]
      obtain ⟨a, b, p1, p2⟩ := parted he ([], 0)
      rw [p2]
      refine h.e.cut e3 (a := a) (b := b) ?_
      rw [p1, show e = (s, n) from by rw [← e1, ← e2]]
    · intro x hx
      unfold del at hx
      by_cases e : x = s
      · rw [if_pos e] at hx; simp at hx
      · rw [if_neg e] at hx; exact h.nodot x hx
theorem TabF.bare (h : TabF g o) : bareE (dirE f0 g 1) = decide ((namesE (dirE f0 g 1)).length = 0) := by
  rw [bare_is]
  have hk := h.e.keys
  cases hn : namesE (dirE f0 g 1) with
  | nil => rfl
  | cons x l =>
    have hx : (o x).isSome = true := (hk x).1 (by rw [hn]; simp)
    obtain ⟨d1, d2⟩ := h.nodot x hx
    rw [decide_eq_false (by simp)]
    simp [dotP, d1, d2]
end

theorem tab_new : TabF (allocT f0 g0 1) (fun _ => none) where
  dir := by decide +kernel
  e := by
    have hn : dirE f0 (allocT f0 g0 1) 1 = [] := by decide +kernel
    rw [hn]
    exact ⟨by simp, by simp [namesE], fun s n => by simp, fun s hs => by simp at hs⟩
  size := fun j => by
    have h1 : Small f0 g0 := ⟨fun _ => zero_small, fun _ => zero_small⟩
    have a1 : allocA f0 g0 = 1 := by decide +kernel
    show (findV f0 (allocT f0 g0 1) j).s.size ≤ 128
    rw [alloc_find (by decide) (by omega), a1]
    split
    · show ByteArray.empty.size ≤ 128; decide
    · have h : vgetF f0 g0 (10, j) = zeroV := by unfold vgetF; split <;> rfl
      unfold findV
      rw [h]
      split
      · split <;> (show ByteArray.empty.size ≤ 128; decide)
      · show ByteArray.empty.size ≤ 128; decide
  nodot := fun s hs => by simp at hs

theorem MapIn.offK {κ ν : Type} {enc : κ → Value} {encv : ν → Value} {f : κ → Option ν} {B : Nat} {w : World} (h : MapIn enc encv B f w) {k o : Nat} {v : Value} (hc : w.cell? ⟨k, o, none⟩ = some v) : k ≠ B := by
  obtain ⟨es, clock, hb, _⟩ := h
  intro e
  subst e
  simp [World.cell?, hb] at hc
theorem srcK {x : Value} {xs : List Bs} {w w' : World} {X : Nat → Prop} (h : Nm.SrcS x xs w) (hk : Kept X w w') (hX : ∀ k o v, w.cell? ⟨k, o, none⟩ = some v → ¬ X k) : Nm.SrcS x xs w' := by
  rcases h with ⟨b, o, c, rfl, hb, hc⟩ | h
  · exact .inl ⟨b, o, c, rfl, Nat.lt_of_lt_of_le hb hk.size, fun j u hu => hk.cell (hc j u hu) (hX b _ _ (hc j u hu))⟩
  · exact .inr h

structure TabIn (w0 : World) (T p B q N O : Nat) (g : VwF) (o : Bs → Option Int) (w : World) : Prop where
  side : SideIn w0 T p B q N g w
  own : MapIn sv iv O o w
  nN : N ≠ O
  nB : B ≠ O
  lo : w0.heap.size ≤ O

section
variable {w0 : World} {T p B q N O : Nat} {g g' : VwF} {o o' : Bs → Option Int} {w w' : World}
theorem TabIn.still (h : TabIn w0 T p B q N O g o w) (hk : Kept (fun _ => False) w w') : TabIn w0 T p B q N O g o w' := { h with side := h.side.still hk, own := h.own.still hk }
theorem TabIn.view (h : TabIn w0 T p B q N O g o w) (hs : SideIn w0 T p B q N g' w') (hk : Kept (fun n => n = N) w w') : TabIn w0 T p B q N O g' o w' := { h with side := hs, own := h.own.kept hk (fun e => h.nN e.symm) }
theorem TabIn.put (h : TabIn w0 T p B q N O g o w) (hm : MapIn sv iv O o' w') (hk : Kept (fun n => n = O) w w') : TabIn w0 T p B q N O g o' w' :=
  { h with
    own := hm
    side := { h.side with
      v := h.side.v.kept hk (fun e => h.own.off h.side.v.cell e) h.nN
      s := h.side.s.kept hk (fun e => h.own.off h.side.s.cell e) h.nB
      t := hk.cell h.side.t (fun e => by
        obtain ⟨es, clock, hb, _⟩ := h.own
        have ht := h.side.t
        simp only at e
        subst e
        simp [World.cell?, hb] at ht)
      kept := h.side.kept.trans hk (fun k h1 h2 => by have := h.lo; omega) } }
end
end Go.Proofs.Ythonlakpgncinaa
