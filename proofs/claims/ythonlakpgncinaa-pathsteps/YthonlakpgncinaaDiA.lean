
/- Directories, the code's side; one view as a statement holds it; no conditions but lengths. -/
import Derived.Test.YthonlakpgncinaaInA
import Derived.Test.YthonlakpgncinaaNmA
import Derived.Test.YthonlakpgncinaaKeA
namespace Go.Proofs.Ythonlakpgncinaa
open Go.RowKit
set_option maxRecDepth 100000

abbrev E2 := Bs × Int
def hereB (n : Int) : Bool := decide (1 ≤ n) && decide (n < 16)
theorem here_iff {n : Int} : hereB n = true ↔ 1 ≤ n ∧ n < 16 := by simp [hereB]
def slc (l : Bs) (i : Nat) : Bs := (l.drop (i * 16)).take 16
def ent (l : Bs) (i : Nat) : E2 := (Nm.nameF (slc l i), Nm.ptrF (slc l i))
def nEnt (l : Bs) : Nat := min l.length 128 / 16
def entsF (l : Bs) : List E2 := (List.range (nEnt l)).map (ent l)
def isDirF (f : StF) (g : VwF) (d : Int) : Bool := decide ((findV f g d).n0 = 1)
def dirE (f : StF) (g : VwF) (d : Int) : List E2 := if isDirF f g d = true then entsF (bl (findV f g d).s) else []
def hasP (s : Bs) (e : E2) : Bool := hereB e.2 && decide (e.1 = s)
def gapP (e : E2) : Bool := !hereB e.2
def placeA (es : List E2) (s : Bs) : Int := if Nm.rightF s = true ∧ es.findIdx (hasP s) < es.length then (es.findIdx (hasP s) : Int) else -1
def gapA (es : List E2) : Nat := es.findIdx gapP

theorem find_again (g : VwF) (i : Int) : findT (findT g i) i = findT g i := by
  unfold findT
  split
  · exact (get_twice (f := fun _ => none)).2
  · rfl

theorem ents_len (l : Bs) : (entsF l).length = nEnt l := by simp [entsF]
theorem nEnt_le (l : Bs) : nEnt l ≤ 8 := by unfold nEnt; omega
theorem ents_at {l : Bs} {i : Nat} (h : i < nEnt l) : (entsF l)[i]? = some (ent l i) := by simp [entsF, h]
theorem dirE_le (f : StF) (g : VwF) (d : Int) : (dirE f g d).length ≤ 8 := by
  unfold dirE
  split
  · rw [ents_len]; exact nEnt_le _
  · exact Nat.zero_le _
theorem nEnt_take (l : Bs) : nEnt (l.take 128) = nEnt l := by unfold nEnt; rw [List.length_take]; omega
theorem slc_take {l : Bs} {i : Nat} (h : i < nEnt l) : slc (l.take 128) i = slc l i := by
  unfold slc
  unfold nEnt at h
  rw [List.drop_take, List.take_take, Nat.min_eq_left (by omega)]
theorem slc_len {l : Bs} {i : Nat} (h : i < nEnt l) : (slc l i).length = 16 := by
  unfold slc
  unfold nEnt at h
  simp; omega

/-- How far the first is that p holds of. -/
theorem find_is {α : Type} {p : α → Bool} {l : List α} {i : Nat} {a : α} (ha : l[i]? = some a) (hp : p a = true) (h : i ≤ l.findIdx p) : l.findIdx p = i := by
  obtain ⟨hi, rfl⟩ := List.getElem?_eq_some_iff.1 ha
  refine Nat.le_antisymm ?_ h
  apply Nat.le_of_not_lt
  intro hlt
  have := List.not_of_lt_findIdx hlt
  rw [hp] at this
  exact absurd this (by simp)
theorem find_on {α : Type} {p : α → Bool} {l : List α} {i : Nat} {a : α} (ha : l[i]? = some a) (hp : p a = false) (h : i ≤ l.findIdx p) : i + 1 ≤ l.findIdx p := by
  obtain ⟨hi, rfl⟩ := List.getElem?_eq_some_iff.1 ha
  apply Nat.lt_of_le_of_ne h
  intro e
  have hlt : l.findIdx p < l.length := by omega
  have := List.findIdx_getElem (w := hlt)
  simp only [← e] at this
  rw [hp] at this
  exact absurd this (by simp)
theorem find_end {α : Type} {p : α → Bool} {l : List α} (h : l.length ≤ l.findIdx p) : l.findIdx p = l.length := Nat.le_antisymm List.findIdx_le_length h

/-- The number that the name s has. -/
def foundE (es : List E2) (s : Bs) : Option Int := if Nm.rightF s = true ∧ es.findIdx (hasP s) < es.length then some (es.getD (es.findIdx (hasP s)) ([], 0)).2 else none
def foundV (o : Option Int) : Value := .tuple #[.int .i64 (o.getD 0), .bool o.isSome]
def addOk (f : StF) (g : VwF) (d : Int) (s : Bs) (i : Int) : Bool := isDirF f g d && Nm.rightF s && hereB i && (foundE (dirE f g d) s).isNone && decide (gapA (dirE f g d) < 8)
def addT (f : StF) (g : VwF) (d : Int) (s : Bs) (i : Int) : VwF := if addOk f g d s i = true then writeT f (findT g d) d ((gapA (dirE f g d) * 16 : Nat) : Int) (bs (Nm.packF s i)) else findT g d
def rmT (f : StF) (g : VwF) (d : Int) (s : Bs) : VwF := if (foundE (dirE f g d) s).isSome = true then writeT f (findT g d) d (((dirE f g d).findIdx (hasP s) * 16 : Nat) : Int) (bs (Nm.packF [] 0)) else findT g d
def namesE (es : List E2) : List Bs := (es.filter fun e => hereB e.2).map (·.1)
def bareE (es : List E2) : Bool := (namesE es).all fun s => decide (s = [46]) || decide (s = [46, 46])

theorem place_no {es : List E2} {s : Bs} (h : foundE es s = none) : placeA es s = -1 := by
  unfold foundE at h
  unfold placeA
  split at h
  · exact absurd h (by simp)
  · rename_i hn
    rw [if_neg hn]
theorem place_yes {es : List E2} {s : Bs} {n : Int} (h : foundE es s = some n) : placeA es s = es.findIdx (hasP s) ∧ es.findIdx (hasP s) < es.length ∧ (∃ e, es[es.findIdx (hasP s)]? = some e ∧ e.2 = n ∧ e.1 = s ∧ hereB n = true) ∧ Nm.rightF s = true := by
  unfold foundE at h
  unfold placeA
  split at h
  · rename_i hn
    rw [if_pos hn]
    refine ⟨rfl, hn.2, ⟨_, List.getElem?_eq_getElem hn.2, ?_⟩, hn.1⟩
    have hp := List.findIdx_getElem (w := hn.2)
    have he : es.getD (es.findIdx (hasP s)) ([], 0) = es[es.findIdx (hasP s)]'hn.2 := by simp [List.getD, hn.2]
    rw [he] at h
    simp only [hasP, Bool.and_eq_true, decide_eq_true_eq] at hp
    obtain rfl : _ = n := by simpa using h
    exact ⟨rfl, hp.2, hp.1⟩
  · exact absurd h (by simp)
theorem dirE_no {f : StF} {g : VwF} {d : Int} (h : isDirF f g d = false) : dirE f g d = [] := by unfold dirE; rw [if_neg (by simp [h])]
theorem gap_le {es : List E2} (h : es.length ≤ 8) : gapA es ≤ 8 := Nat.le_trans List.findIdx_le_length h
end Go.Proofs.Ythonlakpgncinaa

namespace Go.Proofs.Ythonlakpgncinaa
open Go.RowKit
set_option maxRecDepth 100000
set_option linter.unusedSimpArgs false

theorem ret_bool {a b : Bool} (h : a = b) : Ending.returned (.bool a) = .returned (.bool b) := by rw [h]

theorem dis_w (q N p B : Nat) (f : StF) (g : VwF) (d : Int) (w : World) (h : ViewIn q N p g w) (hs : StoreIn p B f w) (hNB : N ≠ B) : Calls Try.prog 19 #[.pointer (some ⟨q, 0, none⟩), .int .i64 d] w
    fun e w' => e = .returned (.bool (isDirF f g d)) ∧ ViewIn q N p (findT g d) w' ∧ Kept (fun n => n = N) w w' := by
  go_enter Try.func19, Try.ntmps19
  go_wp2_with fail
  refine (type_w q N p B f g d w h hs hNB).mono ?_
  rintro e w1 ⟨rfl, hv1, hk1⟩
  have HZ : Hid (ViewIn q N p (findT g d) w1 ∧ Kept (fun n => n = N) w w1) := ⟨hv1, hk1⟩
  clear hv1 hk1
  go_wp2
  go_ret
  exact ⟨ret_bool (by unfold isDirF; by_cases h : (findV f g d).n0 = 1 <;> simp [h]), HZ.out⟩

theorem isnum_w (n : Int) (w : World) : Calls Try.prog 54 #[.int .i64 n] w fun e w' => e = .returned (.bool (hereB n)) ∧ w' = w := by
  by_cases h1 : 1 ≤ n
  · by_cases h2 : n < 16
    · have e : hereB n = true := here_iff.2 ⟨h1, h2⟩
      rw [e]
      go_enter Try.func54, Try.ntmps54
      go_wp2
      go_ret
      exact ⟨rfl, rfl⟩
    · have e : hereB n = false := by simp [hereB]; omega
      rw [e]
      go_enter Try.func54, Try.ntmps54
      go_wp2
      go_ret
      exact ⟨rfl, rfl⟩
  · have e : hereB n = false := by simp [hereB]; omega
    rw [e]
    go_enter Try.func54, Try.ntmps54
    go_wp2
    go_ret
    exact ⟨rfl, rfl⟩

def ec (e : E2) : List Value := [.string (bs e.1), .int .i64 e.2]
def ev2 (e : E2) : Value := .agg (ec e).toArray
theorem ec_len (e : E2) : (ec e).length = 2 := rfl

theorem there2_w (e : E2) (w : World) : Calls Try.prog 70 #[ev2 e] w fun r w' => r = .returned (.bool (hereB e.2)) ∧ Kept (fun _ => False) w w' := by
  have hk : Kept (fun _ => False) w (w.alloc (.cells #[.string (bs e.1), .int .i64 e.2] 87)) := (Kept.refl _ _).alloc _
  unfold ev2 ec
  go_enter Try.func70, Try.ntmps70
  go_wp2_with fail
  refine (isnum_w e.2 _).mono ?_
  rintro r w1 ⟨rfl, rfl⟩
  go_wp2
  go_ret
  exact ⟨rfl, hk⟩

theorem info_entry : (Try.prog.info? 87).map (fun i => (i.zero, i.size, i.bytes)) = some (some (.agg #[.string ⟨#[]⟩, .int .i64 0]), 2, 24) := by kernel_rfl
def zE : E2 := ([], 0)
theorem made_cells : (Value.agg #[.string ⟨#[]⟩, .int .i64 0]).cells = #[.string ⟨#[]⟩, .int .i64 0] := by simp [Value.cells]
theorem made_ents (L : Nat) : madeCells (Value.agg #[.string ⟨#[]⟩, .int .i64 0]).cells (L * 2) = ((List.replicate L zE).flatMap ec).toArray := by
  rw [made_cells]
  apply Array.ext'
  apply List.ext_getElem?
  intro j
  have hf := flat_get ec 2 ec_len (List.replicate L zE) (j / 2) (j % 2) (by omega)
  rw [show j / 2 * 2 + j % 2 = j by omega] at hf
  show _ = (List.flatMap ec (List.replicate L zE))[j]?
  rw [hf]
  by_cases h : j < L * 2
  · rw [List.getElem?_replicate_of_lt (by omega)]
    simp only [madeCells, Array.toList_map, Array.toList_range, List.getElem?_map, List.getElem?_range h]
    have hm : j % 2 = 0 ∨ j % 2 = 1 := by omega
    show some ((#[Value.string ⟨#[]⟩, .int .i64 0] : Array Value)[j % 2]!) = (ec zE)[j % 2]?
    rcases hm with e | e <;> rw [e] <;> rfl
  · rw [List.getElem?_eq_none (by simp [madeCells]; omega), List.getElem?_eq_none (by simp; omega)]
    rfl
theorem make_ents (L : Nat) (hL : L ≤ 8) (w : World) : ∃ w', (Instr.makeSlice 83 (.int .i64 (L : Int)) (.int .i64 (L : Int))).run Try.prog w = .ok (.slice (some ⟨w.heap.size, 0, none⟩) L L) w' ∧
    w'.heap[w.heap.size]? = some (.cells ((List.replicate L zE).flatMap ec).toArray 87 (0, 0)) ∧ Kept (fun _ => False) w w' := by
  obtain ⟨i0, hi, hz0, hz1, hz2⟩ := info_parts info_entry
  obtain ⟨M, hM⟩ : ∃ M, M = madeCells (Value.agg #[.string ⟨#[]⟩, .int .i64 0]).cells (((L : Nat) : Int).toNat * i0.size) := ⟨_, rfl⟩
  have h := run_make (P := Try.prog) w 83 87 i0 (.agg #[.string ⟨#[]⟩, .int .i64 0]) Try.underlying83 hi hz0 .i64 .i64 (L : Int) (L : Int) (by omega) (by omega) (by rw [hz2]; omega) (by omega)
  rw [← hM] at h
  refine ⟨w.alloc (.cells M 87), by simpa using h, ?_, (Kept.refl _ _).alloc _⟩
  rw [alloc_at, hM, hz1, Int.toNat_natCast, made_ents L]

theorem ec_at {es : List E2} {i : Nat} {a : E2} (h : es[i]? = some a) : (es.flatMap ec).toArray[i * 2]? = some (.string (bs a.1)) ∧ (es.flatMap ec).toArray[i * 2 + 1]? = some (.int .i64 a.2) := by
  have h0 := flat_get ec 2 ec_len es i 0 (by omega)
  have h1 := flat_get ec 2 ec_len es i 1 (by omega)
  rw [h] at h0 h1
  rw [List.getElem?_toArray, List.getElem?_toArray]
  exact ⟨h0, h1⟩

/-- A slot of a row of entries is written. -/
theorem ents_set {es : List E2} {i : Nat} {e : E2} : (((es.flatMap ec).toArray.setIfInBounds (i * 2) (.string (bs e.1))).setIfInBounds (i * 2 + 1) (.int .i64 e.2)) = ((es.set i e).flatMap ec).toArray := by
  rw [List.setIfInBounds_toArray, List.setIfInBounds_toArray]
  congr 1
  induction es generalizing i with
  | nil => rfl
  | cons b es ih =>
    cases i with
    | zero => rfl
    | succ i =>
      have := ih (i := i)
      show (((ec b ++ es.flatMap ec)).set ((i + 1) * 2) _).set ((i + 1) * 2 + 1) _ = ec b ++ (es.set i e).flatMap ec
      rw [← this, show (i + 1) * 2 = i * 2 + 1 + 1 by omega]
      rfl

theorem row_src {w : World} {G : Nat} {es : List E2} (h : w.heap[G]? = some (.cells (es.flatMap ec).toArray 87 (0, 0))) : SrcR ec 2 (.slice (some ⟨G, 0, none⟩) es.length es.length) es w := by
  refine ⟨_, G, 0, es.length, rfl, (fun h => by cases h), fun _ => rfl, Nat.le_refl _, fun j a ha r v hv => ?_⟩
  have hr : r < 2 := by have := (List.getElem?_eq_some_iff.1 hv).1; rw [ec_len] at this; exact this
  rw [Nat.zero_add]
  refine cell_at h ?_
  rw [List.getElem?_toArray, flat_get ec 2 ec_len es j r hr, ha]
  exact hv

theorem fill_on {l : Bs} {i L : Nat} (hL : nEnt l = L) (hi : i < L) : ((entsF l).take i ++ List.replicate (L - i) zE).set i (ent l i) = (entsF l).take (i + 1) ++ List.replicate (L - (i + 1)) zE := by
  have h1 : ((entsF l).take i).length = i := by rw [List.length_take, ents_len]; omega
  have h2 : (entsF l).take (i + 1) = (entsF l).take i ++ [ent l i] := by
    rw [List.take_add_one, ents_at (by omega)]; rfl
  rw [h2, List.set_append, if_neg (by omega), h1, Nat.sub_self, show L - i = (L - (i + 1)) + 1 by omega, List.replicate_succ, List.append_assoc]
  rfl

set_option maxHeartbeats 1000000 in
theorem entries_w (q N p B : Nat) (f : StF) (g : VwF) (d : Int) (w : World) (h : ViewIn q N p g w) (hs : StoreIn p B f w) (hNB : N ≠ B) (hsz : (findV f g d).s.size ≤ 1000000) : Calls Try.prog 44 #[.pointer (some ⟨q, 0, none⟩), .int .i64 d] w
    fun e w' => ∃ v, e = .returned v ∧ SrcR ec 2 v (dirE f g d) w' ∧ ViewIn q N p (findT g d) w' ∧ Kept (fun n => n = N) w w' := by
  go_enter Try.func44, Try.ntmps44
  go_wp2_with fail
  refine (dis_w q N p B f g d w h hs hNB).mono ?_
  rintro e w1 ⟨rfl, hv1, hk1⟩
  have hN := hv1.map.lt
  have hN0 := h.map.lt
  have hq0 : q < w.heap.size := lt_at h.cell
  by_cases hd : isDirF f g d = true
  · have HD : Hid (dirE f g d = entsF (bl (findV f g d).s)) := by show _ = _; unfold dirE; rw [if_pos hd]
    rw [hd]
    have hs1 := hs.kept hk1 (fun e => h.map.off hs.cell e) (fun e => hNB e.symm)
    clear h hs
    go_wp2_with fail
    refine (read_w q N p B f (findT g d) d 0 128 w1 hv1 hs1 hNB (by rw [find_find]; exact hsz)).mono ?_
    rintro e w2 ⟨rfl, hv2, hk2⟩
    rw [find_find]
    obtain ⟨l, hl⟩ : ∃ l, bl (findV f g d).s = l := ⟨_, rfl⟩
    rw [hl] at HD
    obtain ⟨t, ht⟩ : ∃ t, partF (findV f g d).s 0 128 = t := ⟨_, rfl⟩
    rw [ht]
    have htl : bl t = l.take 128 := by rw [← ht, ← hl]; rfl
    have hts0 : t.size = min 128 l.length := by rw [← bl_len, htl, List.length_take]
    have hts : t.size / 16 = nEnt l := by rw [← bl_len, htl, List.length_take]; unfold nEnt; omega
    have hv2' : ViewIn q N p (findT g d) w2 := by rw [find_again] at hv2; exact hv2
    obtain ⟨L, hL⟩ : ∃ L, nEnt l = L := ⟨_, rfl⟩
    have hL8 : L ≤ 8 := by rw [← hL]; exact nEnt_le l
    obtain ⟨w3, hmk, hr3, k3⟩ := make_ents L (by omega) w2
    obtain ⟨G, hG⟩ : ∃ G, w2.heap.size = G := ⟨_, rfl⟩
    rw [hG] at hmk hr3
    have hq : ((t.size : Int)) / 16 = L := by omega
    have HT : Hid (t.size = min 128 l.length) := hts0
    clear hts0
    have HH : Hid (ViewIn q N p (findT g d) w3 ∧ Kept (fun n => n = N) w w3) := ⟨hv2'.still k3, (hk1.trans hk2 (fun _ _ e => e)).trans k3 (fun _ _ e => e.elim)⟩
    have lG : w.heap.size ≤ G ∧ w1.heap.size ≤ G := by have := hk1.size; have := hk2.size; omega
    clear ht hts hv1 hk1 hv2 hk2 hv2' k3 hs1
    go_wp2_with fail
    go_loopw [21] (fun v wr => ∃ i : Nat, v = .int .i64 i ∧ i ≤ L ∧ Hid (wr.heap[G]? = some (.cells (((entsF l).take i ++ List.replicate (L - i) zE).flatMap ec).toArray 87 (0, 0)) ∧ Kept (fun n => n = G) w3 wr)) (fun v _ => L - (intOf v).toNat)
    case atStart => exact ⟨0, rfl, by omega, hr3, Kept.refl _ _⟩
    case round =>
      obtain ⟨i, rfl, hi, HI⟩ := hrel
      clear hr3 hmk hq
      by_cases hlt : i < L
      · have t1 : (i : Int) < L := by omega
        obtain ⟨u, hu⟩ : ∃ u, t.extract (i * 16) ((i + 1) * 16) = u := ⟨_, rfl⟩
        obtain ⟨hb, hkI⟩ := HI.out
        have hlen : ((entsF l).take i ++ List.replicate (L - i) zE).length = L := by rw [List.length_append, List.length_take, List.length_replicate, ents_len]; omega
        have HS : Hid (((entsF l).take i ++ List.replicate (L - i) zE).set i (Nm.nameF (bl u), Nm.ptrF (bl u)) = (entsF l).take (i + 1) ++ List.replicate (L - (i + 1)) zE) := by
          show _ = _
          rw [← fill_on hL hlt]
          have : bl u = slc l i := by
            rw [← slc_take (by omega), ← htl, ← hu, bl_extract]
            unfold slc
            rw [show (i + 1) * 16 - i * 16 = 16 by omega]
          unfold ent
          rw [this]
        generalize (entsF l).take i ++ List.replicate (L - i) zE = es at *
        have e1 : ((i : Int) * 16).toNat = i * 16 := by omega
        have e2 : (((i : Int) + 1) * 16).toNat = (i + 1) * 16 := by omega
        have hb1 : (i + 1) * 16 ≤ t.size := by have := HT.out; unfold nEnt at hL; omega
        go_wp2_with fail
        refine (Nm.unpack_w u _).mono ?_
        rintro e w5 ⟨rfl, hk5⟩
        have hb5 := hk5.at hb (fun x => x)
        obtain ⟨a, ha⟩ : ∃ a, es[i]? = some a := ⟨_, List.getElem?_eq_getElem (by omega)⟩
        have c0 : w5.cell? ⟨G, i * 2, none⟩ = some (.string (bs a.1)) := cell_at hb5 (ec_at ha).1
        have c1 : w5.cell? ⟨G, i * 2 + 1, none⟩ = some (.int .i64 a.2) := cell_at hb5 (ec_at ha).2
        have f0 := free_at hb5 (i * 2)
        have f1 := free_at hb5 (i * 2 + 1)
        have hs0 := set_at hb5 (i * 2) (.string (bs (Nm.nameF (bl u))))
        have hs1 := set_at hs0 (i * 2 + 1) (.int .i64 (Nm.ptrF (bl u)))
        have k6 : Kept (fun n => n = G) w5 ((w5.setCell ⟨G, i * 2, none⟩ (.string (bs (Nm.nameF (bl u))))).setCell ⟨G, i * 2 + 1, none⟩ (.int .i64 (Nm.ptrF (bl u)))) := by refine Kept.setCell (Kept.setCell (Kept.refl _ _) ?_ _) ?_ _ <;> (intro _; rfl)
        rw [ents_set (e := (Nm.nameF (bl u), Nm.ptrF (bl u)))] at hs1
        have HN : Hid (((w5.setCell ⟨G, i * 2, none⟩ (.string (bs (Nm.nameF (bl u))))).setCell ⟨G, i * 2 + 1, none⟩ (.int .i64 (Nm.ptrF (bl u)))).heap[G]? = some (.cells ((es.set i (Nm.nameF (bl u), Nm.ptrF (bl u))).flatMap ec).toArray 87 (0, 0)) ∧
            Kept (fun n => n = G) w3 ((w5.setCell ⟨G, i * 2, none⟩ (.string (bs (Nm.nameF (bl u))))).setCell ⟨G, i * 2 + 1, none⟩ (.int .i64 (Nm.ptrF (bl u))))) :=
          ⟨hs1, (hkI.trans hk5 (fun _ _ e => e.elim)).trans k6 (fun _ _ e => e)⟩
        clear hs0 hs1 k6 HI hb hkI hk5 hb5
        go_wp2_with fail
        refine ⟨⟨i + 1, by go_num, by omega, ?_⟩, by simp [intOf]; omega⟩
        rw [← HS.out]
        exact HN
      · obtain rfl : i = L := by omega
        go_wp2
        go_ret
        refine ⟨_, rfl, ?_, HH.out.1.kept HI.out.2 (by omega) (by omega), HH.out.2.trans HI.out.2 (fun k h1 h2 => by omega)⟩
        have hl2 : (entsF l).length = i := by rw [ents_len]; exact hL
        rw [HD.out]
        have := row_src (es := entsF l) (w := wr) (G := G) (by have := HI.out.1; rw [Nat.sub_self, List.replicate_zero, List.append_nil, List.take_of_length_le (by omega)] at this; exact this)
        rw [hl2] at this
        exact this
  · have HD : Hid (dirE f g d = []) := by show _ = _; unfold dirE; rw [if_neg hd]
    obtain hd : isDirF f g d = false := by simpa using hd
    rw [hd]
    have HZ : Hid (ViewIn q N p (findT g d) w1 ∧ Kept (fun n => n = N) w w1) := ⟨hv1, hk1⟩
    clear hv1 hk1 h hs
    go_wp2
    go_ret
    exact ⟨_, rfl, by rw [HD.out]; exact SrcR.none _, HZ.out⟩
end Go.Proofs.Ythonlakpgncinaa

namespace Go.Proofs.Ythonlakpgncinaa
open Go.RowKit
set_option maxRecDepth 100000
set_option linter.unusedSimpArgs false

theorem place1_w (e : E2) (s : Bs) (S : Nat) (w : World) (hS : w.cell? ⟨S, 0, none⟩ = some (.string (bs s))) : Calls Try.prog 74 #[ev2 e, .pointer (some ⟨S, 0, none⟩)] w
    fun r w' => r = .returned (.bool (hasP s e)) ∧ Kept (fun _ => False) w w' := by
  obtain ⟨E, hE⟩ : ∃ E : Nat, w.heap.size = E := ⟨_, rfl⟩
  have hb : (w.alloc (.cells #[.string (bs e.1), .int .i64 e.2] 87)).heap[E]? = some (.cells #[.string (bs e.1), .int .i64 e.2] 87 (0, 0)) := alloc_at' _ hE
  have hk : Kept (fun _ => False) w (w.alloc (.cells #[.string (bs e.1), .int .i64 e.2] 87)) := (Kept.refl _ _).alloc _
  have hS2 := hk.cell hS (fun x => x)
  unfold ev2 ec
  go_enter Try.func74, Try.ntmps74
  go_wp2_with fail
  generalize w.alloc (.cells #[.string (bs e.1), .int .i64 e.2] 87) = wA at *
  have c0 : wA.cell? ⟨E, 0, none⟩ = some (.string (bs e.1)) := cell_at hb rfl
  have c1 : wA.cell? ⟨E, 1, none⟩ = some (.int .i64 e.2) := cell_at hb rfl
  refine (there2_w e wA).mono ?_
  rintro r w1 ⟨rfl, hk1⟩
  have d0 := hk1.cell c0 (fun x => x)
  have d1 := hk1.cell hS2 (fun x => x)
  have HK : Hid (Kept (fun _ => False) w w1) := hk.thru hk1
  have HP : Hid (hasP s e = (hereB e.2 && ((bs e.1).toList == (bs s).toList))) := by show _ = _; rw [Nm.str_eq]; rfl
  clear c0 c1 hb hk hk1 hS hS2
  cases hz : hereB e.2 with
  | false =>
    rw [hz] at HP
    go_wp2
    go_ret
    exact ⟨ret_bool (by rw [HP.out]; rfl), HK.out⟩
  | true =>
    rw [hz] at HP
    go_wp2
    go_ret
    exact ⟨ret_bool (by rw [HP.out]; simp), HK.out⟩

theorem src_at {α : Type} {cs : α → List Value} {n : Nat} {v : Value} {l : List α} {w : World} (h : SrcR cs n v l w) : ∃ ao b o c, v = .slice ao l.length c ∧ (0 < l.length → ao = some ⟨b, o, none⟩) ∧ ∀ j a, l[j]? = some a → w.rangeAt b (o + j * n) (cs a) := by
  obtain ⟨ao, b, o, c, e, -, h1, -, h2⟩ := h
  exact ⟨ao, b, o, c, e, h1, h2⟩
theorem ent_cells {w : World} {b o : Nat} {e : E2} (h : w.rangeAt b o (ec e)) : w.cell? ⟨b, o, none⟩ = some (.string (bs e.1)) ∧ w.cell? ⟨b, o + 1, none⟩ = some (.int .i64 e.2) := ⟨h 0 _ rfl, h 1 _ rfl⟩

set_option maxHeartbeats 1000000 in
theorem index_w (v : Value) (es : List E2) (hle : es.length ≤ 8) (s : Bs) (S : Nat) (w : World) (hv : SrcR ec 2 v es w) (hS : w.cell? ⟨S, 0, none⟩ = some (.string (bs s))) : Calls Try.prog 73 #[v, .func (.func 74) #[] #[.pointer (some ⟨S, 0, none⟩)]] w
    fun r w' => r = .returned (.int .i64 (if es.findIdx (hasP s) < es.length then (es.findIdx (hasP s) : Int) else -1)) ∧ Kept (fun _ => False) w w' := by
  obtain ⟨ao, b, o, c, rfl, hao, hc⟩ := src_at hv
  obtain ⟨L, hL⟩ : ∃ L, es.length = L := ⟨_, rfl⟩
  obtain ⟨K, hK⟩ : ∃ K, es.findIdx (hasP s) = K := ⟨_, rfl⟩
  rw [hL, hK]
  obtain ⟨A, hA⟩ : ∃ A : Int, (if K < L then (K : Int) else -1) = A := ⟨_, rfl⟩
  have HA : Hid (A = if K < L then (K : Int) else -1) := hA.symm
  rw [hA]
  clear hA
  rw [hL] at hao hle
  have HC : Hid (∀ j a, es[j]? = some a → w.rangeAt b (o + j * 2) (ec a)) := hc
  have H0 : Hid (Kept (fun _ => False) w w) := Kept.refl _ _
  have HX : Hid (w.cell? ⟨S, 0, none⟩ = some (.string (bs s))) := hS
  clear hv hc hS
  go_enter Try.func73, Try.ntmps73
  go_wp2_with fail
  go_loopw [8] (fun x wr => ∃ i : Nat, x = .int .i64 i ∧ i ≤ L ∧ Hid (i ≤ K ∧ Kept (fun _ => False) w wr)) (fun x _ => L - (intOf x).toNat)
  case atStart => exact ⟨0, rfl, by omega, by omega, H0.out⟩
  case round =>
    obtain ⟨i, rfl, hi, HI⟩ := hrel
    clear H0
    by_cases hlt : i < L
    · have t1 : (i : Int) < L := by omega
      obtain rfl := hao (by omega)
      obtain ⟨e, he⟩ : ∃ e, es[i]? = some e := ⟨_, List.getElem?_eq_getElem (by omega)⟩
      obtain ⟨c0, c1⟩ := ent_cells (HC.out i e he)
      have d0 := HI.out.2.cell c0 (fun x => x)
      have d1 := HI.out.2.cell c1 (fun x => x)
      clear c0 c1
      go_wp2_with fail
      refine (place1_w e s S _ (HI.out.2.cell HX.out (fun x => x))).mono ?_
      rintro r w1 ⟨rfl, hk1⟩
      have HK1 : Hid (Kept (fun _ => False) w w1) := HI.out.2.thru hk1
      cases hz : hasP s e with
      | false =>
        have hn := find_on he hz (by rw [hK]; exact HI.out.1)
        have HN : Hid (i + 1 ≤ K) := by show _ ≤ _; rw [← hK]; exact hn
        clear hn HI hk1 d0 d1
        go_wp2
        go_roundw
        case rel => exact ⟨i + 1, by go_num, by omega, HN.out, HK1.out⟩
        case measure => simp [intOf]; omega
      | true =>
        have hn := find_is he hz (by rw [hK]; exact HI.out.1)
        have HN : Hid (K = i) := by show _ = _; rw [← hK]; exact hn
        clear hn HI hk1 d0 d1
        go_wp2
        go_ret
        exact ⟨by rw [HA.out, HN.out, if_pos hlt]; rfl, HK1.out⟩
    · obtain rfl : i = L := by omega
      have HN : Hid (¬ K < i ∧ Kept (fun _ => False) w wr) := ⟨by have := HI.out.1; omega, HI.out.2⟩
      clear HI hao
      go_wp2
      go_ret
      exact ⟨by rw [HA.out, if_neg HN.out.1]; rfl, HN.out.2⟩

theorem dplace_w (v : Value) (es : List E2) (hle : es.length ≤ 8) (s : ByteArray) (hs : s.size ≤ 1000000) (w : World) (hv : SrcR ec 2 v es w) : Calls Try.prog 45 #[v, .string s] w
    fun r w' => r = .returned (.int .i64 (placeA es (bl s))) ∧ Kept (fun _ => False) w w' := by
  obtain ⟨A, hA⟩ : ∃ A, placeA es (bl s) = A := ⟨_, rfl⟩
  rw [hA]
  obtain ⟨E, hE⟩ : ∃ E : Nat, w.heap.size = E := ⟨_, rfl⟩
  have hk : Kept (fun _ => False) w (w.alloc (.cells #[.string s] 9)) := (Kept.refl _ _).alloc _
  have c0 : (w.alloc (.cells #[.string s] 9)).cell? ⟨E, 0, none⟩ = some (.string s) := cell_at (alloc_at' _ hE) rfl
  have hv1 := hv.kept hk
  go_enter Try.func45, Try.ntmps45
  go_wp2_with fail
  generalize w.alloc (.cells #[.string s] 9) = wA at *
  refine (Nm.right_w s hs wA).mono ?_
  rintro r w1 ⟨rfl, hw⟩
  subst hw
  cases hr : Nm.rightF (bl s) with
  | false =>
    have HP : Hid (A = -1) := by show _ = _; rw [← hA]; unfold placeA; rw [hr, if_neg (by simp)]
    have HK : Hid (Kept (fun _ => False) w w1) := hk
    clear hk hA
    go_wp2
    go_ret
    exact ⟨by rw [HP.out]; rfl, HK.out⟩
  | true =>
    have HP : A = if es.findIdx (hasP (bl s)) < es.length then (es.findIdx (hasP (bl s)) : Int) else -1 := by
      rw [← hA]
      unfold placeA
      by_cases h : es.findIdx (hasP (bl s)) < es.length
      · rw [if_pos ⟨hr, h⟩, if_pos h]
      · rw [if_neg (fun x => h x.2), if_neg h]
    have HI := index_w v es hle (bl s) E w1 hv1 (by rw [bs_bl]; exact c0)
    rw [← HP] at HI
    clear hv hv1 HP hA
    go_wp2_with fail
    refine HI.mono ?_
    rintro r w2 ⟨rfl, hk2⟩
    have HK : Hid (Kept (fun _ => False) w w2) := hk.thru hk2
    clear hk hk2 c0 HI
    go_wp2
    go_ret
    exact ⟨rfl, HK.out⟩

theorem dgap_w (v : Value) (es : List E2) (hle : es.length ≤ 8) (w : World) (hv : SrcR ec 2 v es w) : Calls Try.prog 55 #[v] w
    fun r w' => r = .returned (.int .i64 (gapA es)) ∧ Kept (fun _ => False) w w' := by
  obtain ⟨ao, b, o, c, rfl, hao, hc⟩ := src_at hv
  obtain ⟨L, hL⟩ : ∃ L, es.length = L := ⟨_, rfl⟩
  obtain ⟨K, hK⟩ : ∃ K, gapA es = K := ⟨_, rfl⟩
  rw [hL, hK]
  rw [hL] at hao hle
  have HC : Hid (∀ j a, es[j]? = some a → w.rangeAt b (o + j * 2) (ec a)) := hc
  have H0 : Hid (Kept (fun _ => False) w w) := Kept.refl _ _
  clear hv hc
  go_enter Try.func55, Try.ntmps55
  go_wp2_with fail
  go_loopw [7] (fun x wr => ∃ i : Nat, x = .int .i64 i ∧ i ≤ L ∧ Hid (i ≤ K ∧ Kept (fun _ => False) w wr)) (fun x _ => L - (intOf x).toNat)
  case atStart => exact ⟨0, rfl, by omega, by omega, H0.out⟩
  case round =>
    obtain ⟨i, rfl, hi, HI⟩ := hrel
    clear H0
    by_cases hlt : i < L
    · have t1 : (i : Int) < L := by omega
      obtain rfl := hao (by omega)
      obtain ⟨e, he⟩ : ∃ e, es[i]? = some e := ⟨_, List.getElem?_eq_getElem (by omega)⟩
      obtain ⟨c0, c1⟩ := ent_cells (HC.out i e he)
      have d0 := HI.out.2.cell c0 (fun x => x)
      have d1 := HI.out.2.cell c1 (fun x => x)
      obtain ⟨F, hF⟩ : ∃ F : Nat, wr.heap.size = F := ⟨_, rfl⟩
      have hbF : (wr.alloc (.cells #[.string (bs e.1), .int .i64 e.2] 87)).heap[F]? = some (.cells #[.string (bs e.1), .int .i64 e.2] 87 (0, 0)) := alloc_at' _ hF
      have hkF : Kept (fun _ => False) w (wr.alloc (.cells #[.string (bs e.1), .int .i64 e.2] 87)) := HI.out.2.alloc _
      have e0 := cell_at hbF (i := 0) rfl
      have e1 := cell_at hbF (i := 1) rfl
      clear c0 c1
      go_wp2_with fail
      clear hbF e0 e1 d0 d1
      refine (there2_w e _).mono ?_
      rintro r w1 ⟨rfl, hk1⟩
      have HK1 : Hid (Kept (fun _ => False) w w1) := hkF.thru hk1
      clear hk1 hkF
      cases hz : hereB e.2 with
      | true =>
        have hn := find_on he (p := gapP) (by unfold gapP; rw [hz]; rfl) (by show i ≤ gapA es; rw [hK]; exact HI.out.1)
        have HN : Hid (i + 1 ≤ K) := by show _ ≤ _; rw [← hK]; exact hn
        clear hn HI
        go_wp2
        go_roundw
        case rel => exact ⟨i + 1, by go_num, by omega, HN.out, HK1.out⟩
        case measure => simp [intOf]; omega
      | false =>
        have hn := find_is he (p := gapP) (by unfold gapP; rw [hz]; rfl) (by show i ≤ gapA es; rw [hK]; exact HI.out.1)
        have HN : Hid (K = i) := by show _ = _; rw [← hK]; exact hn
        clear hn HI
        go_wp2
        go_ret
        exact ⟨by rw [HN.out]; rfl, HK1.out⟩
    · obtain rfl : i = L := by omega
      have HN : Hid (K = i ∧ Kept (fun _ => False) w wr) := ⟨by have := HI.out.1; have h2 : gapA es ≤ es.length := List.findIdx_le_length; omega, HI.out.2⟩
      clear HI hao
      go_wp2
      go_ret
      exact ⟨by rw [HN.out.1]; rfl, HN.out.2⟩

theorem dput_w (q N p B : Nat) (f : StF) (g : VwF) (d : Int) (k : Nat) (hk8 : k ≤ 8) (s : ByteArray) (i : Int) (w : World) (h : ViewIn q N p g w) (hs : StoreIn p B f w) (hNB : N ≠ B) (hsz : (findV f g d).s.size ≤ 100000) :
    Calls Try.prog 56 #[.pointer (some ⟨q, 0, none⟩), .int .i64 d, .int .i64 k, .string s, .int .i64 i] w
    fun e w' => e = .returned (.tuple #[]) ∧ ViewIn q N p (writeT f g d ((k * 16 : Nat) : Int) (bs (Nm.packF (bl s) i))) w' ∧ Kept (fun n => n = N) w w' := by
  obtain ⟨t, ht⟩ : ∃ t, bs (Nm.packF (bl s) i) = t := ⟨_, rfl⟩
  have P := Nm.pack_w s i w
  rw [ht] at P ⊢
  clear ht
  go_enter Try.func56, Try.ntmps56
  go_wp2_with fail
  refine P.mono ?_
  rintro r w1 ⟨rfl, hk1⟩
  go_wp2_with fail
  have e16 : ((k : Int) * 16) = ((k * 16 : Nat) : Int) := by omega
  clear P
  rw [e16]
  refine (write_w q N p B f g d ((k * 16 : Nat) : Int) _ w1 (h.still hk1) (hs.still hk1) hNB hsz).mono ?_
  rintro r w2 ⟨rfl, hv2, hk2⟩
  have HZ : Hid (ViewIn q N p (writeT f g d ((k * 16 : Nat) : Int) t) w2 ∧ Kept (fun n => n = N) w w2) := ⟨hv2, (hk1.mono (fun _ _ e => e.elim)).trans hk2 (fun _ _ e => e)⟩
  clear hv2 hk2 hk1 h hs e16
  generalize writeA f g d ((k * 16 : Nat) : Int) t = A at *
  go_wp2
  go_end0
  exact ⟨rfl, HZ.out⟩

theorem dfind_w (q N p B : Nat) (f : StF) (g : VwF) (d : Int) (s : ByteArray) (hs0 : s.size ≤ 1000000) (w : World) (h : ViewIn q N p g w) (hs : StoreIn p B f w) (hNB : N ≠ B) (hsz : (findV f g d).s.size ≤ 100000) :
    Calls Try.prog 18 #[.pointer (some ⟨q, 0, none⟩), .int .i64 d, .string s] w
    fun e w' => e = .returned (foundV (foundE (dirE f g d) (bl s))) ∧ ViewIn q N p (findT g d) w' ∧ Kept (fun n => n = N) w w' := by
  have E := entries_w q N p B f g d w h hs hNB (by omega)
  obtain ⟨es, hes⟩ : ∃ es, dirE f g d = es := ⟨_, rfl⟩
  have hle := dirE_le f g d
  rw [hes] at E hle ⊢
  clear hes
  obtain ⟨fo, hfo⟩ : ∃ fo, foundE es (bl s) = fo := ⟨_, rfl⟩
  rw [hfo]
  go_enter Try.func18, Try.ntmps18
  go_wp2_with fail
  refine E.mono ?_
  rintro r w1 ⟨v, rfl, hv, hv1, hk1⟩
  clear h hs E
  go_wp2_with fail
  refine (dplace_w v es hle s hs0 w1 hv).mono ?_
  rintro r w2 ⟨rfl, hk2⟩
  have HZ : Hid (ViewIn q N p (findT g d) w2 ∧ Kept (fun n => n = N) w w2) := ⟨hv1.still hk2, hk1.trans hk2 (fun _ _ e => e.elim)⟩
  have hv2 := hv.kept hk2
  clear hk1 hk2 hv hv1
  cases fo with
  | none =>
    have hf := hfo
    rw [place_no hf]
    clear hv2 hf hfo
    go_wp2
    go_ret2
    exact ⟨rfl, HZ.out⟩
  | some n =>
    have hf := hfo
    obtain ⟨hp, hlt, ⟨e, he, rfl, -, -⟩, -⟩ := place_yes hf
    rw [hp]
    generalize es.findIdx (hasP (bl s)) = K at *
    obtain ⟨ao, b, o, c, rfl, hao, hc⟩ := src_at hv2
    obtain ⟨L, hL⟩ : ∃ L, es.length = L := ⟨_, rfl⟩
    rw [hL] at hao hlt ⊢
    obtain rfl := hao (by omega)
    obtain ⟨c0, c1⟩ := ent_cells (hc K e he)
    have t1 : ¬ (K : Int) = -1 := by omega
    have t2 : (K : Int) < L := by omega
    clear hc hv2 hf hp hfo
    go_wp2
    go_ret2
    exact ⟨rfl, HZ.out⟩

set_option maxHeartbeats 1000000 in
theorem dadd_w (q N p B : Nat) (f : StF) (g : VwF) (d : Int) (s : ByteArray) (hs0 : s.size ≤ 1000000) (i : Int) (w : World) (h : ViewIn q N p g w) (hs : StoreIn p B f w) (hNB : N ≠ B) (hsz : (findV f g d).s.size ≤ 100000) :
    Calls Try.prog 22 #[.pointer (some ⟨q, 0, none⟩), .int .i64 d, .string s, .int .i64 i] w
    fun e w' => e = .returned (.bool (addOk f g d (bl s) i)) ∧ ViewIn q N p (addT f g d (bl s) i) w' ∧ Kept (fun n => n = N) w w' := by
  obtain ⟨ok, hok⟩ : ∃ ok, addOk f g d (bl s) i = ok := ⟨_, rfl⟩
  have HA : Hid (addT f g d (bl s) i = if ok = true then writeT f (findT g d) d ((gapA (dirE f g d) * 16 : Nat) : Int) (bs (Nm.packF (bl s) i)) else findT g d) := by show _ = _; unfold addT; rw [hok]
  have HO : Hid (ok = (isDirF f g d && Nm.rightF (bl s) && hereB i && (foundE (dirE f g d) (bl s)).isNone && decide (gapA (dirE f g d) < 8))) := by show _ = _; rw [← hok]; rfl
  rw [hok]
  clear hok
  go_enter Try.func22, Try.ntmps22
  go_wp2_with fail
  refine (dis_w q N p B f g d w h hs hNB).mono ?_
  rintro r w1 ⟨rfl, hv1, hk1⟩
  have hs1 := hs.kept hk1 (fun e => h.map.off hs.cell e) (fun e => hNB e.symm)
  clear h hs
  have R := Nm.right_w s hs0 w1
  have I := isnum_w i w1
  cases hd : isDirF f g d with
  | false =>
    have HZ : Hid (ok = false ∧ ViewIn q N p (addT f g d (bl s) i) w1 ∧ Kept (fun n => n = N) w w1) := by
      have : ok = false := by rw [HO.out, hd]; rfl
      exact ⟨this, by rw [HA.out, this]; exact hv1, hk1⟩
    clear hv1 hk1 hs1 HO HA
    go_wp2
    go_ret
    exact ⟨by rw [HZ.out.1]; rfl, HZ.out.2⟩
  | true =>
    go_wp2_with fail
    refine R.mono ?_
    rintro r w1' ⟨rfl, hw⟩
    subst hw
    cases hr : Nm.rightF (bl s) with
    | false =>
      have HZ : Hid (ok = false ∧ ViewIn q N p (addT f g d (bl s) i) w1' ∧ Kept (fun n => n = N) w w1') := by
        have : ok = false := by rw [HO.out, hd, hr]; rfl
        exact ⟨this, by rw [HA.out, this]; exact hv1, hk1⟩
      clear hv1 hk1 hs1 HO HA
      go_wp2
      go_ret
      exact ⟨by rw [HZ.out.1]; rfl, HZ.out.2⟩
    | true =>
      go_wp2_with fail
      refine I.mono ?_
      rintro r w1'' ⟨rfl, hw⟩
      subst hw
      cases hi : hereB i with
      | false =>
        have HZ : Hid (ok = false ∧ ViewIn q N p (addT f g d (bl s) i) w1'' ∧ Kept (fun n => n = N) w w1'') := by
          have : ok = false := by rw [HO.out, hd, hr, hi]; rfl
          exact ⟨this, by rw [HA.out, this]; exact hv1, hk1⟩
        clear hv1 hk1 hs1 HO HA
        go_wp2
        go_ret
        exact ⟨by rw [HZ.out.1]; rfl, HZ.out.2⟩
      | true =>
        clear R I
        have HO2 : Hid (ok = ((foundE (dirE f g d) (bl s)).isNone && decide (gapA (dirE f g d) < 8))) := by show _ = _; rw [HO.out, hd, hr, hi]; rfl
        clear HO hd hr hi
        go_wp2_with fail
        refine (entries_w q N p B f (findT g d) d w1'' hv1 hs1 hNB (by rw [find_find]; omega)).mono ?_
        rintro r w2 ⟨v, rfl, hv, hv2, hk2⟩
        have he : dirE f (findT g d) d = dirE f g d := by unfold dirE isDirF; rw [find_find]
        rw [he] at hv
        rw [find_again] at hv2
        have hs2 := hs1.kept hk2 (fun e => hv1.map.off hs1.cell e) (fun e => hNB e.symm)
        obtain ⟨es, hes⟩ : ∃ es, dirE f g d = es := ⟨_, rfl⟩
        have hle := dirE_le f g d
        rw [hes] at hv hle HO2 HA
        have HK2 : Hid (Kept (fun n => n = N) w w2) := hk1.trans hk2 (fun _ _ e => e)
        clear hes he hv1 hs1 hk1 hk2
        go_wp2_with fail
        refine (dgap_w v es hle w2 hv).mono ?_
        rintro r w3 ⟨rfl, hk3⟩
        have hgl := gap_le hle
        generalize gapA es = K at *
        go_wp2_with fail
        refine (dplace_w v es hle s hs0 w3 (hv.kept hk3)).mono ?_
        rintro r w4 ⟨rfl, hk4⟩
        have hk34 := hk3.thru hk4
        have hv4 := hv2.still hk34
        have hs4 := hs2.still hk34
        have HK4 : Hid (Kept (fun n => n = N) w w4) := HK2.out.trans hk34 (fun _ _ e => e.elim)
        clear hk3 hk4 hk34 hv hv2 hs2 HK2
        cases hf : foundE es (bl s) with
        | some n =>
          obtain ⟨hp, hlt, -, -⟩ := place_yes hf
          rw [hp]
          have HZ : Hid (ok = false ∧ ViewIn q N p (addT f g d (bl s) i) w4) := by
            have : ok = false := by rw [HO2.out, hf]; rfl
            exact ⟨this, by rw [HA.out, this]; exact hv4⟩
          generalize es.findIdx (hasP (bl s)) = J at *
          have t1 : ¬ (J : Int) = -1 := by omega
          clear hv4 hs4 HO2 HA hf hp
          go_wp2
          go_ret
          exact ⟨by rw [HZ.out.1]; rfl, HZ.out.2, HK4.out⟩
        | none =>
          rw [place_no hf]
          by_cases hK : K = 8
          · have HZ : Hid (ok = false ∧ ViewIn q N p (addT f g d (bl s) i) w4) := by
              have : ok = false := by rw [HO2.out, hf, hK]; rfl
              exact ⟨this, by rw [HA.out, this]; exact hv4⟩
            subst hK
            clear hv4 hs4 HO2 HA hf
            go_wp2
            go_ret
            exact ⟨by rw [HZ.out.1]; rfl, HZ.out.2, HK4.out⟩
          · have hok : ok = true := by rw [HO2.out, hf, decide_eq_true (by omega : K < 8)]; rfl
            rw [hok, if_pos rfl] at HA
            have t1 : ¬ (K : Int) = 8 := by omega
            clear HO2 hf
            go_wp2_with fail
            refine (dput_w q N p B f (findT g d) d K (by omega) s i w4 hv4 hs4 hNB (by rw [find_find]; exact hsz)).mono ?_
            rintro r w5 ⟨rfl, hv5, hk5⟩
            have HZ : Hid (ViewIn q N p (addT f g d (bl s) i) w5 ∧ Kept (fun n => n = N) w w5) := ⟨by rw [HA.out]; exact hv5, HK4.out.trans hk5 (fun _ _ e => e)⟩
            clear hv4 hs4 hv5 hk5
            go_wp2
            go_ret
            exact ⟨by rw [hok]; rfl, HZ.out⟩
end Go.Proofs.Ythonlakpgncinaa

namespace Go.Proofs.Ythonlakpgncinaa
open Go.RowKit
set_option maxRecDepth 100000
set_option linter.unusedSimpArgs false

theorem names_len (es : List E2) : (namesE es).length ≤ es.length := by
  unfold namesE
  rw [List.length_map]
  exact List.length_filter_le _ _
theorem names_next {es : List E2} {i : Nat} {e : E2} (h : es[i]? = some e) : namesE (es.take (i + 1)) = namesE (es.take i) ++ if hereB e.2 = true then [e.1] else [] := by
  unfold namesE
  rw [List.take_add_one, h, List.filter_append, List.map_append]
  congr 1
  by_cases hh : hereB e.2 = true <;> simp [hh]

set_option maxHeartbeats 1000000 in
theorem dnames_w (q N p B : Nat) (f : StF) (g : VwF) (d : Int) (w : World) (h : ViewIn q N p g w) (hs : StoreIn p B f w) (hNB : N ≠ B) (hsz : (findV f g d).s.size ≤ 100000) :
    Calls Try.prog 43 #[.pointer (some ⟨q, 0, none⟩), .int .i64 d] w
    fun e w' => ∃ v, e = .returned v ∧ Nm.SrcS v (namesE (dirE f g d)) w' ∧ ViewIn q N p (findT g d) w' ∧ Kept (fun n => n = N) w w' := by
  have E := entries_w q N p B f g d w h hs hNB (by omega)
  obtain ⟨es, hes⟩ : ∃ es, dirE f g d = es := ⟨_, rfl⟩
  have hle := dirE_le f g d
  rw [hes] at E hle ⊢
  clear hes
  go_enter Try.func43, Try.ntmps43
  go_wp2_with fail
  refine E.mono ?_
  rintro r w1 ⟨v, rfl, hv, hv1, hk1⟩
  clear h hs E
  have HZ : Hid (ViewIn q N p (findT g d) w1 ∧ Kept (fun n => n = N) w w1) := ⟨hv1, hk1⟩
  clear hv1 hk1
  obtain ⟨ao, b, o, c, rfl, hao, hc⟩ := src_at hv
  obtain ⟨L, hL⟩ : ∃ L, es.length = L := ⟨_, rfl⟩
  rw [hL] at hao hle ⊢
  have HC : Hid (∀ j a, es[j]? = some a → w1.rangeAt b (o + j * 2) (ec a)) := hc
  have H0 : Hid (Nm.OwnS w1 (.slice none 0 0) (namesE (es.take 0)) w1) := Nm.OwnS.nil w1
  clear hv hc
  go_wp2_with fail
  go_loopw [5, 12] (fun v x wr => ∃ i : Nat, x = .int .i64 i ∧ i ≤ L ∧ Hid (Nm.OwnS w1 v (namesE (es.take i)) wr)) (fun _ x _ => L - (intOf x).toNat)
  case atStart => exact ⟨0, rfl, by omega, H0.out⟩
  case round =>
    obtain ⟨i, rfl, hi, HI⟩ := hrel
    clear H0
    by_cases hlt : i < L
    · have t1 : (i : Int) < L := by omega
      obtain rfl := hao (by omega)
      obtain ⟨e, he⟩ : ∃ e, es[i]? = some e := ⟨_, List.getElem?_eq_getElem (by omega)⟩
      obtain ⟨c0, c1⟩ := ent_cells (HC.out i e he)
      have d0 := HI.out.kept.cell c0 (fun x => x)
      have d1 := HI.out.kept.cell c1 (fun x => x)
      obtain ⟨F, hF⟩ : ∃ F : Nat, wr.heap.size = F := ⟨_, rfl⟩
      have hbF : (wr.alloc (.cells #[.string (bs e.1), .int .i64 e.2] 87)).heap[F]? = some (.cells #[.string (bs e.1), .int .i64 e.2] 87 (0, 0)) := alloc_at' _ hF
      have HO1 := HI.out.alloc (.cells #[.string (bs e.1), .int .i64 e.2] 87)
      have e0 := cell_at hbF (i := 0) rfl
      have e1 := cell_at hbF (i := 1) rfl
      have hlen : Hid ((namesE (es.take i)).length ≤ 8) := by have := names_len (es.take i); rw [List.length_take] at this; show _ ≤ _; omega
      have HN := names_next he
      clear c0 c1
      go_wp2_with fail
      refine (there2_w e _).mono ?_
      rintro r w2 ⟨rfl, hk2⟩
      have HO2 := HO1.still hk2
      have f0 := hk2.cell e0 (fun x => x)
      clear hbF e0 e1 d0 d1 HO1 hk2 HI
      cases hz : hereB e.2 with
      | false =>
        rw [hz, if_neg (by simp), List.append_nil] at HN
        have HQ : Hid (Nm.OwnS w1 u5 (namesE (es.take (i + 1))) w2) := by show Nm.OwnS _ _ _ _; rw [HN]; exact HO2
        clear HN HO2 f0
        go_wp2
        go_roundw
        case rel => exact ⟨i + 1, by go_num, by omega, HQ.out⟩
        case measure => simp [intOf]; omega
      | true =>
        rw [hz, if_pos rfl] at HN
        have HN2 : Hid (namesE (es.take (i + 1)) = namesE (es.take i) ++ [e.1]) := HN
        have HQ : Hid (Nm.OwnS w1 u5 (namesE (es.take i)) (w2.alloc (.cells #[.string (bs e.1)] 9))) := HO2.alloc _
        have HS : Hid (Nm.SrcS (.slice (some ⟨w2.heap.size, 0, none⟩) 1 1) [e.1] (w2.alloc (.cells #[.string (bs e.1)] 9))) := Nm.SrcS.row (l := [e.1]) (alloc_at _ _) (by simp [Nm.strs]) 1
        clear HN HO2
        go_wp2_with (at_builtin; refine Nm.list_app rfl _ _ rfl w1 (namesE (es.take i)) [e.1] HQ.out HS.out (by have := hlen.out; simp; omega) ?_; intro v w4 h4 _)
        have HQ4 : Hid (Nm.OwnS w1 v (namesE (es.take (i + 1))) w4) := by show Nm.OwnS _ _ _ _; rw [HN2.out]; exact h4
        clear h4 HQ HS HN2 f0
        go_wp2
        go_roundw
        case rel => exact ⟨i + 1, by go_num, by omega, HQ4.out⟩
        case measure => simp [intOf]; omega
    · obtain rfl : i = L := by omega
      have HR : Hid (Nm.SrcS u5 (namesE es) wr ∧ ViewIn q N p (findT g d) wr ∧ Kept (fun n => n = N) w wr) := by
        have := HI.out.src
        rw [List.take_of_length_le (by omega)] at this
        exact ⟨this, HZ.out.1.still HI.out.kept, HZ.out.2.trans HI.out.kept (fun _ _ e => e.elim)⟩
      clear HI HZ
      go_wp2
      go_ret
      exact ⟨_, rfl, HR.out⟩

def dotP (s : Bs) : Bool := decide (s = [46]) || decide (s = [46, 46])
theorem bare_is (es : List E2) : bareE es = (namesE es).all dotP := rfl

end Go.Proofs.Ythonlakpgncinaa

namespace Go.Proofs.Ythonlakpgncinaa
open Go.RowKit
set_option maxRecDepth 100000

/-- No object that the store or the view has has many bytes. -/
structure Small (f : StF) (g : VwF) : Prop where
  s : ∀ k, (lookF f k).s.size ≤ 200
  v : ∀ k, (noteF g k).2.2.s.size ≤ 200

theorem zero_small : zeroV.s.size ≤ 200 := by decide
section
variable {f : StF} {g : VwF}
theorem Small.val (h : Small f g) (k : K2) : (vgetF f g k).s.size ≤ 200 := by
  unfold vgetF
  split
  · split
    · exact h.v k
    · exact h.s k
  · exact zero_small
theorem Small.found (h : Small f g) (i : Int) : (findV f g i).s.size ≤ 200 := by
  unfold findV
  split
  · split
    · exact zero_small
    · exact h.val _
  · exact zero_small
theorem Small.get (h : Small f g) (k : K2) : Small f (vgetT g k) := by
  refine ⟨h.s, fun j => ?_⟩
  by_cases hk : 0 ≤ plc k
  · rw [note_get hk]
    split
    · exact h.v k
    · exact h.v j
  · unfold vgetT; rw [if_neg hk]; exact h.v j
theorem Small.put (h : Small f g) (k : K2) {x : V} (hx : x.s.size ≤ 200) : Small f (vputT g k x) := by
  refine ⟨h.s, fun j => ?_⟩
  by_cases hk : 0 ≤ plc k
  · rw [note_put hk]
    split
    · exact hx
    · exact h.v j
  · unfold vputT; rw [if_neg hk]; exact h.v j
theorem Small.find (h : Small f g) (i : Int) : Small f (findT g i) := by unfold findT; split; exact h.get _; exact h
theorem Small.alloc (h : Small f g) (typ : Int) : Small f (allocT f g typ) := by
  unfold allocT
  split
  · exact ((h.get _).put (9, 0) (x := withN (vgetF f g (9, 0)) (orN (vgetF f g (9, 0)).n0 (allocA f g))) (h.val (9, 0))).put (10, allocA f g) (x := numV typ) (by show ByteArray.empty.size ≤ 200; decide)
  · exact h.get _
theorem Small.change (h : Small f g) (i a b : Int) : Small f (changeT f g i a b) := by
  unfold changeT
  split
  · split
    · exact (h.find i).put _ (h.found i)
    · have h1 : Small f (vputT (findT g i) (10, i) zeroV) := (h.find i).put _ zero_small
      exact (h1.get _).put _ (h1.val (9, 0))
  · exact h.find i
theorem Small.write (h : Small f g) (i off : Int) (d : ByteArray) : Small f (writeT f g i off d) := by
  unfold writeT
  split
  · rename_i hok
    obtain ⟨-, h1, h2, h3⟩ := wr_is hok
    have hs : (overF (findV f g i).s off.toNat (cutD d off.toNat)).size ≤ 200 := by
      rw [over_size _ _ _ (by omega), cutD_size]
      have := h.found i
      omega
    exact (h.find i).put (10, i) (x := withS (findV f g i) (overF (findV f g i).s off.toNat (cutD d off.toNat))) hs
  · exact h.find i
theorem small_put {f : StF} {l : Ws} (hf : ∀ k, (lookF f k).s.size ≤ 200) (hl : ∀ t ∈ l, t.2.s.size ≤ 200) (k : K2) : (lookF (putAll f l) k).s.size ≤ 200 := by
  induction l generalizing f with
  | nil => exact hf k
  | cons t l ih =>
    show (lookF (putAll (putF f t.1 t.2) l) k).s.size ≤ 200
    refine ih (fun j => ?_) (fun u hu => hl u (List.mem_cons_of_mem _ hu))
    rw [look_put]
    split
    · exact hl t List.mem_cons_self
    · exact hf j
theorem Small.redo (h : Small f g) : Small (putAll f (redoF g)) (fun _ => none) := by
  refine ⟨fun k => small_put h.s (fun t ht => ?_) k, fun k => zero_small⟩
  unfold redoF at ht
  obtain ⟨j, -, rfl⟩ := List.mem_map.1 ht
  exact h.v j
theorem small_init (Q : Nat → K2 × V) (n : Nat) : Small (initF Q n) (fun _ => none) := ⟨initF_small Q n, fun _ => zero_small⟩
end
theorem Small.add {f : StF} {g : VwF} (h : Small f g) (d : Int) (s : Bs) (i : Int) : Small f (addT f g d s i) := by
  unfold addT
  split
  · exact (h.find d).write _ _ _
  · exact h.find d
theorem Small.rm {f : StF} {g : VwF} (h : Small f g) (d : Int) (s : Bs) : Small f (rmT f g d s) := by
  unfold rmT
  split
  · exact (h.find d).write _ _ _
  · exact h.find d
end Go.Proofs.Ythonlakpgncinaa

namespace Go.Proofs.Ythonlakpgncinaa
open Go.RowKit
set_option maxRecDepth 100000

def f0 : StF := fun _ => none
def g0 : VwF := fun _ => none

structure SideIn (w0 : World) (T p B q N : Nat) (g : VwF) (w : World) : Prop where
  v : ViewIn q N p g w
  s : StoreIn p B f0 w
  t : w.cell? ⟨T, 1, none⟩ = some (.pointer (some ⟨q, 0, none⟩))
  ne : N ≠ B
  tn : T ≠ N
  kept : Kept (fun _ => False) w0 w
  nN : w0.heap.size ≤ N
  sm : Small f0 g

section
variable {w0 : World} {T p B q N : Nat} {g g' : VwF} {w w' : World}
theorem SideIn.still (h : SideIn w0 T p B q N g w) (hk : Kept (fun _ => False) w w') : SideIn w0 T p B q N g w' := { h with v := h.v.still hk, s := h.s.still hk, t := hk.cell h.t (fun x => x), kept := h.kept.thru hk }
theorem SideIn.put (h : SideIn w0 T p B q N g w) (hv : ViewIn q N p g' w') (hm : Small f0 g') (hk : Kept (fun n => n = N) w w') : SideIn w0 T p B q N g' w' :=
  { h with v := hv, s := h.s.kept hk (fun e => h.v.map.off h.s.cell e) (fun e => h.ne e.symm), t := hk.cell h.t h.tn, kept := h.kept.trans hk (fun k h1 h2 => by have := h.nN; omega), sm := hm }
theorem SideIn.few (h : SideIn w0 T p B q N g w) (d : Int) : (findV f0 g d).s.size ≤ 100000 := by have := h.sm.found d; omega

theorem KeepIn.side {rp rB rq R W : Nat} {f2 : StF} {g2 : VwF} (h : KeepIn w0 T p B q N rp rB rq R W f0 f2 g g2 w) (hm : Small f0 g) : SideIn w0 T p B q N g w :=
  ⟨h.game.v, h.game.s, h.cells.2.1, h.nB, h.game.v.map.off h.cell, h.game.kept, h.game.nN, hm⟩

theorem side_new (w : World) : Calls Try.prog 10 #[.slice none 0 0] w fun e w' => ∃ T p B q N, e = .returned (.pointer (some ⟨T, 0, none⟩)) ∧ SideIn w T p B q N g0 w' ∧ w.heap.size ≤ T := by
  refine (keepnew_w none 0 0 0 0 (fun _ => ((0, 0), zeroV)) (fun h => by omega) w (fun i hi => by omega)).mono ?_
  rintro e w1 ⟨T, p, B, q, N, rp, rB, rq, R, W, rfl, h, hT⟩
  exact ⟨T, p, B, q, N, rfl, h.side ⟨fun _ => zero_small, fun _ => zero_small⟩, hT⟩

theorem side_alloc (h : SideIn w0 T p B q N g w) (typ : Int) : Calls Try.prog 21 #[.pointer (some ⟨q, 0, none⟩), .int .i64 typ] w
    fun e w' => e = .returned (allocV (allocA f0 g)) ∧ SideIn w0 T p B q N (allocT f0 g typ) w' ∧ Kept (fun n => n = N) w w' := by
  refine (alloc_w q N p B f0 g typ w h.v h.s h.ne).mono ?_
  rintro e w1 ⟨rfl, hv, hk⟩
  exact ⟨rfl, h.put hv (h.sm.alloc typ) hk, hk⟩

theorem side_type (h : SideIn w0 T p B q N g w) (i : Int) : Calls Try.prog 46 #[.pointer (some ⟨q, 0, none⟩), .int .i64 i] w
    fun e w' => e = .returned (.int .i64 (findV f0 g i).n0) ∧ SideIn w0 T p B q N (findT g i) w' ∧ Kept (fun n => n = N) w w' := by
  refine (type_w q N p B f0 g i w h.v h.s h.ne).mono ?_
  rintro e w1 ⟨rfl, hv, hk⟩
  exact ⟨rfl, h.put hv (h.sm.find i) hk, hk⟩

theorem side_dis (h : SideIn w0 T p B q N g w) (d : Int) : Calls Try.prog 19 #[.pointer (some ⟨q, 0, none⟩), .int .i64 d] w
    fun e w' => e = .returned (.bool (isDirF f0 g d)) ∧ SideIn w0 T p B q N (findT g d) w' ∧ Kept (fun n => n = N) w w' := by
  refine (dis_w q N p B f0 g d w h.v h.s h.ne).mono ?_
  rintro e w1 ⟨rfl, hv, hk⟩
  exact ⟨rfl, h.put hv (h.sm.find d) hk, hk⟩

theorem side_dfind (h : SideIn w0 T p B q N g w) (d : Int) (s : ByteArray) (hs : s.size ≤ 1000000) : Calls Try.prog 18 #[.pointer (some ⟨q, 0, none⟩), .int .i64 d, .string s] w
    fun e w' => e = .returned (foundV (foundE (dirE f0 g d) (bl s))) ∧ SideIn w0 T p B q N (findT g d) w' ∧ Kept (fun n => n = N) w w' := by
  refine (dfind_w q N p B f0 g d s hs w h.v h.s h.ne (h.few d)).mono ?_
  rintro e w1 ⟨rfl, hv, hk⟩
  exact ⟨rfl, h.put hv (h.sm.find d) hk, hk⟩

theorem side_dadd (h : SideIn w0 T p B q N g w) (d : Int) (s : ByteArray) (hs : s.size ≤ 1000000) (i : Int) : Calls Try.prog 22 #[.pointer (some ⟨q, 0, none⟩), .int .i64 d, .string s, .int .i64 i] w
    fun e w' => e = .returned (.bool (addOk f0 g d (bl s) i)) ∧ SideIn w0 T p B q N (addT f0 g d (bl s) i) w' ∧ Kept (fun n => n = N) w w' := by
  refine (dadd_w q N p B f0 g d s hs i w h.v h.s h.ne (h.few d)).mono ?_
  rintro e w1 ⟨rfl, hv, hk⟩
  exact ⟨rfl, h.put hv (h.sm.add d _ i) hk, hk⟩

theorem side_dnames (h : SideIn w0 T p B q N g w) (d : Int) : Calls Try.prog 43 #[.pointer (some ⟨q, 0, none⟩), .int .i64 d] w
    fun e w' => ∃ v, e = .returned v ∧ Nm.SrcS v (namesE (dirE f0 g d)) w' ∧ SideIn w0 T p B q N (findT g d) w' ∧ Kept (fun n => n = N) w w' := by
  refine (dnames_w q N p B f0 g d w h.v h.s h.ne (h.few d)).mono ?_
  rintro e w1 ⟨v, rfl, ha, hv, hk⟩
  exact ⟨v, rfl, ha, h.put hv (h.sm.find d) hk, hk⟩

end
end Go.Proofs.Ythonlakpgncinaa
