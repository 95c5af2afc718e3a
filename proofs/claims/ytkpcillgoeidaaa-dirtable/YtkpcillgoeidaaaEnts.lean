
/- What Is, isNumber, isThere, entries, place, gap, put do when they are called; no conditions but lengths. -/
import Derived.Test.YtkpcillgoeidaaaDirF
import Derived.Test.YtkpcillgoeidaaaKeep3
namespace Go.Proofs.Ytkpcillgoeidaaa
open Go.RowKit
set_option maxRecDepth 100000
set_option linter.unusedSimpArgs false

theorem ret_bool {a b : Bool} (h : a = b) : Ending.returned (.bool a) = .returned (.bool b) := by rw [h]

theorem dis_w (q N p B : Nat) (f : StF) (g : VwF) (d : Int) (w : World) (h : ViewIn q N p g w) (hs : StoreIn p B f w) (hNB : N ≠ B) : Calls Try.prog 19 #[.pointer (some ⟨q, 0, none⟩), .int .i64 d] w
    fun e w' => e = .returned (.bool (isDirF f g d)) ∧ ViewIn q N p (findT g d) w' ∧ Kept (fun n => n = N) w w' := by
  go_enter Try.func19, Try.ntmps19
  go_wp2_with fail
  refine (type_w q N p B f g d w h hs hNB).mono ?_
  rintro e w1 ⟨rfl, hv1, hk1⟩
  have HZ : Hid (ViewIn q N p (findT g d) w1 ∧ Kept (fun n => n = N) w w1) := ⟨hv1, hk1⟩
  clear hv1 hk1
  go_wp2
  go_ret
  exact ⟨ret_bool (by unfold isDirF; by_cases h : (findV f g d).n0 = 1 <;> simp [h]), HZ.out⟩

theorem isnum_w (n : Int) (w : World) : Calls Try.prog 39 #[.int .i64 n] w fun e w' => e = .returned (.bool (hereB n)) ∧ w' = w := by
  by_cases h1 : 1 ≤ n
  · by_cases h2 : n < 16
    · have e : hereB n = true := here_iff.2 ⟨h1, h2⟩
      rw [e]
      go_enter Try.func39, Try.ntmps39
      go_wp2
      go_ret
      exact ⟨rfl, rfl⟩
    · have e : hereB n = false := by simp [hereB]; omega
      rw [e]
      go_enter Try.func39, Try.ntmps39
      go_wp2
      go_ret
      exact ⟨rfl, rfl⟩
  · have e : hereB n = false := by simp [hereB]; omega
    rw [e]
    go_enter Try.func39, Try.ntmps39
    go_wp2
    go_ret
    exact ⟨rfl, rfl⟩

def ec (e : E2) : List Value := [.string (bs e.1), .int .i64 e.2]
def ev2 (e : E2) : Value := .agg (ec e).toArray
theorem ec_len (e : E2) : (ec e).length = 2 := rfl

theorem there2_w (e : E2) (w : World) : Calls Try.prog 44 #[ev2 e] w fun r w' => r = .returned (.bool (hereB e.2)) ∧ Kept (fun _ => False) w w' := by
  have hk : Kept (fun _ => False) w (w.alloc (.cells #[.string (bs e.1), .int .i64 e.2] 80)) := (Kept.refl _ _).alloc _
  unfold ev2 ec
  go_enter Try.func44, Try.ntmps44
  go_wp2_with fail
  refine (isnum_w e.2 _).mono ?_
  rintro r w1 ⟨rfl, rfl⟩
  go_wp2
  go_ret
  exact ⟨rfl, hk⟩

theorem info_entry : (Try.prog.info? 80).map (fun i => (i.zero, i.size, i.bytes)) = some (some (.agg #[.string ⟨#[]⟩, .int .i64 0]), 2, 24) := by kernel_rfl
def zE : E2 := ([], 0)
theorem made_cells : (Value.agg #[.string ⟨#[]⟩, .int .i64 0]).cells = #[.string ⟨#[]⟩, .int .i64 0] := by simp [Value.cells]
theorem made_ents (L : Nat) : madeCells (Value.agg #[.string ⟨#[]⟩, .int .i64 0]).cells (L * 2) = ((List.replicate L zE).flatMap ec).toArray := by
  rw [made_cells]
  apply Array.ext'
  apply List.ext_getElem?
  intro j
  have hf := flat_get ec 2 ec_len (List.replicate L zE) (j / 2) (j % 2) (by omega)
  rw [show j / 2 * 2 + j % 2 = j by omega] at hf
  show _ = (List.flatMap ec (List.replicate L zE))[j]?
  rw [hf]
  by_cases h : j < L * 2
  · rw [List.getElem?_replicate_of_lt (by omega)]
    simp only [madeCells, Array.toList_map, Array.toList_range, List.getElem?_map, List.getElem?_range h]
    have hm : j % 2 = 0 ∨ j % 2 = 1 := by omega
    show some ((#[Value.string ⟨#[]⟩, .int .i64 0] : Array Value)[j % 2]!) = (ec zE)[j % 2]?
    rcases hm with e | e <;> rw [e] <;> rfl
  · rw [List.getElem?_eq_none (by simp [madeCells]; omega), List.getElem?_eq_none (by simp; omega)]
    rfl
theorem make_ents (L : Nat) (hL : L ≤ 8) (w : World) : ∃ w', (Instr.makeSlice 74 (.int .i64 (L : Int)) (.int .i64 (L : Int))).run Try.prog w = .ok (.slice (some ⟨w.heap.size, 0, none⟩) L L) w' ∧
    w'.heap[w.heap.size]? = some (.cells ((List.replicate L zE).flatMap ec).toArray 80 (0, 0)) ∧ Kept (fun _ => False) w w' := by
  obtain ⟨i0, hi, hz0, hz1, hz2⟩ := info_parts info_entry
  obtain ⟨M, hM⟩ : ∃ M, M = madeCells (Value.agg #[.string ⟨#[]⟩, .int .i64 0]).cells (((L : Nat) : Int).toNat * i0.size) := ⟨_, rfl⟩
  have h := run_make (P := Try.prog) w 74 80 i0 (.agg #[.string ⟨#[]⟩, .int .i64 0]) Try.underlying74 hi hz0 .i64 .i64 (L : Int) (L : Int) (by omega) (by omega) (by rw [hz2]; omega) (by omega)
  rw [← hM] at h
  refine ⟨w.alloc (.cells M 80), by simpa using h, ?_, (Kept.refl _ _).alloc _⟩
  rw [alloc_at, hM, hz1, Int.toNat_natCast, made_ents L]

theorem ec_at {es : List E2} {i : Nat} {a : E2} (h : es[i]? = some a) : (es.flatMap ec).toArray[i * 2]? = some (.string (bs a.1)) ∧ (es.flatMap ec).toArray[i * 2 + 1]? = some (.int .i64 a.2) := by
  have h0 := flat_get ec 2 ec_len es i 0 (by omega)
  have h1 := flat_get ec 2 ec_len es i 1 (by omega)
  rw [h] at h0 h1
  rw [List.getElem?_toArray, List.getElem?_toArray]
  exact ⟨h0, h1⟩

/-- A slot of a row of entries is written. -/
theorem ents_set {es : List E2} {i : Nat} {e : E2} : (((es.flatMap ec).toArray.setIfInBounds (i * 2) (.string (bs e.1))).setIfInBounds (i * 2 + 1) (.int .i64 e.2)) = ((es.set i e).flatMap ec).toArray := by
  rw [List.setIfInBounds_toArray, List.setIfInBounds_toArray]
  congr 1
  induction es generalizing i with
  | nil => rfl
  | cons b es ih =>
    cases i with
    | zero => rfl
    | succ i =>
      have := ih (i := i)
      show (((ec b ++ es.flatMap ec)).set ((i + 1) * 2) _).set ((i + 1) * 2 + 1) _ = ec b ++ (es.set i e).flatMap ec
      rw [← this, show (i + 1) * 2 = i * 2 + 1 + 1 by omega]
      rfl

theorem row_src {w : World} {G : Nat} {es : List E2} (h : w.heap[G]? = some (.cells (es.flatMap ec).toArray 80 (0, 0))) : SrcR ec 2 (.slice (some ⟨G, 0, none⟩) es.length es.length) es w := by
  refine ⟨_, G, 0, es.length, rfl, (fun h => by cases h), fun _ => rfl, Nat.le_refl _, fun j a ha r v hv => ?_⟩
  have hr : r < 2 := by have := (List.getElem?_eq_some_iff.1 hv).1; rw [ec_len] at this; exact this
  rw [Nat.zero_add]
  refine cell_at h ?_
  rw [List.getElem?_toArray, flat_get ec 2 ec_len es j r hr, ha]
  exact hv

theorem fill_on {l : Bs} {i L : Nat} (hL : nEnt l = L) (hi : i < L) : ((entsF l).take i ++ List.replicate (L - i) zE).set i (ent l i) = (entsF l).take (i + 1) ++ List.replicate (L - (i + 1)) zE := by
  have h1 : ((entsF l).take i).length = i := by rw [List.length_take, ents_len]; omega
  have h2 : (entsF l).take (i + 1) = (entsF l).take i ++ [ent l i] := by
    rw [List.take_add_one, ents_at (by omega)]; rfl
  rw [h2, List.set_append, if_neg (by omega), h1, Nat.sub_self, show L - i = (L - (i + 1)) + 1 by omega, List.replicate_succ, List.append_assoc]
  rfl

set_option maxHeartbeats 1000000 in
theorem entries_w (q N p B : Nat) (f : StF) (g : VwF) (d : Int) (w : World) (h : ViewIn q N p g w) (hs : StoreIn p B f w) (hNB : N ≠ B) (hsz : (findV f g d).s.size ≤ 1000000) : Calls Try.prog 40 #[.pointer (some ⟨q, 0, none⟩), .int .i64 d] w
    fun e w' => ∃ v, e = .returned v ∧ SrcR ec 2 v (dirE f g d) w' ∧ ViewIn q N p (findT g d) w' ∧ Kept (fun n => n = N) w w' := by
  go_enter Try.func40, Try.ntmps40
  go_wp2_with fail
  refine (dis_w q N p B f g d w h hs hNB).mono ?_
  rintro e w1 ⟨rfl, hv1, hk1⟩
  have hN := hv1.map.lt
  have hN0 := h.map.lt
  have hq0 : q < w.heap.size := lt_at h.cell
  by_cases hd : isDirF f g d = true
  · have HD : Hid (dirE f g d = entsF (bl (findV f g d).s)) := by show _ = _; unfold dirE; rw [if_pos hd]
    rw [hd]
    have hs1 := hs.kept hk1 (fun e => h.map.off hs.cell e) (fun e => hNB e.symm)
    clear h hs
    go_wp2_with fail
    refine (read_w q N p B f (findT g d) d 0 128 w1 hv1 hs1 hNB (by rw [find_find]; exact hsz)).mono ?_
    rintro e w2 ⟨rfl, hv2, hk2⟩
    rw [find_find]
    obtain ⟨l, hl⟩ : ∃ l, bl (findV f g d).s = l := ⟨_, rfl⟩
    rw [hl] at HD
    obtain ⟨t, ht⟩ : ∃ t, partF (findV f g d).s 0 128 = t := ⟨_, rfl⟩
    rw [ht]
    have htl : bl t = l.take 128 := by rw [← ht, ← hl]; rfl
    have hts0 : t.size = min 128 l.length := by rw [← bl_len, htl, List.length_take]
    have hts : t.size / 16 = nEnt l := by rw [← bl_len, htl, List.length_take]; unfold nEnt; omega
    have hv2' : ViewIn q N p (findT g d) w2 := by rw [find_again] at hv2; exact hv2
    obtain ⟨L, hL⟩ : ∃ L, nEnt l = L := ⟨_, rfl⟩
    have hL8 : L ≤ 8 := by rw [← hL]; exact nEnt_le l
    obtain ⟨w3, hmk, hr3, k3⟩ := make_ents L (by omega) w2
    obtain ⟨G, hG⟩ : ∃ G, w2.heap.size = G := ⟨_, rfl⟩
    rw [hG] at hmk hr3
    have hq : ((t.size : Int)) / 16 = L := by omega
    have HT : Hid (t.size = min 128 l.length) := hts0
    clear hts0
    have HH : Hid (ViewIn q N p (findT g d) w3 ∧ Kept (fun n => n = N) w w3) := ⟨hv2'.still k3, (hk1.trans hk2 (fun _ _ e => e)).trans k3 (fun _ _ e => e.elim)⟩
    have lG : w.heap.size ≤ G ∧ w1.heap.size ≤ G := by have := hk1.size; have := hk2.size; omega
    clear ht hts hv1 hk1 hv2 hk2 hv2' k3 hs1
    go_wp2_with fail
    go_loopw [21] (fun v wr => ∃ i : Nat, v = .int .i64 i ∧ i ≤ L ∧ Hid (wr.heap[G]? = some (.cells (((entsF l).take i ++ List.replicate (L - i) zE).flatMap ec).toArray 80 (0, 0)) ∧ Kept (fun n => n = G) w3 wr)) (fun v _ => L - (intOf v).toNat)
    case atStart => exact ⟨0, rfl, by omega, hr3, Kept.refl _ _⟩
    case round =>
      obtain ⟨i, rfl, hi, HI⟩ := hrel
      clear hr3 hmk hq
      by_cases hlt : i < L
      · have t1 : (i : Int) < L := by omega
        obtain ⟨u, hu⟩ : ∃ u, t.extract (i * 16) ((i + 1) * 16) = u := ⟨_, rfl⟩
        obtain ⟨hb, hkI⟩ := HI.out
        have hlen : ((entsF l).take i ++ List.replicate (L - i) zE).length = L := by rw [List.length_append, List.length_take, List.length_replicate, ents_len]; omega
        have HS : Hid (((entsF l).take i ++ List.replicate (L - i) zE).set i (Nm.nameF (bl u), Nm.ptrF (bl u)) = (entsF l).take (i + 1) ++ List.replicate (L - (i + 1)) zE) := by
          show _ = _
          rw [← fill_on hL hlt]
          have : bl u = slc l i := by
            rw [← slc_take (by omega), ← htl, ← hu, bl_extract]
            unfold slc
            rw [show (i + 1) * 16 - i * 16 = 16 by omega]
          unfold ent
          rw [this]
        generalize (entsF l).take i ++ List.replicate (L - i) zE = es at *
        have e1 : ((i : Int) * 16).toNat = i * 16 := by omega
        have e2 : (((i : Int) + 1) * 16).toNat = (i + 1) * 16 := by omega
        have hb1 : (i + 1) * 16 ≤ t.size := by have := HT.out; unfold nEnt at hL; omega
        go_wp2_with fail
        refine (Nm.unpack_w u _).mono ?_
        rintro e w5 ⟨rfl, hk5⟩
        have hb5 := hk5.at hb (fun x => x)
        obtain ⟨a, ha⟩ : ∃ a, es[i]? = some a := ⟨_, List.getElem?_eq_getElem (by omega)⟩
        have c0 : w5.cell? ⟨G, i * 2, none⟩ = some (.string (bs a.1)) := cell_at hb5 (ec_at ha).1
        have c1 : w5.cell? ⟨G, i * 2 + 1, none⟩ = some (.int .i64 a.2) := cell_at hb5 (ec_at ha).2
        have f0 := free_at hb5 (i * 2)
        have f1 := free_at hb5 (i * 2 + 1)
        have hs0 := set_at hb5 (i * 2) (.string (bs (Nm.nameF (bl u))))
        have hs1 := set_at hs0 (i * 2 + 1) (.int .i64 (Nm.ptrF (bl u)))
        have k6 : Kept (fun n => n = G) w5 ((w5.setCell ⟨G, i * 2, none⟩ (.string (bs (Nm.nameF (bl u))))).setCell ⟨G, i * 2 + 1, none⟩ (.int .i64 (Nm.ptrF (bl u)))) := by refine Kept.setCell (Kept.setCell (Kept.refl _ _) ?_ _) ?_ _ <;> (intro _; rfl)
        rw [ents_set (e := (Nm.nameF (bl u), Nm.ptrF (bl u)))] at hs1
        have HN : Hid (((w5.setCell ⟨G, i * 2, none⟩ (.string (bs (Nm.nameF (bl u))))).setCell ⟨G, i * 2 + 1, none⟩ (.int .i64 (Nm.ptrF (bl u)))).heap[G]? = some (.cells ((es.set i (Nm.nameF (bl u), Nm.ptrF (bl u))).flatMap ec).toArray 80 (0, 0)) ∧
            Kept (fun n => n = G) w3 ((w5.setCell ⟨G, i * 2, none⟩ (.string (bs (Nm.nameF (bl u))))).setCell ⟨G, i * 2 + 1, none⟩ (.int .i64 (Nm.ptrF (bl u))))) :=
          ⟨hs1, (hkI.trans hk5 (fun _ _ e => e.elim)).trans k6 (fun _ _ e => e)⟩
        clear hs0 hs1 k6 HI hb hkI hk5 hb5
        go_wp2_with fail
        refine ⟨⟨i + 1, by go_num, by omega, ?_⟩, by simp [intOf]; omega⟩
        rw [← HS.out]
        exact HN
      · obtain rfl : i = L := by omega
        go_wp2
        go_ret
        refine ⟨_, rfl, ?_, HH.out.1.kept HI.out.2 (by omega) (by omega), HH.out.2.trans HI.out.2 (fun k h1 h2 => by omega)⟩
        have hl2 : (entsF l).length = i := by rw [ents_len]; exact hL
        rw [HD.out]
        have := row_src (es := entsF l) (w := wr) (G := G) (by have := HI.out.1; rw [Nat.sub_self, List.replicate_zero, List.append_nil, List.take_of_length_le (by omega)] at this; exact this)
        rw [hl2] at this
        exact this
  · have HD : Hid (dirE f g d = []) := by show _ = _; unfold dirE; rw [if_neg hd]
    obtain hd : isDirF f g d = false := by simpa using hd
    rw [hd]
    have HZ : Hid (ViewIn q N p (findT g d) w1 ∧ Kept (fun n => n = N) w w1) := ⟨hv1, hk1⟩
    clear hv1 hk1 h hs
    go_wp2
    go_ret
    exact ⟨_, rfl, by rw [HD.out]; exact SrcR.none _, HZ.out⟩
end Go.Proofs.Ytkpcillgoeidaaa
