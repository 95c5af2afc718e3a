
/- Stores and views, the reference's side; no conditions but lengths. -/
import Derived.Test.YtigfgnaakoicjaaStA
import Derived.Test.YtigfgnaakoicjaaStB
import Derived.Deep.CutBlock
namespace Go.Proofs.Ytigfgnaakoicjaa
open Go.RowKit
set_option maxRecDepth 100000

def szs : Array Value := #[.int .i64 1, .int .i64 1, .int .i64 1, .int .i64 8, .int .i64 1, .int .i64 12, .int .i64 1, .int .i64 4, .int .i64 1, .int .i64 16, .int .i64 1, .int .i64 8]

theorem szs_get {i : Nat} (h : i < 12) : szs[i]? = some (.int .i64 (cnt ((i : Int) + 1))) := by
  have : ∀ i : Nat, i < 12 → szs[i]? = some (.int .i64 (cnt ((i : Int) + 1))) := by
    intro i h
    rcases i with _ | _ | _ | _ | _ | _ | _ | _ | _ | _ | _ | _ | i <;> first | rfl | omega
  exact this i h

theorem sizes_w (w : World) : Calls Try.prog 32 #[] w fun e w' => e = .returned (.slice (some ⟨w.heap.size, 0, none⟩) 12 12) ∧ w' = w.alloc (.cells szs 3) := by
  go_enter Try.func32, Try.ntmps32
  go_wp2
  go_ret
  exact ⟨rfl, rfl⟩

set_option maxHeartbeats 800000 in
theorem refplace_w (x y : Int) (w : World) : Calls Try.prog 27 #[.agg #[.int .i64 x, .int .i64 y]] w fun e w' => e = .returned (.int .i64 (plc (x, y))) ∧ Kept (fun _ => False) w w' := by
  obtain ⟨B, hB⟩ : ∃ B : Nat, w.heap.size = B := ⟨_, rfl⟩
  have Z := sizes_w (w.alloc (.cells #[.int .i64 x, .int .i64 y] 44))
  rw [show (w.alloc (.cells #[.int .i64 x, .int .i64 y] 44)).heap.size = B + 1 by simp [hB]] at Z
  go_enter Try.func27, Try.ntmps27
  go_wp2_with fail
  refine Z.mono ?_
  rintro e w1 ⟨rfl, hw⟩
  clear Z
  have HB : Hid (w1.heap[B + 1]? = some (.cells szs 3 (0, 0))) := by subst hw; exact alloc_at' _ (by simp [hB])
  have hX : w1.heap[B]? = some (.cells #[.int .i64 x, .int .i64 y] 44 (0, 0)) := by subst hw; exact alloc_off (alloc_at' _ hB)
  have HK : Hid (Kept (fun _ => False) w w1) := by subst hw; exact ((Kept.refl _ _).alloc _).alloc _
  have x0 := cell_at hX (i := 0) rfl
  have x1 := cell_at hX (i := 1) rfl
  clear hw hX
  go_wp2
  go_loop [3, 8] (fun n s => ∃ i : Nat, s = .int .i64 i ∧ i ≤ 12 ∧ n = .int .i64 (ahd ((i : Int) + 1)) ∧ Hid (∀ j : Nat, j < i → ¬ x = (j : Int) + 1)) (fun _ s => 12 - (intOf s).toNat)
  case atStart => exact ⟨0, rfl, Nat.zero_le _, rfl, fun j hj => by omega⟩
  case round =>
    obtain ⟨i, rfl, hi, rfl, HJ⟩ := hrel
    by_cases hlt : i < 12
    · have t1 : (i : Int) < 12 := by omega
      have c0 := cell_at HB.out (szs_get hlt)
      have hc := cnt_bounds ((i : Int) + 1)
      have hb := ahd_bounds ((i : Int) + 1)
      have HN : Hid _ := ahd_next (k := (i : Int) + 1) (by omega) (by omega)
      by_cases hx : x = (i : Int) + 1
      · by_cases hy : 0 ≤ y ∧ y < cnt ((i : Int) + 1)
        · have HP : Hid (plc ((i : Int) + 1, y) = ahd ((i : Int) + 1) + y) := plc_is hy.1 hy.2
          obtain ⟨y0, y1⟩ := hy
          generalize cnt ((i : Int) + 1) = c at *
          generalize ahd ((i : Int) + 1) = a at *
          clear HB HJ HN
          go_wp2
          go_ret
          exact ⟨ret_int (by rw [HP.out]), HK.out⟩
        · have HP : Hid (plc ((i : Int) + 1, y) = -1) := plc_no (by show y < 0 ∨ cnt ((i : Int) + 1) ≤ y; omega)
          by_cases y0 : y < 0
          · clear HB HJ HN hy
            go_wp2
            go_ret
            exact ⟨ret_int (by rw [HP.out]), HK.out⟩
          · have y1 : cnt ((i : Int) + 1) ≤ y := by omega
            generalize cnt ((i : Int) + 1) = c at *
            clear HB HJ HN hy
            go_wp2
            go_ret
            exact ⟨ret_int (by rw [HP.out]), HK.out⟩
      · generalize cnt ((i : Int) + 1) = c at *
        generalize ahd ((i : Int) + 1) = a at *
        have hd : (x == (i : Int) + 1) = false := by simpa using hx
        have HX : Hid _ := hx
        clear HB hx
        go_wp2
        go_round
        case rel =>
          refine ⟨i + 1, by go_num, by omega, by rw [← HN.out]; rfl, fun j hj => ?_⟩
          rcases Nat.lt_or_ge j i with h | h
          · exact HJ.out j h
          · obtain rfl : j = i := by omega
            exact HX.out
        case measure => simp [intOf]; omega
    · obtain rfl : i = 12 := by omega
      have HP : Hid (plc (x, y) = -1) := by
        refine plc_no (Classical.byContradiction fun hn => ?_)
        have h1 : 0 < cnt x := by simp only at hn; omega
        obtain ⟨a, b⟩ := cnt_pos h1
        exact HJ.out (x.toNat - 1) (by omega) (by omega)
      clear HB HJ
      go_wp2
      go_ret
      exact ⟨ret_int (by rw [HP.out]), HK.out⟩

end Go.Proofs.Ytigfgnaakoicjaa

namespace Go.Proofs.Ytigfgnaakoicjaa
open Go.RowKit
set_option maxRecDepth 100000
set_option linter.unusedSimpArgs false

theorem mapRV : Try.prog.underlying 66 = some (.map 3 41) := Try.underlying66
theorem mapRS : Try.prog.underlying 75 = some (.map 3 4) := Try.underlying75

def byP {ν : Type} (f : K2 → Option ν) : Int → Option ν := fun j => if 0 ≤ j ∧ j < 55 then f (keyAt j) else none

theorem byP_none {ν : Type} : byP (fun _ => (none : Option ν)) = fun _ => none := by
  funext j; unfold byP; split <;> rfl

theorem byP_plc {ν : Type} {f : K2 → Option ν} (hg : ∀ k, (f k).isSome = true → 0 ≤ plc k) (k : K2) : byP f (plc k) = f k := by
  have hb := plc_bounds k
  unfold byP
  by_cases h : 0 ≤ plc k
  · rw [if_pos ⟨h, hb.2⟩, keyAt_plc h]
  · rw [if_neg (by omega)]
    cases hf : f k with
    | none => rfl
    | some t => exact absurd (hg k (by rw [hf]; rfl)) h

theorem byP_upd {ν : Type} {f : K2 → Option ν} {k : K2} (h : 0 ≤ plc k) (v : ν) : upd (byP f) (plc k) v = byP (upd f k v) := by
  funext j
  have hb := plc_bounds k
  unfold upd byP
  by_cases e : j = plc k
  · subst e
    rw [if_pos rfl, if_pos ⟨h, hb.2⟩, keyAt_plc h]
    exact (if_pos rfl).symm
  · rw [if_neg e]
    split
    · rename_i hj
      refine (if_neg ?_).symm
      intro e2
      exact e (by rw [← e2, plc_keyAt hj.1 hj.2])
    · rfl

structure RStoreIn (p B : Nat) (f : StF) (w : World) : Prop where
  cell : w.heap[p]? = some (.cells #[.map (some B)] 68 (0, 0))
  map : MapIn iv vv B (byP f) w
  good : ∀ k, (f k).isSome = true → 0 ≤ plc k

theorem RStoreIn.kept {X : Nat → Prop} {p B : Nat} {f : StF} {w w' : World} (h : RStoreIn p B f w) (hk : Kept X w w') (hp : ¬ X p) (hB : ¬ X B) : RStoreIn p B f w' :=
  ⟨hk.at h.cell hp, h.map.kept hk hB, h.good⟩
theorem RStoreIn.still {p B : Nat} {f : StF} {w w' : World} (h : RStoreIn p B f w) (hk : Kept (fun _ => False) w w') : RStoreIn p B f w' := h.kept hk (fun x => x) (fun x => x)

theorem rlook_v {B : Nat} {f : StF} {w : World} (hg : ∀ k, (f k).isSome = true → 0 ≤ plc k) (h : MapIn iv vv B (byP f) w) (k : K2) : (Instr.lookup 66 (.map (some B)) (.int .i64 (plc k)) false).run Try.prog w = .ok (vv (lookF f k)) w := by
  have := h.look keyok_iv mapRV zero_value (plc k) false
  rw [byP_plc hg] at this
  rw [show (Value.int .i64 (plc k)) = iv (plc k) from rfl, this]
  unfold lookF
  cases f k <;> rfl

theorem rlook_ok {B : Nat} {f : StF} {w : World} (hg : ∀ k, (f k).isSome = true → 0 ≤ plc k) (h : MapIn iv vv B (byP f) w) (k : K2) : (Instr.lookup 66 (.map (some B)) (.int .i64 (plc k)) true).run Try.prog w = .ok (.tuple #[vv (lookF f k), .bool (f k).isSome]) w := by
  have := h.look keyok_iv mapRV zero_value (plc k) true
  rw [byP_plc hg] at this
  rw [show (Value.int .i64 (plc k)) = iv (plc k) from rfl, this]
  unfold lookF
  cases f k <;> rfl

theorem rnew_w (w : World) : Calls Try.prog 19 #[] w fun e w' => ∃ p B, e = .returned (.pointer (some ⟨p, 0, none⟩)) ∧ RStoreIn p B (fun _ => none) w' ∧ Kept (fun _ => False) w w' ∧ w.heap.size ≤ p ∧ w.heap.size ≤ B := by
  obtain ⟨E, hE⟩ : ∃ E : Nat, w.heap.size = E := ⟨_, rfl⟩
  have hmm := @run_makeMap Try.prog
  go_enter Try.func19, Try.ntmps19
  go_wp2
  go_ret
  exact ⟨E + 1, E, rfl, ⟨alloc_at' _ (by simp [hE]), by rw [byP_none]; exact (MapIn.made hE).still ((Kept.refl _ _).alloc _), by simp⟩, ((Kept.refl _ _).alloc _).alloc _, by omega, by omega⟩

set_option maxHeartbeats 400000 in
theorem rput_w (p B : Nat) (f : StF) (x y : Int) (v : V) (w : World) (h : RStoreIn p B f w) : Calls Try.prog 21 #[.pointer (some ⟨p, 0, none⟩), .agg #[.int .i64 x, .int .i64 y], vv v] w
    fun e w' => e = .returned (.bool (decide (0 ≤ plc (x, y)))) ∧ RStoreIn p B (putF f (x, y) v) w' ∧ Kept (fun n => n = B) w w' := by
  obtain ⟨E, hE⟩ : ∃ E : Nat, w.heap.size = E := ⟨_, rfl⟩
  rw [vv_is]
  go_enter Try.func21, Try.ntmps21
  obtain ⟨wA, hA⟩ : ∃ wA, (w.alloc (.cells #[.int .i64 x, .int .i64 y] 44)).alloc (.cells (vc v).toArray 41) = wA := ⟨_, rfl⟩
  have T := refplace_w x y wA
  have hkA : Kept (fun _ => False) w wA := by subst hA; exact ((Kept.refl _ _).alloc _).alloc _
  have hk : wA.heap[E]? = some (.cells #[.int .i64 x, .int .i64 y] 44 (0, 0)) := by subst hA; exact alloc_off (alloc_at' _ hE)
  have hz : wA.heap[E + 1]? = some (.cells (vc v).toArray 41 (0, 0)) := by subst hA; exact alloc_at' _ (by simp [hE])
  have c0 := cell_at hk (i := 0) rfl
  have c1 := cell_at hk (i := 1) rfl
  go_wp2_with fail
  clear hA c0 c1
  refine T.mono ?_
  rintro e w1 ⟨rfl, hk1⟩
  clear T
  replace hk := hk1.at hk (fun x => x)
  replace hz := hk1.at hz (fun x => x)
  replace hkA := hkA.thru hk1
  clear hk1
  by_cases hpl : plc (x, y) < 0
  · have HS : Hid (RStoreIn p B (putF f (x, y) v) w1) := by show RStoreIn _ _ _ _; unfold putF; rw [if_neg (by omega)]; exact h.still hkA
    have hW : Hid (Kept (fun n => n = B) w w1) := hkA.mono (fun _ _ e => e.elim)
    have hd : Hid (decide (0 ≤ plc (x, y)) = false) := by show _ = _; simpa using hpl
    clear h
    go_wp2
    go_ret
    exact ⟨by rw [hd.out]; rfl, HS.out, hW.out⟩
  · have hd : Hid (decide (0 ≤ plc (x, y)) = true) := by show _ = _; simpa using hpl
    go_wp2_with fail
    have hp : p < E := by have := lt_at h.cell; omega
    have hB : B < E := by have := h.map.lt; omega
    have hne : p ≠ B := h.map.off h.cell
    have h1 := h.still hkA
    have KS : ∀ w', Kept (fun n => n = B) w1 w' → (w'.cell? ⟨p, 0, none⟩ = some (.map (some B)) ∧ w'.cell? ⟨E, 0, none⟩ = some (.int .i64 x) ∧ w'.cell? ⟨E, 1, none⟩ = some (.int .i64 y)) :=
      fun w' hk' => ⟨hk'.cell (cell_at h1.cell rfl) hne, hk'.cell (cell_at hk rfl) (by simp; omega), hk'.cell (cell_at hk rfl) (by simp; omega)⟩
    have KV : ∀ w', Kept (fun n => n = B) w1 w' → w'.rangeAt (E + 1) 0 (vc v) := fun w' hk' => range_kept (whole_range hz) hk' (by omega)
    refine wp_region_held_drew (S := fun w' => Kept (fun n => n = B) w1 w') (by kernel_rfl) ((Kept.refl _ _).drew) (fun hHeld => ?_)
    refine h_take 0 (some 10) (Op.move (Operand.tmp 0)) 27 ?v1 rfl rfl (by kernel_rfl) (by kernel_rfl) (by kernel_rfl) (fun _ _ _ h => h) ?hy1 hHeld ?_
    case hy1 => (intro _ _ _ w hSw; have hcs := KS _ hSw; go_simp; try with_reducible rfl)
    simp only [Act.put, List.setIfInBounds_toArray, List.set_cons_zero, List.set_cons_succ]
    refine h_take 1 (some 11) (Op.nilCheck (Operand.tmp 10)) 0 ?v2 rfl rfl (by kernel_rfl) (by kernel_rfl) (by kernel_rfl) (fun _ _ _ h => h) ?hy2 hHeld ?_
    case hy2 => (intro _ _ _ w hSw; have hcs := KS _ hSw; go_simp; try with_reducible rfl)
    simp only [Act.put, List.setIfInBounds_toArray, List.set_cons_zero, List.set_cons_succ]
    refine h_take 2 (some 12) (Op.fieldAddr 68 (Operand.tmp 11) 0) 0 ?v3 rfl rfl (by kernel_rfl) (by kernel_rfl) (by kernel_rfl) (fun _ _ _ h => h) ?hy3 hHeld ?_
    case hy3 => (intro _ _ _ w hSw; have hcs := KS _ hSw; go_simp; try with_reducible rfl)
    simp only [Act.put, List.setIfInBounds_toArray, List.set_cons_zero, List.set_cons_succ]
    refine h_take 3 (some 13) (Op.load 66 (Operand.tmp 12)) 66 ?v4 rfl rfl (by kernel_rfl) (by kernel_rfl) (by kernel_rfl) (fun _ _ _ h => h) ?hy4 hHeld ?_
    case hy4 => (intro _ _ _ w hSw; have hcs := KS _ hSw; go_simp; try with_reducible rfl)
    simp only [Act.put, List.setIfInBounds_toArray, List.set_cons_zero, List.set_cons_succ]
    refine h_take 4 (some 14) (Op.load 44 (Operand.tmp 4)) 44 ?v5 rfl rfl (by kernel_rfl) (by kernel_rfl) (by kernel_rfl) (fun _ _ _ h => h) ?hy5 hHeld ?_
    case hy5 => (intro _ _ _ w hSw; have hcs := KS _ hSw; go_simp; try with_reducible rfl)
    simp only [Act.put, List.setIfInBounds_toArray, List.set_cons_zero, List.set_cons_succ]
    refine h_take 6 (some 16) (Op.load 41 (Operand.tmp 5)) 41 (vv v) rfl rfl (by kernel_rfl) (by kernel_rfl) (by kernel_rfl) (fun _ _ _ h => h) (fun _ _ _ w hSw => exec_load rfl (load_wide wide_V (KV w hSw) rfl)) hHeld ?_
    simp only [Act.put, List.setIfInBounds_toArray, List.set_cons_zero, List.set_cons_succ]
    refine h_step 5 (some 15) (Op.call { callee := Callee.value (Operand.func 27), args := #[Operand.tmp 14], argTypes := #[44] }) 3 rfl rfl (by kernel_rfl) (fun _ _ _ K hK => ?_)
    go_simp
    refine (refplace_w x y _).mono ?_
    rintro e w2 ⟨rfl, hk2⟩
    have k2 : Kept (fun _ => False) w1 w2 := (Kept.refl _ w1).drew.thru hk2
    go_wp2_with fail
    refine hK.out _ _ (k2.mono (fun _ _ e => e.elim)) (fun hHeld => ?_)
    clear hK K
    try simp only [Act.put, List.setIfInBounds_toArray, List.set_cons_zero, List.set_cons_succ]
    obtain ⟨w3, hr, hm, hk3, hsz⟩ := MapIn.store (w := w2) (h1.map.still k2) keyok_iv mapRV (plc (x, y)) v
    refine h_step 7 (none) (Op.mapUpdate 66 (Operand.tmp 13) (Operand.tmp 15) (Operand.tmp 16)) 0 rfl rfl (by kernel_rfl) (fun _ _ _ K hK => ?_)
    refine wp_skip (exec_update rfl rfl rfl hr) ?_
    refine hK.out _ _ ((k2.mono (fun _ _ e => e.elim)).trans hk3 (fun _ _ e => e)) (fun hHeld => ?_)
    clear hK K
    try simp only [Act.put, List.setIfInBounds_toArray, List.set_cons_zero, List.set_cons_succ]
    refine wpAnyH_done (by kernel_rfl) ?_ _
    have hW : Hid (Kept (fun n => n = B) w w3) := ((hkA.thru k2).mono (fun _ _ e => e.elim)).trans hk3 (fun _ _ e => e)
    have hS : Hid (RStoreIn p B (putF f (x, y) v) w3) := ⟨hW.out.at h.cell hne, by rw [byP_upd (by omega)] at hm; unfold putF; rw [if_pos (by omega)]; exact hm, putF_good h.good _ _⟩
    clear hHeld KS KV hr hm hk3 hsz k2 hk2 h1 h hk hz hkA
    go_wp2
    go_ret
    exact ⟨by rw [hd.out]; rfl, hS.out, hW.out⟩
end Go.Proofs.Ytigfgnaakoicjaa

namespace Go.Proofs.Ytigfgnaakoicjaa
open Go.RowKit
set_option maxRecDepth 100000

def ownOf (g : VwF) : StF := fun k => if (noteF g k).2.1 = true then some (noteF g k).2.2 else none
def seenF (f g : StF) (k : K2) : V := (g k).getD (lookF f k)

theorem note_upd (g : VwF) (k j : K2) (t : Bool × Bool × V) : noteF (upd g k t) j = if j = k then t else noteF g j := by
  unfold noteF upd
  split <;> rfl

theorem own_put {g : VwF} {k : K2} (h : 0 ≤ plc k) (x : V) : ownOf (vputT g k x) = upd (ownOf g) k x := by
  funext j
  unfold ownOf vputT
  rw [if_pos h, note_upd]
  unfold upd
  by_cases e : j = k
  · simp [e]
  · simp [e]

theorem own_get {g : VwF} {k : K2} (h : 0 ≤ plc k) : ownOf (vgetT g k) = ownOf g := by
  funext j
  unfold ownOf vgetT
  rw [if_pos h, note_upd]
  by_cases e : j = k
  · subst e; simp
  · simp [e]

theorem own_none : ownOf (fun _ => none) = fun _ => none := rfl

theorem seen_get {f : StF} {g : VwF} {k : K2} (h : 0 ≤ plc k) : vgetF f g k = seenF f (ownOf g) k := by
  unfold vgetF seenF ownOf
  rw [if_pos h]
  split <;> rfl

theorem upto_nodup (f : Nat → Bool) (n : Nat) (hn : n ≤ 55) : (upto f n).Nodup := by
  unfold upto
  refine List.pairwise_map.2 ?_
  have h1 : ((List.range n).filter f).Pairwise (fun a b => a < n ∧ b < n ∧ a ≠ b) := by
    have h0 : ((List.range n).filter f).Nodup := List.Pairwise.filter _ List.nodup_range
    refine List.Pairwise.imp_of_mem ?_ h0
    intro a b ha hb hne
    exact ⟨by simpa using (List.mem_filter.1 ha).1, by simpa using (List.mem_filter.1 hb).1, hne⟩
  refine h1.imp ?_
  rintro a b ⟨ha, hb, hne⟩ e
  have := keyAt_inj (p := (a : Int)) (q := (b : Int)) (by omega) (by omega) (by omega) (by omega) e
  exact hne (by omega)

theorem wrote_mem {g : VwF} (hg : ∀ k, (g k).isSome = true → 0 ≤ plc k) (k : K2) : k ∈ wroteF g ↔ (ownOf g k).isSome = true := by
  unfold wroteF
  rw [upto_mem]
  constructor
  · rintro ⟨p, hp, hf, rfl⟩
    unfold isF at hf
    unfold ownOf noteF
    cases hk : g (keyAt (p : Int)) with
    | none => rw [hk] at hf; cases hf
    | some t => rw [hk] at hf; simp only at hf; rw [Option.getD_some, if_pos (show t.2.1 = true from hf)]; rfl
  · intro h
    unfold ownOf noteF at h
    cases hk : g k with
    | none => rw [hk] at h; simp at h
    | some t =>
      rw [hk] at h
      have hp := hg k (by rw [hk]; rfl)
      have hb := plc_bounds k
      refine ⟨(plc k).toNat, by omega, ?_, ?_⟩
      · unfold isF
        rw [show (((plc k).toNat : Nat) : Int) = plc k by omega, keyAt_plc hp, hk]
        show t.2.1 = true
        rcases t with ⟨a, b, c⟩
        cases b with
        | true => rfl
        | false => simp at h
      · rw [show (((plc k).toNat : Nat) : Int) = plc k by omega, keyAt_plc hp]

theorem redo_len (g : VwF) : (redoF g).length = (wroteF g).length := by simp [redoF]

theorem look_vok {B : Nat} {f : StF} {w : World} (h : MapIn kv vv B f w) (k : K2) : (Instr.lookup 63 (.map (some B)) (kv k) true).run Try.prog w = .ok (.tuple #[vv (lookF f k), .bool (f k).isSome]) w := by
  have := h.look keyok_kv mapV zero_value k true
  rw [this]
  unfold lookF
  cases f k <;> rfl

theorem OwnR.shape {α : Type} {cs : α → List Value} {n : Nat} {ty : TypeId} {w0 w : World} {v : Value} {l : List α} (h : OwnR cs n ty w0 v l w) : ∃ ao c, v = .slice ao l.length c := by
  rcases h.form with ⟨rfl, rfl⟩ | ⟨g, c, rfl, _⟩
  · exact ⟨_, _, rfl⟩
  · exact ⟨_, _, rfl⟩

end Go.Proofs.Ytigfgnaakoicjaa

namespace Go.Proofs.Ytigfgnaakoicjaa
open Go.RowKit
set_option maxRecDepth 100000
set_option linter.unusedSimpArgs false

def bv (b : Bool) : Value := .bool b
def rdOf (g : VwF) : K2 → Option Bool := fun k => if (noteF g k).1 = true then some true else none

theorem rd_none : rdOf (fun _ => none) = fun _ => none := rfl
theorem rd_get {g : VwF} {k : K2} (h : 0 ≤ plc k) : rdOf (vgetT g k) = upd (rdOf g) k true := by
  funext j
  unfold rdOf vgetT
  rw [if_pos h, note_upd]
  unfold upd
  by_cases e : j = k
  · simp [e]
  · simp [e]
theorem rd_put {g : VwF} {k : K2} {x : V} (h : 0 ≤ plc k) : rdOf (vputT g k x) = rdOf g := by
  funext j
  unfold rdOf vputT
  rw [if_pos h, note_upd]
  by_cases e : j = k
  · subst e; simp
  · simp [e]
theorem own_good {g : VwF} (hg : ∀ k, (g k).isSome = true → 0 ≤ plc k) : ∀ k, (ownOf g k).isSome = true → 0 ≤ plc k := by
  intro k h
  apply hg
  unfold ownOf noteF at h
  cases hk : g k with
  | none => rw [hk] at h; simp at h
  | some t => rfl

structure RViewIn (q R W p : Nat) (g : VwF) (w : World) : Prop where
  cell : w.heap[q]? = some (.cells #[.pointer (some ⟨p, 0, none⟩), .map (some R), .map (some W)] 77 (0, 0))
  r : MapIn iv bv R (byP (rdOf g)) w
  w : MapIn iv vv W (byP (ownOf g)) w
  good : ∀ k, (g k).isSome = true → 0 ≤ plc k
  ne : R ≠ W

theorem RViewIn.kept {X : Nat → Prop} {q R W p : Nat} {g : VwF} {w w' : World} (h : RViewIn q R W p g w) (hk : Kept X w w') (hq : ¬ X q) (hR : ¬ X R) (hW : ¬ X W) : RViewIn q R W p g w' :=
  ⟨hk.at h.cell hq, h.r.kept hk hR, h.w.kept hk hW, h.good, h.ne⟩
theorem RViewIn.still {q R W p : Nat} {g : VwF} {w w' : World} (h : RViewIn q R W p g w) (hk : Kept (fun _ => False) w w') : RViewIn q R W p g w' := h.kept hk (fun x => x) (fun x => x) (fun x => x)

theorem rview_w (p : Nat) (w : World) : Calls Try.prog 29 #[.pointer (some ⟨p, 0, none⟩)] w
    fun e w' => ∃ q R W, e = .returned (.pointer (some ⟨q, 0, none⟩)) ∧ RViewIn q R W p (fun _ => none) w' ∧ Kept (fun _ => False) w w' ∧ w.heap.size ≤ q ∧ w.heap.size ≤ R ∧ w.heap.size ≤ W := by
  obtain ⟨E, hE⟩ : ∃ E : Nat, w.heap.size = E := ⟨_, rfl⟩
  have hmm := @run_makeMap Try.prog
  go_enter Try.func29, Try.ntmps29
  go_wp2
  go_ret
  exact ⟨E + 2, E, E + 1, rfl, ⟨alloc_at' _ (by simp [hE]), by rw [rd_none, byP_none]; exact (MapIn.made hE).still (((Kept.refl _ _).alloc _).alloc _), by rw [own_none, byP_none]; exact (MapIn.made (by simp [hE])).still ((Kept.refl _ _).alloc _), by simp, by omega⟩, (((Kept.refl _ _).alloc _).alloc _).alloc _, by omega, by omega, by omega⟩

/-! Lists. -/
def isB (F : Int → Option Bool) (p : Nat) : Bool := (F (p : Int)).getD false

theorem rlook_b {B : Nat} {F : Int → Option Bool} {w : World} (h : MapIn iv bv B F w) (p : Nat) : (Instr.lookup 75 (.map (some B)) (.int .i64 (p : Int)) false).run Try.prog w = .ok (.bool (isB F p)) w := by
  have := h.look keyok_iv mapRS zero_bool (p : Int) false
  rw [show (Value.int .i64 (p : Int)) = iv (p : Int) from rfl, this]
  unfold isB
  cases F (p : Int) <;> rfl

end Go.Proofs.Ytigfgnaakoicjaa

namespace Go.Proofs.Ytigfgnaakoicjaa
open Go.RowKit
set_option maxRecDepth 100000
set_option linter.unusedSimpArgs false

def wrB (F : Int → Option V) : Int → Option Bool := fun j => if (F j).isSome = true then some true else none
def doneB {ν : Type} (F : Int → Option ν) (left : Int → Bool) (G : Int → Option Bool) : Int → Option Bool := fun j => if (F j).isSome && !left j then some true else G j

theorem done_start {ν : Type} (F : Int → Option ν) (G : Int → Option Bool) : doneB F (fun j => (F j).isSome) G = G := by
  funext j; unfold doneB; cases h : (F j).isSome <;> simp [h]
theorem done_step {ν : Type} {F : Int → Option ν} {left : Int → Bool} {G : Int → Option Bool} {k : Int} {v : ν} (h : F k = some v) : doneB F (fun j => left j && !decide (j = k)) G = upd (doneB F left G) k true := by
  funext j
  unfold doneB upd
  by_cases e : j = k
  · subst e; simp [h]
  · simp [e]
theorem done_end {ν : Type} {F : Int → Option ν} {left : Int → Bool} {G : Int → Option Bool} (h : ∀ k, left k = false) : doneB F left G = fun j => if (F j).isSome = true then some true else G j := by
  funext j; unfold doneB; rw [h j]; simp

theorem kept_two {B r : Nat} {a b c : World} (h : Kept (fun n => n = r) a b) (g : Kept (fun n => n = B) b c) : Kept (fun n => n = r ∨ n = B) a c :=
  (h.mono (fun _ _ e => .inl e)).trans g (fun _ _ e => .inr e)

theorem upto_same {f h : Nat → Bool} (n : Nat) (e : ∀ p, p < n → f p = h p) : upto f n = upto h n := by
  unfold upto
  congr 1
  exact List.filter_congr (fun p hp => e p (by simpa using hp))

theorem byP_at {ν : Type} (f : K2 → Option ν) {p : Nat} (h : p < 55) : byP f (p : Int) = f (keyAt p) := by
  unfold byP; rw [if_pos (by omega)]

theorem reads_same (g : VwF) : upto (isB (byP (rdOf g))) 55 = readsF g := by
  refine upto_same 55 (fun p hp => ?_)
  unfold isB isF
  rw [byP_at _ hp]
  unfold rdOf noteF
  cases g (keyAt (p : Int)) with
  | none => rfl
  | some t => rcases t with ⟨a, b, c⟩; cases a <;> rfl

theorem wrote_same (g : VwF) : upto (isB (fun j => if (byP (ownOf g) j).isSome = true then some true else none)) 55 = wroteF g := by
  refine upto_same 55 (fun p hp => ?_)
  unfold isB isF
  dsimp only
  rw [byP_at _ hp]
  unfold ownOf noteF
  cases g (keyAt (p : Int)) with
  | none => rfl
  | some t => rcases t with ⟨a, b, c⟩; cases b <;> rfl

/-- Each object that is noted was read or written. -/
def Noted (g : VwF) : Prop := ∀ k t, g k = some t → t.1 = true ∨ t.2.1 = true

theorem noted_none : Noted (fun _ => none) := fun _ _ h => by cases h
theorem noted_get {g : VwF} (h : Noted g) (k : K2) : Noted (vgetT g k) := by
  intro j t hj
  unfold vgetT at hj
  split at hj
  · unfold upd at hj
    split at hj
    · cases hj; exact .inl rfl
    · exact h j t hj
  · exact h j t hj
theorem noted_put {g : VwF} (h : Noted g) (k : K2) (x : V) : Noted (vputT g k x) := by
  intro j t hj
  unfold vputT at hj
  split at hj
  · unfold upd at hj
    split at hj
    · cases hj; exact .inr rfl
    · exact h j t hj
  · exact h j t hj

end Go.Proofs.Ytigfgnaakoicjaa

namespace Go.Proofs.Ytigfgnaakoicjaa
open Go.RowKit
set_option maxRecDepth 100000
set_option linter.unusedSimpArgs false

theorem rlook_w {B : Nat} {g : VwF} {w : World} (hg : ∀ k, (g k).isSome = true → 0 ≤ plc k) (h : MapIn iv vv B (byP (ownOf g)) w) {k : K2} (hk : k ∈ wroteF g) : (Instr.lookup 66 (.map (some B)) (.int .i64 (plc k)) false).run Try.prog w = .ok (vv (noteF g k).2.2) w := by
  rw [rlook_v (own_good hg) h k]
  have := (wrote_mem hg k).1 hk
  unfold lookF ownOf at *
  split at this
  · rename_i h1; rw [if_pos h1]; rfl
  · simp at this

end Go.Proofs.Ytigfgnaakoicjaa

namespace Go.Proofs.Ytigfgnaakoicjaa
open Go.RowKit
set_option maxRecDepth 100000

/-- The store and a view of it, and the reference's. -/
structure GameIn (w0 : World) (p B q N rp rB rq R W : Nat) (f f2 : StF) (g g2 : VwF) (w : World) : Prop where
  s : StoreIn p B f w
  v : ViewIn q N p g w
  rs : RStoreIn rp rB f2 w
  rv : RViewIn rq R W rp g2 w
  kept : Kept (fun _ => False) w0 w
  nB : w0.heap.size ≤ B
  nN : w0.heap.size ≤ N
  nrB : w0.heap.size ≤ rB
  nR : w0.heap.size ≤ R
  nW : w0.heap.size ≤ W
  a1 : B ≠ N
  a2 : B ≠ rB
  a3 : B ≠ R
  a4 : B ≠ W
  a5 : N ≠ rB
  a6 : N ≠ R
  a7 : N ≠ W
  a8 : rB ≠ R
  a9 : rB ≠ W

section
variable {w0 : World} {p B q N rp rB rq R W : Nat} {f f2 f' : StF} {g g2 g' : VwF} {w w' : World}

theorem GameIn.still (h : GameIn w0 p B q N rp rB rq R W f f2 g g2 w) (hk : Kept (fun _ => False) w w') : GameIn w0 p B q N rp rB rq R W f f2 g g2 w' :=
  { h with s := h.s.still hk, v := h.v.still hk, rs := h.rs.still hk, rv := h.rv.still hk, kept := h.kept.thru hk }
theorem GameIn.putS (h : GameIn w0 p B q N rp rB rq R W f f2 g g2 w) (hs : StoreIn p B f' w') (hk : Kept (fun n => n = B) w w') : GameIn w0 p B q N rp rB rq R W f' f2 g g2 w' :=
  { h with s := hs, v := h.v.kept hk (fun e => h.s.map.off h.v.cell e) (fun e => h.a1 e.symm), rs := h.rs.kept hk (fun e => h.s.map.off h.rs.cell e) (fun e => h.a2 e.symm),
           rv := h.rv.kept hk (fun e => h.s.map.off h.rv.cell e) (fun e => h.a3 e.symm) (fun e => h.a4 e.symm), kept := h.kept.trans hk (fun k h1 h2 => by have := h.nB; omega) }
theorem GameIn.putR (h : GameIn w0 p B q N rp rB rq R W f f2 g g2 w) (hs : RStoreIn rp rB f' w') (hk : Kept (fun n => n = rB) w w') : GameIn w0 p B q N rp rB rq R W f f' g g2 w' :=
  { h with rs := hs, s := h.s.kept hk (fun e => h.rs.map.off h.s.cell e) h.a2, v := h.v.kept hk (fun e => h.rs.map.off h.v.cell e) h.a5,
           rv := h.rv.kept hk (fun e => h.rs.map.off h.rv.cell e) (fun e => h.a8 e.symm) (fun e => h.a9 e.symm), kept := h.kept.trans hk (fun k h1 h2 => by have := h.nrB; omega) }
theorem GameIn.putV (h : GameIn w0 p B q N rp rB rq R W f f2 g g2 w) (hv : ViewIn q N p g' w') (hk : Kept (fun n => n = N) w w') : GameIn w0 p B q N rp rB rq R W f f2 g' g2 w' :=
  { h with v := hv, s := h.s.kept hk (fun e => h.v.map.off h.s.cell e) h.a1, rs := h.rs.kept hk (fun e => h.v.map.off h.rs.cell e) (fun e => h.a5 e.symm),
           rv := h.rv.kept hk (fun e => h.v.map.off h.rv.cell e) (fun e => h.a6 e.symm) (fun e => h.a7 e.symm), kept := h.kept.trans hk (fun k h1 h2 => by have := h.nN; omega) }
theorem GameIn.getX (h : GameIn w0 p B q N rp rB rq R W f f2 g g2 w) (hv : RViewIn rq R W rp g' w') (hk : Kept (fun n => n = R) w w') : GameIn w0 p B q N rp rB rq R W f f2 g g' w' :=
  { h with rv := hv, s := h.s.kept hk (fun e => h.rv.r.off h.s.cell e) h.a3, rs := h.rs.kept hk (fun e => h.rv.r.off h.rs.cell e) h.a8,
           v := h.v.kept hk (fun e => h.rv.r.off h.v.cell e) h.a6, kept := h.kept.trans hk (fun k h1 h2 => by have := h.nR; omega) }
theorem GameIn.putX (h : GameIn w0 p B q N rp rB rq R W f f2 g g2 w) (hv : RViewIn rq R W rp g' w') (hk : Kept (fun n => n = W) w w') : GameIn w0 p B q N rp rB rq R W f f2 g g' w' :=
  { h with rv := hv, s := h.s.kept hk (fun e => h.rv.w.off h.s.cell e) h.a4, rs := h.rs.kept hk (fun e => h.rv.w.off h.rs.cell e) h.a9,
           v := h.v.kept hk (fun e => h.rv.w.off h.v.cell e) h.a7, kept := h.kept.trans hk (fun k h1 h2 => by have := h.nW; omega) }
end

theorem redo_le (g : VwF) : (redoF g).length ≤ 55 := by rw [redo_len]; exact upto_len _ _
theorem reads_le (g : VwF) : (readsF g).length ≤ 55 := upto_len _ _
end Go.Proofs.Ytigfgnaakoicjaa
