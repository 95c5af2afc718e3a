
/- What the reference's store does when it is called; no conditions. -/
import Derived.Test.YtkpcillgoeidaaaRedo
import Derived.Test.YtkpcillgoeidaaaRef
namespace Go.Proofs.Ytkpcillgoeidaaa
open Go.RowKit
set_option maxRecDepth 100000
set_option linter.unusedSimpArgs false

theorem mapRV : Try.prog.underlying 98 = some (.map 3 64) := Try.underlying98
theorem mapRS : Try.prog.underlying 114 = some (.map 3 4) := Try.underlying114

def byP {ν : Type} (f : K2 → Option ν) : Int → Option ν := fun j => if 0 ≤ j ∧ j < 55 then f (keyAt j) else none

theorem byP_none {ν : Type} : byP (fun _ => (none : Option ν)) = fun _ => none := by
  funext j; unfold byP; split <;> rfl

theorem byP_plc {ν : Type} {f : K2 → Option ν} (hg : ∀ k, (f k).isSome = true → 0 ≤ plc k) (k : K2) : byP f (plc k) = f k := by
  have hb := plc_bounds k
  unfold byP
  by_cases h : 0 ≤ plc k
  · rw [if_pos ⟨h, hb.2⟩, keyAt_plc h]
  · rw [if_neg (by omega)]
    cases hf : f k with
    | none => rfl
    | some t => exact absurd (hg k (by rw [hf]; rfl)) h

theorem byP_upd {ν : Type} {f : K2 → Option ν} {k : K2} (h : 0 ≤ plc k) (v : ν) : upd (byP f) (plc k) v = byP (upd f k v) := by
  funext j
  have hb := plc_bounds k
  unfold upd byP
  by_cases e : j = plc k
  · subst e
    rw [if_pos rfl, if_pos ⟨h, hb.2⟩, keyAt_plc h]
    exact (if_pos rfl).symm
  · rw [if_neg e]
    split
    · rename_i hj
      refine (if_neg ?_).symm
      intro e2
      exact e (by rw [← e2, plc_keyAt hj.1 hj.2])
    · rfl

structure RStoreIn (p B : Nat) (f : StF) (w : World) : Prop where
  cell : w.heap[p]? = some (.cells #[.map (some B)] 100 (0, 0))
  map : MapIn iv vv B (byP f) w
  good : ∀ k, (f k).isSome = true → 0 ≤ plc k

theorem RStoreIn.kept {X : Nat → Prop} {p B : Nat} {f : StF} {w w' : World} (h : RStoreIn p B f w) (hk : Kept X w w') (hp : ¬ X p) (hB : ¬ X B) : RStoreIn p B f w' :=
  ⟨hk.at h.cell hp, h.map.kept hk hB, h.good⟩
theorem RStoreIn.still {p B : Nat} {f : StF} {w w' : World} (h : RStoreIn p B f w) (hk : Kept (fun _ => False) w w') : RStoreIn p B f w' := h.kept hk (fun x => x) (fun x => x)

theorem rlook_v {B : Nat} {f : StF} {w : World} (hg : ∀ k, (f k).isSome = true → 0 ≤ plc k) (h : MapIn iv vv B (byP f) w) (k : K2) : (Instr.lookup 98 (.map (some B)) (.int .i64 (plc k)) false).run Try.prog w = .ok (vv (lookF f k)) w := by
  have := h.look keyok_iv mapRV zero_value (plc k) false
  rw [byP_plc hg] at this
  rw [show (Value.int .i64 (plc k)) = iv (plc k) from rfl, this]
  unfold lookF
  cases f k <;> rfl

theorem rlook_ok {B : Nat} {f : StF} {w : World} (hg : ∀ k, (f k).isSome = true → 0 ≤ plc k) (h : MapIn iv vv B (byP f) w) (k : K2) : (Instr.lookup 98 (.map (some B)) (.int .i64 (plc k)) true).run Try.prog w = .ok (.tuple #[vv (lookF f k), .bool (f k).isSome]) w := by
  have := h.look keyok_iv mapRV zero_value (plc k) true
  rw [byP_plc hg] at this
  rw [show (Value.int .i64 (plc k)) = iv (plc k) from rfl, this]
  unfold lookF
  cases f k <;> rfl

theorem rnew_w (w : World) : Calls Try.prog 30 #[] w fun e w' => ∃ p B, e = .returned (.pointer (some ⟨p, 0, none⟩)) ∧ RStoreIn p B (fun _ => none) w' ∧ Kept (fun _ => False) w w' ∧ w.heap.size ≤ p ∧ w.heap.size ≤ B := by
  obtain ⟨E, hE⟩ : ∃ E : Nat, w.heap.size = E := ⟨_, rfl⟩
  have hmm := @run_makeMap Try.prog
  go_enter Try.func30, Try.ntmps30
  go_wp2
  go_ret
  exact ⟨E + 1, E, rfl, ⟨alloc_at' _ (by simp [hE]), by rw [byP_none]; exact (MapIn.made hE).still ((Kept.refl _ _).alloc _), by simp⟩, ((Kept.refl _ _).alloc _).alloc _, by omega, by omega⟩

set_option maxHeartbeats 400000 in
theorem rput_w (p B : Nat) (f : StF) (x y : Int) (v : V) (w : World) (h : RStoreIn p B f w) : Calls Try.prog 32 #[.pointer (some ⟨p, 0, none⟩), .agg #[.int .i64 x, .int .i64 y], vv v] w
    fun e w' => e = .returned (.bool (decide (0 ≤ plc (x, y)))) ∧ RStoreIn p B (putF f (x, y) v) w' ∧ Kept (fun n => n = B) w w' := by
  obtain ⟨E, hE⟩ : ∃ E : Nat, w.heap.size = E := ⟨_, rfl⟩
  rw [vv_is]
  go_enter Try.func32, Try.ntmps32
  obtain ⟨wA, hA⟩ : ∃ wA, (w.alloc (.cells #[.int .i64 x, .int .i64 y] 61)).alloc (.cells (vc v).toArray 64) = wA := ⟨_, rfl⟩
  have T := refplace_w x y wA
  have hkA : Kept (fun _ => False) w wA := by subst hA; exact ((Kept.refl _ _).alloc _).alloc _
  have hk : wA.heap[E]? = some (.cells #[.int .i64 x, .int .i64 y] 61 (0, 0)) := by subst hA; exact alloc_off (alloc_at' _ hE)
  have hz : wA.heap[E + 1]? = some (.cells (vc v).toArray 64 (0, 0)) := by subst hA; exact alloc_at' _ (by simp [hE])
  have c0 := cell_at hk (i := 0) rfl
  have c1 := cell_at hk (i := 1) rfl
  go_wp2_with fail
  clear hA c0 c1
  refine T.mono ?_
  rintro e w1 ⟨rfl, hk1⟩
  clear T
  replace hk := hk1.at hk (fun x => x)
  replace hz := hk1.at hz (fun x => x)
  replace hkA := hkA.thru hk1
  clear hk1
  by_cases hpl : plc (x, y) < 0
  · have HS : Hid (RStoreIn p B (putF f (x, y) v) w1) := by show RStoreIn _ _ _ _; unfold putF; rw [if_neg (by omega)]; exact h.still hkA
    have hW : Hid (Kept (fun n => n = B) w w1) := hkA.mono (fun _ _ e => e.elim)
    have hd : Hid (decide (0 ≤ plc (x, y)) = false) := by show _ = _; simpa using hpl
    clear h
    go_wp2
    go_ret
    exact ⟨by rw [hd.out]; rfl, HS.out, hW.out⟩
  · have hd : Hid (decide (0 ≤ plc (x, y)) = true) := by show _ = _; simpa using hpl
    go_wp2_with fail
    have hp : p < E := by have := lt_at h.cell; omega
    have hB : B < E := by have := h.map.lt; omega
    have hne : p ≠ B := h.map.off h.cell
    have h1 := h.still hkA
    have KS : ∀ w', Kept (fun n => n = B) w1 w' → (w'.cell? ⟨p, 0, none⟩ = some (.map (some B)) ∧ w'.cell? ⟨E, 0, none⟩ = some (.int .i64 x) ∧ w'.cell? ⟨E, 1, none⟩ = some (.int .i64 y)) :=
      fun w' hk' => ⟨hk'.cell (cell_at h1.cell rfl) hne, hk'.cell (cell_at hk rfl) (by simp; omega), hk'.cell (cell_at hk rfl) (by simp; omega)⟩
    have KV : ∀ w', Kept (fun n => n = B) w1 w' → w'.rangeAt (E + 1) 0 (vc v) := fun w' hk' => range_kept (whole_range hz) hk' (by omega)
    refine wp_region_held_drew (S := fun w' => Kept (fun n => n = B) w1 w') (by kernel_rfl) ((Kept.refl _ _).drew) (fun hHeld => ?_)
    refine h_take 0 (some 10) (Op.move (Operand.tmp 0)) 28 ?v1 rfl rfl (by kernel_rfl) (by kernel_rfl) (by kernel_rfl) (fun _ _ _ h => h) ?hy1 hHeld ?_
    case hy1 => (intro _ _ _ w hSw; have hcs := KS _ hSw; go_simp; try with_reducible rfl)
    simp only [Act.put, List.setIfInBounds_toArray, List.set_cons_zero, List.set_cons_succ]
    refine h_take 1 (some 11) (Op.nilCheck (Operand.tmp 10)) 0 ?v2 rfl rfl (by kernel_rfl) (by kernel_rfl) (by kernel_rfl) (fun _ _ _ h => h) ?hy2 hHeld ?_
    case hy2 => (intro _ _ _ w hSw; have hcs := KS _ hSw; go_simp; try with_reducible rfl)
    simp only [Act.put, List.setIfInBounds_toArray, List.set_cons_zero, List.set_cons_succ]
    refine h_take 2 (some 12) (Op.fieldAddr 100 (Operand.tmp 11) 0) 0 ?v3 rfl rfl (by kernel_rfl) (by kernel_rfl) (by kernel_rfl) (fun _ _ _ h => h) ?hy3 hHeld ?_
    case hy3 => (intro _ _ _ w hSw; have hcs := KS _ hSw; go_simp; try with_reducible rfl)
    simp only [Act.put, List.setIfInBounds_toArray, List.set_cons_zero, List.set_cons_succ]
    refine h_take 3 (some 13) (Op.load 98 (Operand.tmp 12)) 98 ?v4 rfl rfl (by kernel_rfl) (by kernel_rfl) (by kernel_rfl) (fun _ _ _ h => h) ?hy4 hHeld ?_
    case hy4 => (intro _ _ _ w hSw; have hcs := KS _ hSw; go_simp; try with_reducible rfl)
    simp only [Act.put, List.setIfInBounds_toArray, List.set_cons_zero, List.set_cons_succ]
    refine h_take 4 (some 14) (Op.load 61 (Operand.tmp 4)) 61 ?v5 rfl rfl (by kernel_rfl) (by kernel_rfl) (by kernel_rfl) (fun _ _ _ h => h) ?hy5 hHeld ?_
    case hy5 => (intro _ _ _ w hSw; have hcs := KS _ hSw; go_simp; try with_reducible rfl)
    simp only [Act.put, List.setIfInBounds_toArray, List.set_cons_zero, List.set_cons_succ]
    refine h_take 6 (some 16) (Op.load 64 (Operand.tmp 5)) 64 (vv v) rfl rfl (by kernel_rfl) (by kernel_rfl) (by kernel_rfl) (fun _ _ _ h => h) (fun _ _ _ w hSw => exec_load rfl (load_wide wide_V (KV w hSw) rfl)) hHeld ?_
    simp only [Act.put, List.setIfInBounds_toArray, List.set_cons_zero, List.set_cons_succ]
    refine h_step 5 (some 15) (Op.call { callee := Callee.value (Operand.func 62), args := #[Operand.tmp 14], argTypes := #[61] }) 3 rfl rfl (by kernel_rfl) (fun _ _ _ K hK => ?_)
    go_simp
    refine (refplace_w x y _).mono ?_
    rintro e w2 ⟨rfl, hk2⟩
    have k2 : Kept (fun _ => False) w1 w2 := (Kept.refl _ w1).drew.thru hk2
    go_wp2_with fail
    refine hK.out _ _ (k2.mono (fun _ _ e => e.elim)) (fun hHeld => ?_)
    clear hK K
    try simp only [Act.put, List.setIfInBounds_toArray, List.set_cons_zero, List.set_cons_succ]
    obtain ⟨w3, hr, hm, hk3, hsz⟩ := MapIn.store (w := w2) (h1.map.still k2) keyok_iv mapRV (plc (x, y)) v
    refine h_step 7 (none) (Op.mapUpdate 98 (Operand.tmp 13) (Operand.tmp 15) (Operand.tmp 16)) 0 rfl rfl (by kernel_rfl) (fun _ _ _ K hK => ?_)
    refine wp_skip (exec_update rfl rfl rfl hr) ?_
    refine hK.out _ _ ((k2.mono (fun _ _ e => e.elim)).trans hk3 (fun _ _ e => e)) (fun hHeld => ?_)
    clear hK K
    try simp only [Act.put, List.setIfInBounds_toArray, List.set_cons_zero, List.set_cons_succ]
    refine wpAnyH_done (by kernel_rfl) ?_ _
    have hW : Hid (Kept (fun n => n = B) w w3) := ((hkA.thru k2).mono (fun _ _ e => e.elim)).trans hk3 (fun _ _ e => e)
    have hS : Hid (RStoreIn p B (putF f (x, y) v) w3) := ⟨hW.out.at h.cell hne, by rw [byP_upd (by omega)] at hm; unfold putF; rw [if_pos (by omega)]; exact hm, putF_good h.good _ _⟩
    clear hHeld KS KV hr hm hk3 hsz k2 hk2 h1 h hk hz hkA
    go_wp2
    go_ret
    exact ⟨by rw [hd.out]; rfl, hS.out, hW.out⟩
end Go.Proofs.Ytkpcillgoeidaaa
