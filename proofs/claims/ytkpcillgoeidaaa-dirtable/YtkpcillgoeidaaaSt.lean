
/- What New, Get, Put, Twin of a store do when they are called; no conditions. -/
import Derived.Test.YtkpcillgoeidaaaExec
namespace Go.Proofs.Ytkpcillgoeidaaa
open Go.RowKit
set_option maxRecDepth 100000
set_option linter.unusedSimpArgs false

abbrev K2 := Int × Int
abbrev StF := K2 → Option V

theorem mapV : Try.prog.underlying 95 = some (.map 61 64) := Try.underlying95

def lookF (f : StF) (k : K2) : V := (f k).getD zeroV

structure StoreIn (p B : Nat) (f : StF) (w : World) : Prop where
  cell : w.heap[p]? = some (.cells #[.map (some B)] 97 (0, 0))
  map : MapIn kv vv B f w
  good : ∀ k, (f k).isSome = true → 0 ≤ plc k

theorem look_v {B : Nat} {f : StF} {w : World} (h : MapIn kv vv B f w) (k : K2) : (Instr.lookup 95 (.map (some B)) (kv k) false).run Try.prog w = .ok (vv (lookF f k)) w := by
  have := h.look keyok_kv mapV zero_value k false
  rw [this]
  unfold lookF
  cases f k <;> rfl

theorem there_w (x y : Int) (w : World) : Calls Try.prog 61 #[.agg #[.int .i64 x, .int .i64 y]] w fun e w' => e = .returned (.bool (decide (0 ≤ plc (x, y)))) ∧ Kept (fun _ => False) w w' := by
  have P := place_w (x, y) (w.alloc (.cells #[.int .i64 x, .int .i64 y] 61))
  unfold kv at P
  have HK : Hid (Kept (fun _ => False) w (w.alloc (.cells #[.int .i64 x, .int .i64 y] 61))) := (Kept.refl _ _).alloc _
  go_enter Try.func61, Try.ntmps61
  go_wp2_with fail
  refine P.mono ?_
  rintro e w1 ⟨rfl, hk⟩
  go_wp2
  go_ret
  exact ⟨rfl, HK.out.thru hk⟩

theorem zero_cells : (vc zeroV).toArray = #[.int .i64 0, .int .i64 0, .int .i64 0, .int .i64 0, .int .i64 0, .int .i64 0, .int .i64 0, .int .i64 0, .int .i64 0, .int .i64 0, .int .i64 0, .int .i64 0, .int .i64 0, .int .i64 0, .int .i64 0, .int .i64 0, .string { data := #[] }] := rfl

theorem get_w (p B : Nat) (f : StF) (x y : Int) (w : World) (h : StoreIn p B f w) : Calls Try.prog 65 #[.pointer (some ⟨p, 0, none⟩), .agg #[.int .i64 x, .int .i64 y]] w fun e w' => e = .returned (vv (lookF f (x, y))) ∧ Kept (fun _ => False) w w' := by
  obtain ⟨E, hE⟩ : ∃ E : Nat, w.heap.size = E := ⟨_, rfl⟩
  go_enter Try.func65, Try.ntmps65
  go_wp2_with fail
  rw [← zero_cells]
  obtain ⟨wA, hA⟩ : ∃ wA, (w.alloc (.cells #[.int .i64 x, .int .i64 y] 61)).alloc (.cells (vc zeroV).toArray 64) = wA := ⟨_, rfl⟩
  have hkA : Kept (fun _ => False) w wA := by subst hA; exact ((Kept.refl _ _).alloc _).alloc _
  have hk : wA.heap[E]? = some (.cells #[.int .i64 x, .int .i64 y] 61 (0, 0)) := by subst hA; exact alloc_off (alloc_at' _ hE)
  have hz : wA.heap[E + 1]? = some (.cells (vc zeroV).toArray 64 (0, 0)) := by subst hA; exact alloc_at' _ (by simp [hE])
  rw [hA]
  clear hA
  have hp : p < E := by have := lt_at h.cell; omega
  have hB : B < E := by have := h.map.lt; omega
  have KS : ∀ w', Kept (fun n => n = E + 1) wA w' → (w'.cell? ⟨p, 0, none⟩ = some (.map (some B)) ∧ w'.cell? ⟨E, 0, none⟩ = some (.int .i64 x) ∧ w'.cell? ⟨E, 1, none⟩ = some (.int .i64 y)) :=
    fun w' hk' => ⟨hk'.cell (cell_at (hkA.at h.cell (fun x => x)) rfl) (by simp; omega), hk'.cell (cell_at hk rfl) (by simp), hk'.cell (cell_at hk rfl) (by simp)⟩
  have KM : ∀ w', Kept (fun n => n = E + 1) wA w' → (Instr.lookup 95 (.map (some B)) (.agg #[.int .i64 x, .int .i64 y]) false).run Try.prog w' = .ok (vv (lookF f (x, y))) w' :=
    fun w' hk' => look_v ((h.map.still hkA).kept hk' (by omega)) (x, y)
  refine wp_region_held_drew (S := fun w' => Kept (fun n => n = E + 1) wA w') (by kernel_rfl) ((Kept.refl _ _).drew) (fun hHeld => ?_)
  refine h_take 0 (some 5) (Op.move (Operand.tmp 0)) 26 ?v1 rfl rfl (by kernel_rfl) (by kernel_rfl) (by kernel_rfl) (fun _ _ _ h => h) ?hy1 hHeld ?_
  case hy1 => (intro _ _ _ w hSw; have hcs := KS _ hSw; go_simp; try with_reducible rfl)
  simp only [Act.put, List.setIfInBounds_toArray, List.set_cons_zero, List.set_cons_succ]
  refine h_take 1 (some 6) (Op.nilCheck (Operand.tmp 5)) 0 ?v2 rfl rfl (by kernel_rfl) (by kernel_rfl) (by kernel_rfl) (fun _ _ _ h => h) ?hy2 hHeld ?_
  case hy2 => (intro _ _ _ w hSw; have hcs := KS _ hSw; go_simp; try with_reducible rfl)
  simp only [Act.put, List.setIfInBounds_toArray, List.set_cons_zero, List.set_cons_succ]
  refine h_take 2 (some 7) (Op.fieldAddr 97 (Operand.tmp 6) 0) 0 ?v3 rfl rfl (by kernel_rfl) (by kernel_rfl) (by kernel_rfl) (fun _ _ _ h => h) ?hy3 hHeld ?_
  case hy3 => (intro _ _ _ w hSw; have hcs := KS _ hSw; go_simp; try with_reducible rfl)
  simp only [Act.put, List.setIfInBounds_toArray, List.set_cons_zero, List.set_cons_succ]
  refine h_take 3 (some 8) (Op.load 95 (Operand.tmp 7)) 95 (.map (some B)) rfl rfl (by kernel_rfl) (by kernel_rfl) (by kernel_rfl) (fun _ _ _ h => h) ?_ hHeld ?_
  · intro _ _ _ w hSw; have hcs := KS _ hSw; go_simp
  simp only [Act.put, List.setIfInBounds_toArray, List.set_cons_zero, List.set_cons_succ]
  refine h_take 4 (some 9) (Op.load 61 (Operand.tmp 3)) 61 (.agg #[.int .i64 x, .int .i64 y]) rfl rfl (by kernel_rfl) (by kernel_rfl) (by kernel_rfl) (fun _ _ _ h => h) ?_ hHeld ?_
  · intro _ _ _ w hSw; have hcs := KS _ hSw; go_simp
  simp only [Act.put, List.setIfInBounds_toArray, List.set_cons_zero, List.set_cons_succ]
  refine h_take 5 (some 10) (Op.lookup 95 (Operand.tmp 8) (Operand.tmp 9) false) 64 (vv (lookF f (x, y))) rfl rfl (by kernel_rfl) (by kernel_rfl) (by kernel_rfl) (fun _ _ _ h => h) (fun _ _ _ w hSw => exec_look rfl rfl (KM w hSw)) hHeld ?_
  simp only [Act.put, List.setIfInBounds_toArray, List.set_cons_zero, List.set_cons_succ]
  refine h_step 6 (none) (Op.store 64 (Operand.tmp 4) (Operand.tmp 10)) 0 rfl rfl (by kernel_rfl) (fun _ _ _ K hK => ?_)
  refine wp_skip (exec_store rfl rfl (store_wide wide_V (old := vc zeroV) (cs := vc (lookF f (x, y))) hz rfl rfl (vc_one _))) ?_
  refine hK.out _ _ ((Kept.refl _ _).drew.trans (kept_setRow _ _ _) (fun _ _ e => e)) (fun hHeld => ?_)
  clear hK K
  try simp only [Act.put, List.setIfInBounds_toArray, List.set_cons_zero, List.set_cons_succ]
  refine wpAnyH_done (by kernel_rfl) ?_ _
  have hz' := setRow_at (w := wA.drew) hz (vc (lookF f (x, y))).toArray
  have hK' := kept_setRow wA.drew (E + 1) (vc (lookF f (x, y))).toArray
  have hW : Kept (fun _ => False) w (wA.drew.setRow (E + 1) (vc (lookF f (x, y))).toArray) := hkA.drew.trans hK' (fun k h1 h2 => by omega)
  generalize wA.drew.setRow (E + 1) (vc (lookF f (x, y))).toArray = wB at *
  clear hK' hHeld KS KM
  go_wp2_with fail
  exact bodyPost_ret (results_cell_row Try.results65 _ _ (E + 1) _ _ _ _ rfl hz' Try.underlying64 rfl wide_V.size) rfl ⟨rfl, hW⟩
theorem vv_is (v : V) : vv v = .agg (vc v).toArray := rfl

def putF (f : StF) (k : K2) (v : V) : StF := if 0 ≤ plc k then upd f k v else f

theorem putF_good {f : StF} (h : ∀ k, (f k).isSome = true → 0 ≤ plc k) (k : K2) (v : V) : ∀ j, (putF f k v j).isSome = true → 0 ≤ plc j := by
  intro j hj
  unfold putF at hj
  split at hj
  · rename_i h1
    unfold upd at hj
    split at hj
    · rename_i h2; rw [h2]; exact h1
    · exact h j hj
  · exact h j hj

theorem StoreIn.kept {X : Nat → Prop} {p B : Nat} {f : StF} {w w' : World} (h : StoreIn p B f w) (hk : Kept X w w') (hp : ¬ X p) (hB : ¬ X B) : StoreIn p B f w' :=
  ⟨hk.at h.cell hp, h.map.kept hk hB, h.good⟩

theorem StoreIn.still {p B : Nat} {f : StF} {w w' : World} (h : StoreIn p B f w) (hk : Kept (fun _ => False) w w') : StoreIn p B f w' := h.kept hk (fun x => x) (fun x => x)

theorem StoreIn.ne {p B : Nat} {f : StF} {w : World} (h : StoreIn p B f w) : p ≠ B := h.map.off h.cell

set_option maxHeartbeats 400000 in
theorem put_w (p B : Nat) (f : StF) (x y : Int) (v : V) (w : World) (h : StoreIn p B f w) : Calls Try.prog 31 #[.pointer (some ⟨p, 0, none⟩), .agg #[.int .i64 x, .int .i64 y], vv v] w
    fun e w' => e = .returned (.bool (decide (0 ≤ plc (x, y)))) ∧ StoreIn p B (putF f (x, y) v) w' ∧ Kept (fun n => n = B) w w' := by
  obtain ⟨E, hE⟩ : ∃ E : Nat, w.heap.size = E := ⟨_, rfl⟩
  rw [vv_is]
  go_enter Try.func31, Try.ntmps31
  obtain ⟨wA, hA⟩ : ∃ wA, (w.alloc (.cells #[.int .i64 x, .int .i64 y] 61)).alloc (.cells (vc v).toArray 64) = wA := ⟨_, rfl⟩
  have T := there_w x y wA
  have hkA : Kept (fun _ => False) w wA := by subst hA; exact ((Kept.refl _ _).alloc _).alloc _
  have hk : wA.heap[E]? = some (.cells #[.int .i64 x, .int .i64 y] 61 (0, 0)) := by subst hA; exact alloc_off (alloc_at' _ hE)
  have hz : wA.heap[E + 1]? = some (.cells (vc v).toArray 64 (0, 0)) := by subst hA; exact alloc_at' _ (by simp [hE])
  have c0 := cell_at hk (i := 0) rfl
  have c1 := cell_at hk (i := 1) rfl
  go_wp2_with fail
  clear hA c0 c1
  refine T.mono ?_
  rintro e w1 ⟨rfl, hk1⟩
  clear T
  replace hk := hk1.at hk (fun x => x)
  replace hz := hk1.at hz (fun x => x)
  replace hkA := hkA.thru hk1
  clear hk1
  by_cases hpl : 0 ≤ plc (x, y)
  · have hd : decide (0 ≤ plc (x, y)) = true := by simpa using hpl
    rw [hd]
    go_wp2_with fail
    have hp : p < E := by have := lt_at h.cell; omega
    have hB : B < E := by have := h.map.lt; omega
    have hne := h.ne
    have h1 := h.still hkA
    have KS : ∀ w', Kept (fun n => n = B) w1 w' → (w'.cell? ⟨p, 0, none⟩ = some (.map (some B)) ∧ w'.cell? ⟨E, 0, none⟩ = some (.int .i64 x) ∧ w'.cell? ⟨E, 1, none⟩ = some (.int .i64 y)) :=
      fun w' hk' => ⟨hk'.cell (cell_at h1.cell rfl) hne, hk'.cell (cell_at hk rfl) (by simp; omega), hk'.cell (cell_at hk rfl) (by simp; omega)⟩
    have KV : ∀ w', Kept (fun n => n = B) w1 w' → w'.rangeAt (E + 1) 0 (vc v) := fun w' hk' => range_kept (whole_range hz) hk' (by omega)
    refine wp_region_held_drew (S := fun w' => Kept (fun n => n = B) w1 w') (by kernel_rfl) ((Kept.refl _ _).drew) (fun hHeld => ?_)
    refine h_take 0 (some 10) (Op.move (Operand.tmp 0)) 26 ?v4 rfl rfl (by kernel_rfl) (by kernel_rfl) (by kernel_rfl) (fun _ _ _ h => h) ?hy4 hHeld ?_
    case hy4 => (intro _ _ _ w hSw; have hcs := KS _ hSw; go_simp; try with_reducible rfl)
    simp only [Act.put, List.setIfInBounds_toArray, List.set_cons_zero, List.set_cons_succ]
    refine h_take 1 (some 11) (Op.nilCheck (Operand.tmp 10)) 0 ?v5 rfl rfl (by kernel_rfl) (by kernel_rfl) (by kernel_rfl) (fun _ _ _ h => h) ?hy5 hHeld ?_
    case hy5 => (intro _ _ _ w hSw; have hcs := KS _ hSw; go_simp; try with_reducible rfl)
    simp only [Act.put, List.setIfInBounds_toArray, List.set_cons_zero, List.set_cons_succ]
    refine h_take 2 (some 12) (Op.fieldAddr 97 (Operand.tmp 11) 0) 0 ?v6 rfl rfl (by kernel_rfl) (by kernel_rfl) (by kernel_rfl) (fun _ _ _ h => h) ?hy6 hHeld ?_
    case hy6 => (intro _ _ _ w hSw; have hcs := KS _ hSw; go_simp; try with_reducible rfl)
    simp only [Act.put, List.setIfInBounds_toArray, List.set_cons_zero, List.set_cons_succ]
    refine h_take 3 (some 13) (Op.load 95 (Operand.tmp 12)) 95 (.map (some B)) rfl rfl (by kernel_rfl) (by kernel_rfl) (by kernel_rfl) (fun _ _ _ h => h) ?_ hHeld ?_
    · intro _ _ _ w hSw; have hcs := KS _ hSw; go_simp
    simp only [Act.put, List.setIfInBounds_toArray, List.set_cons_zero, List.set_cons_succ]
    refine h_take 4 (some 14) (Op.load 61 (Operand.tmp 4)) 61 (.agg #[.int .i64 x, .int .i64 y]) rfl rfl (by kernel_rfl) (by kernel_rfl) (by kernel_rfl) (fun _ _ _ h => h) ?_ hHeld ?_
    · intro _ _ _ w hSw; have hcs := KS _ hSw; go_simp
    simp only [Act.put, List.setIfInBounds_toArray, List.set_cons_zero, List.set_cons_succ]
    refine h_take 5 (some 15) (Op.load 64 (Operand.tmp 5)) 64 (vv v) rfl rfl (by kernel_rfl) (by kernel_rfl) (by kernel_rfl) (fun _ _ _ h => h) (fun _ _ _ w hSw => exec_load rfl (load_wide wide_V (KV w hSw) rfl)) hHeld ?_
    simp only [Act.put, List.setIfInBounds_toArray, List.set_cons_zero, List.set_cons_succ]
    obtain ⟨w2, hr, hm, hk2, hsz⟩ := MapIn.store (w := w1.drew) (h1.map.still ((Kept.refl _ _).drew)) keyok_kv mapV (x, y) v
    refine h_step 6 (none) (Op.mapUpdate 95 (Operand.tmp 13) (Operand.tmp 14) (Operand.tmp 15)) 0 rfl rfl (by kernel_rfl) (fun _ _ _ K hK => ?_)
    refine wp_skip (exec_update rfl rfl rfl hr) ?_
    refine hK.out _ _ ((Kept.refl _ w1).drew.trans hk2 (fun _ _ e => e)) (fun hHeld => ?_)
    clear hK K
    try simp only [Act.put, List.setIfInBounds_toArray, List.set_cons_zero, List.set_cons_succ]
    refine wpAnyH_done (by kernel_rfl) ?_ _
    clear hHeld KS KV hr
    have hW : Kept (fun n => n = B) w w2 := (hkA.drew.mono (fun _ _ e => e.elim)).trans hk2 (fun _ _ e => e)
    have hS : StoreIn p B (putF f (x, y) v) w2 := ⟨hW.at h.cell hne, by unfold putF; rw [if_pos hpl]; exact hm, putF_good h.good _ _⟩
    go_wp2
    go_ret
    exact ⟨by simp [hpl], hS, hW⟩
  · have hd : decide (0 ≤ plc (x, y)) = false := by simpa using hpl
    rw [hd]
    have hS : StoreIn p B (putF f (x, y) v) w1 := by unfold putF; rw [if_neg hpl]; exact h.still hkA
    have hW : Kept (fun n => n = B) w w1 := hkA.mono (fun _ _ e => e.elim)
    clear h
    go_wp2
    go_ret
    exact ⟨by simp [hpl], hS, hW⟩

theorem new_w (w : World) : Calls Try.prog 29 #[] w fun e w' => ∃ p B, e = .returned (.pointer (some ⟨p, 0, none⟩)) ∧ StoreIn p B (fun _ => none) w' ∧ Kept (fun _ => False) w w' ∧ w.heap.size ≤ p ∧ w.heap.size ≤ B := by
  obtain ⟨E, hE⟩ : ∃ E : Nat, w.heap.size = E := ⟨_, rfl⟩
  have hmm := @run_makeMap Try.prog
  go_enter Try.func29, Try.ntmps29
  go_wp2
  go_ret
  refine ⟨E + 1, E, rfl, ⟨alloc_at' _ (by simp [hE]), (MapIn.made hE).still ((Kept.refl _ _).alloc _), by simp⟩, ((Kept.refl _ _).alloc _).alloc _, by omega, by omega⟩

/-! Views. -/
abbrev VwF := K2 → Option (Bool × Bool × V)

theorem mapN : Try.prog.underlying 107 = some (.map 61 106) := Try.underlying107

structure ViewIn (q N p : Nat) (g : VwF) (w : World) : Prop where
  cell : w.heap[q]? = some (.cells #[.pointer (some ⟨p, 0, none⟩), .map (some N)] 109 (0, 0))
  map : MapIn kv ntv N g w
  good : ∀ k, (g k).isSome = true → 0 ≤ plc k

theorem ViewIn.kept {X : Nat → Prop} {q N p : Nat} {g : VwF} {w w' : World} (h : ViewIn q N p g w) (hk : Kept X w w') (hq : ¬ X q) (hN : ¬ X N) : ViewIn q N p g w' :=
  ⟨hk.at h.cell hq, h.map.kept hk hN, h.good⟩
theorem ViewIn.still {q N p : Nat} {g : VwF} {w w' : World} (h : ViewIn q N p g w) (hk : Kept (fun _ => False) w w') : ViewIn q N p g w' := h.kept hk (fun x => x) (fun x => x)
theorem ViewIn.ne {q N p : Nat} {g : VwF} {w : World} (h : ViewIn q N p g w) : q ≠ N := h.map.off h.cell

theorem look_w (p : Nat) (w : World) : Calls Try.prog 63 #[.pointer (some ⟨p, 0, none⟩)] w
    fun e w' => ∃ q N, e = .returned (.pointer (some ⟨q, 0, none⟩)) ∧ ViewIn q N p (fun _ => none) w' ∧ Kept (fun _ => False) w w' ∧ w.heap.size ≤ q ∧ w.heap.size ≤ N := by
  obtain ⟨E, hE⟩ : ∃ E : Nat, w.heap.size = E := ⟨_, rfl⟩
  have hmm := @run_makeMap Try.prog
  go_enter Try.func63, Try.ntmps63
  go_wp2
  go_ret
  exact ⟨E + 1, E, rfl, ⟨alloc_at' _ (by simp [hE]), (MapIn.made hE).still ((Kept.refl _ _).alloc _), by simp⟩, ((Kept.refl _ _).alloc _).alloc _, by omega, by omega⟩
end Go.Proofs.Ytkpcillgoeidaaa
