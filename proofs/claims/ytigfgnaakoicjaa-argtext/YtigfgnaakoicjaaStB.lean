
/- Stores and views, the code's side, second part: Get, Put, Reads, Foot, Redo; no conditions but lengths. -/
import Derived.Test.YtigfgnaakoicjaaStA
namespace Go.Proofs.Ytigfgnaakoicjaa
open Go.RowKit
set_option maxRecDepth 100000
set_option linter.unusedSimpArgs false

abbrev K2 := Int × Int
abbrev StF := K2 → Option V

theorem mapV : Try.prog.underlying 63 = some (.map 44 41) := Try.underlying63

def lookF (f : StF) (k : K2) : V := (f k).getD zeroV

structure StoreIn (p B : Nat) (f : StF) (w : World) : Prop where
  cell : w.heap[p]? = some (.cells #[.map (some B)] 65 (0, 0))
  map : MapIn kv vv B f w
  good : ∀ k, (f k).isSome = true → 0 ≤ plc k

theorem look_v {B : Nat} {f : StF} {w : World} (h : MapIn kv vv B f w) (k : K2) : (Instr.lookup 63 (.map (some B)) (kv k) false).run Try.prog w = .ok (vv (lookF f k)) w := by
  have := h.look keyok_kv mapV zero_value k false
  rw [this]
  unfold lookF
  cases f k <;> rfl

theorem there_w (x y : Int) (w : World) : Calls Try.prog 23 #[.agg #[.int .i64 x, .int .i64 y]] w fun e w' => e = .returned (.bool (decide (0 ≤ plc (x, y)))) ∧ Kept (fun _ => False) w w' := by
  have P := place_w (x, y) (w.alloc (.cells #[.int .i64 x, .int .i64 y] 44))
  unfold kv at P
  have HK : Hid (Kept (fun _ => False) w (w.alloc (.cells #[.int .i64 x, .int .i64 y] 44))) := (Kept.refl _ _).alloc _
  go_enter Try.func23, Try.ntmps23
  go_wp2_with fail
  refine P.mono ?_
  rintro e w1 ⟨rfl, hk⟩
  go_wp2
  go_ret
  exact ⟨rfl, HK.out.thru hk⟩

theorem zero_cells : (vc zeroV).toArray = #[.int .i64 0, .int .i64 0, .int .i64 0, .int .i64 0, .int .i64 0, .int .i64 0, .int .i64 0, .int .i64 0, .int .i64 0, .int .i64 0, .int .i64 0, .int .i64 0, .int .i64 0, .int .i64 0, .int .i64 0, .int .i64 0, .string { data := #[] }] := rfl

theorem get_w (p B : Nat) (f : StF) (x y : Int) (w : World) (h : StoreIn p B f w) : Calls Try.prog 24 #[.pointer (some ⟨p, 0, none⟩), .agg #[.int .i64 x, .int .i64 y]] w fun e w' => e = .returned (vv (lookF f (x, y))) ∧ Kept (fun _ => False) w w' := by
  obtain ⟨E, hE⟩ : ∃ E : Nat, w.heap.size = E := ⟨_, rfl⟩
  go_enter Try.func24, Try.ntmps24
  go_wp2_with fail
  rw [← zero_cells]
  obtain ⟨wA, hA⟩ : ∃ wA, (w.alloc (.cells #[.int .i64 x, .int .i64 y] 44)).alloc (.cells (vc zeroV).toArray 41) = wA := ⟨_, rfl⟩
  have hkA : Kept (fun _ => False) w wA := by subst hA; exact ((Kept.refl _ _).alloc _).alloc _
  have hk : wA.heap[E]? = some (.cells #[.int .i64 x, .int .i64 y] 44 (0, 0)) := by subst hA; exact alloc_off (alloc_at' _ hE)
  have hz : wA.heap[E + 1]? = some (.cells (vc zeroV).toArray 41 (0, 0)) := by subst hA; exact alloc_at' _ (by simp [hE])
  rw [hA]
  clear hA
  have hp : p < E := by have := lt_at h.cell; omega
  have hB : B < E := by have := h.map.lt; omega
  have KS : ∀ w', Kept (fun n => n = E + 1) wA w' → (w'.cell? ⟨p, 0, none⟩ = some (.map (some B)) ∧ w'.cell? ⟨E, 0, none⟩ = some (.int .i64 x) ∧ w'.cell? ⟨E, 1, none⟩ = some (.int .i64 y)) :=
    fun w' hk' => ⟨hk'.cell (cell_at (hkA.at h.cell (fun x => x)) rfl) (by simp; omega), hk'.cell (cell_at hk rfl) (by simp), hk'.cell (cell_at hk rfl) (by simp)⟩
  have KM : ∀ w', Kept (fun n => n = E + 1) wA w' → (Instr.lookup 63 (.map (some B)) (.agg #[.int .i64 x, .int .i64 y]) false).run Try.prog w' = .ok (vv (lookF f (x, y))) w' :=
    fun w' hk' => look_v ((h.map.still hkA).kept hk' (by omega)) (x, y)
  refine wp_region_held_drew (S := fun w' => Kept (fun n => n = E + 1) wA w') (by kernel_rfl) ((Kept.refl _ _).drew) (fun hHeld => ?_)
  refine h_take 0 (some 5) (Op.move (Operand.tmp 0)) 25 ?v1 rfl rfl (by kernel_rfl) (by kernel_rfl) (by kernel_rfl) (fun _ _ _ h => h) ?hy1 hHeld ?_
  case hy1 => (intro _ _ _ w hSw; have hcs := KS _ hSw; go_simp; try with_reducible rfl)
  simp only [Act.put, List.setIfInBounds_toArray, List.set_cons_zero, List.set_cons_succ]
  refine h_take 1 (some 6) (Op.nilCheck (Operand.tmp 5)) 0 ?v2 rfl rfl (by kernel_rfl) (by kernel_rfl) (by kernel_rfl) (fun _ _ _ h => h) ?hy2 hHeld ?_
  case hy2 => (intro _ _ _ w hSw; have hcs := KS _ hSw; go_simp; try with_reducible rfl)
  simp only [Act.put, List.setIfInBounds_toArray, List.set_cons_zero, List.set_cons_succ]
  refine h_take 2 (some 7) (Op.fieldAddr 65 (Operand.tmp 6) 0) 0 ?v3 rfl rfl (by kernel_rfl) (by kernel_rfl) (by kernel_rfl) (fun _ _ _ h => h) ?hy3 hHeld ?_
  case hy3 => (intro _ _ _ w hSw; have hcs := KS _ hSw; go_simp; try with_reducible rfl)
  simp only [Act.put, List.setIfInBounds_toArray, List.set_cons_zero, List.set_cons_succ]
  refine h_take 3 (some 8) (Op.load 63 (Operand.tmp 7)) 63 (.map (some B)) rfl rfl (by kernel_rfl) (by kernel_rfl) (by kernel_rfl) (fun _ _ _ h => h) ?_ hHeld ?_
  · intro _ _ _ w hSw; have hcs := KS _ hSw; go_simp
  simp only [Act.put, List.setIfInBounds_toArray, List.set_cons_zero, List.set_cons_succ]
  refine h_take 4 (some 9) (Op.load 44 (Operand.tmp 3)) 44 (.agg #[.int .i64 x, .int .i64 y]) rfl rfl (by kernel_rfl) (by kernel_rfl) (by kernel_rfl) (fun _ _ _ h => h) ?_ hHeld ?_
  · intro _ _ _ w hSw; have hcs := KS _ hSw; go_simp
  simp only [Act.put, List.setIfInBounds_toArray, List.set_cons_zero, List.set_cons_succ]
  refine h_take 5 (some 10) (Op.lookup 63 (Operand.tmp 8) (Operand.tmp 9) false) 41 (vv (lookF f (x, y))) rfl rfl (by kernel_rfl) (by kernel_rfl) (by kernel_rfl) (fun _ _ _ h => h) (fun _ _ _ w hSw => exec_look rfl rfl (KM w hSw)) hHeld ?_
  simp only [Act.put, List.setIfInBounds_toArray, List.set_cons_zero, List.set_cons_succ]
  refine h_step 6 (none) (Op.store 41 (Operand.tmp 4) (Operand.tmp 10)) 0 rfl rfl (by kernel_rfl) (fun _ _ _ K hK => ?_)
  refine wp_skip (exec_store rfl rfl (store_wide wide_V (old := vc zeroV) (cs := vc (lookF f (x, y))) hz rfl rfl (vc_one _))) ?_
  refine hK.out _ _ ((Kept.refl _ _).drew.trans (kept_setRow _ _ _) (fun _ _ e => e)) (fun hHeld => ?_)
  clear hK K
  try simp only [Act.put, List.setIfInBounds_toArray, List.set_cons_zero, List.set_cons_succ]
  refine wpAnyH_done (by kernel_rfl) ?_ _
  have hz' := setRow_at (w := wA.drew) hz (vc (lookF f (x, y))).toArray
  have hK' := kept_setRow wA.drew (E + 1) (vc (lookF f (x, y))).toArray
  have hW : Kept (fun _ => False) w (wA.drew.setRow (E + 1) (vc (lookF f (x, y))).toArray) := hkA.drew.trans hK' (fun k h1 h2 => by omega)
  generalize wA.drew.setRow (E + 1) (vc (lookF f (x, y))).toArray = wB at *
  clear hK' hHeld KS KM
  go_wp2_with fail
  exact bodyPost_ret (results_cell_row Try.results24 _ _ (E + 1) _ _ _ _ rfl hz' Try.underlying41 rfl wide_V.size) rfl ⟨rfl, hW⟩
theorem vv_is (v : V) : vv v = .agg (vc v).toArray := rfl

def putF (f : StF) (k : K2) (v : V) : StF := if 0 ≤ plc k then upd f k v else f

theorem putF_good {f : StF} (h : ∀ k, (f k).isSome = true → 0 ≤ plc k) (k : K2) (v : V) : ∀ j, (putF f k v j).isSome = true → 0 ≤ plc j := by
  intro j hj
  unfold putF at hj
  split at hj
  · rename_i h1
    unfold upd at hj
    split at hj
    · rename_i h2; rw [h2]; exact h1
    · exact h j hj
  · exact h j hj

theorem StoreIn.kept {X : Nat → Prop} {p B : Nat} {f : StF} {w w' : World} (h : StoreIn p B f w) (hk : Kept X w w') (hp : ¬ X p) (hB : ¬ X B) : StoreIn p B f w' :=
  ⟨hk.at h.cell hp, h.map.kept hk hB, h.good⟩

theorem StoreIn.still {p B : Nat} {f : StF} {w w' : World} (h : StoreIn p B f w) (hk : Kept (fun _ => False) w w') : StoreIn p B f w' := h.kept hk (fun x => x) (fun x => x)

theorem StoreIn.ne {p B : Nat} {f : StF} {w : World} (h : StoreIn p B f w) : p ≠ B := h.map.off h.cell

set_option maxHeartbeats 400000 in
theorem put_w (p B : Nat) (f : StF) (x y : Int) (v : V) (w : World) (h : StoreIn p B f w) : Calls Try.prog 20 #[.pointer (some ⟨p, 0, none⟩), .agg #[.int .i64 x, .int .i64 y], vv v] w
    fun e w' => e = .returned (.bool (decide (0 ≤ plc (x, y)))) ∧ StoreIn p B (putF f (x, y) v) w' ∧ Kept (fun n => n = B) w w' := by
  obtain ⟨E, hE⟩ : ∃ E : Nat, w.heap.size = E := ⟨_, rfl⟩
  rw [vv_is]
  go_enter Try.func20, Try.ntmps20
  obtain ⟨wA, hA⟩ : ∃ wA, (w.alloc (.cells #[.int .i64 x, .int .i64 y] 44)).alloc (.cells (vc v).toArray 41) = wA := ⟨_, rfl⟩
  have T := there_w x y wA
  have hkA : Kept (fun _ => False) w wA := by subst hA; exact ((Kept.refl _ _).alloc _).alloc _
  have hk : wA.heap[E]? = some (.cells #[.int .i64 x, .int .i64 y] 44 (0, 0)) := by subst hA; exact alloc_off (alloc_at' _ hE)
  have hz : wA.heap[E + 1]? = some (.cells (vc v).toArray 41 (0, 0)) := by subst hA; exact alloc_at' _ (by simp [hE])
  have c0 := cell_at hk (i := 0) rfl
  have c1 := cell_at hk (i := 1) rfl
  go_wp2_with fail
  clear hA c0 c1
  refine T.mono ?_
  rintro e w1 ⟨rfl, hk1⟩
  clear T
  replace hk := hk1.at hk (fun x => x)
  replace hz := hk1.at hz (fun x => x)
  replace hkA := hkA.thru hk1
  clear hk1
  by_cases hpl : 0 ≤ plc (x, y)
  · have hd : decide (0 ≤ plc (x, y)) = true := by simpa using hpl
    rw [hd]
    go_wp2_with fail
    have hp : p < E := by have := lt_at h.cell; omega
    have hB : B < E := by have := h.map.lt; omega
    have hne := h.ne
    have h1 := h.still hkA
    have KS : ∀ w', Kept (fun n => n = B) w1 w' → (w'.cell? ⟨p, 0, none⟩ = some (.map (some B)) ∧ w'.cell? ⟨E, 0, none⟩ = some (.int .i64 x) ∧ w'.cell? ⟨E, 1, none⟩ = some (.int .i64 y)) :=
      fun w' hk' => ⟨hk'.cell (cell_at h1.cell rfl) hne, hk'.cell (cell_at hk rfl) (by simp; omega), hk'.cell (cell_at hk rfl) (by simp; omega)⟩
    have KV : ∀ w', Kept (fun n => n = B) w1 w' → w'.rangeAt (E + 1) 0 (vc v) := fun w' hk' => range_kept (whole_range hz) hk' (by omega)
    refine wp_region_held_drew (S := fun w' => Kept (fun n => n = B) w1 w') (by kernel_rfl) ((Kept.refl _ _).drew) (fun hHeld => ?_)
    refine h_take 0 (some 10) (Op.move (Operand.tmp 0)) 25 ?v4 rfl rfl (by kernel_rfl) (by kernel_rfl) (by kernel_rfl) (fun _ _ _ h => h) ?hy4 hHeld ?_
    case hy4 => (intro _ _ _ w hSw; have hcs := KS _ hSw; go_simp; try with_reducible rfl)
    simp only [Act.put, List.setIfInBounds_toArray, List.set_cons_zero, List.set_cons_succ]
    refine h_take 1 (some 11) (Op.nilCheck (Operand.tmp 10)) 0 ?v5 rfl rfl (by kernel_rfl) (by kernel_rfl) (by kernel_rfl) (fun _ _ _ h => h) ?hy5 hHeld ?_
    case hy5 => (intro _ _ _ w hSw; have hcs := KS _ hSw; go_simp; try with_reducible rfl)
    simp only [Act.put, List.setIfInBounds_toArray, List.set_cons_zero, List.set_cons_succ]
    refine h_take 2 (some 12) (Op.fieldAddr 65 (Operand.tmp 11) 0) 0 ?v6 rfl rfl (by kernel_rfl) (by kernel_rfl) (by kernel_rfl) (fun _ _ _ h => h) ?hy6 hHeld ?_
    case hy6 => (intro _ _ _ w hSw; have hcs := KS _ hSw; go_simp; try with_reducible rfl)
    simp only [Act.put, List.setIfInBounds_toArray, List.set_cons_zero, List.set_cons_succ]
    refine h_take 3 (some 13) (Op.load 63 (Operand.tmp 12)) 63 (.map (some B)) rfl rfl (by kernel_rfl) (by kernel_rfl) (by kernel_rfl) (fun _ _ _ h => h) ?_ hHeld ?_
    · intro _ _ _ w hSw; have hcs := KS _ hSw; go_simp
    simp only [Act.put, List.setIfInBounds_toArray, List.set_cons_zero, List.set_cons_succ]
    refine h_take 4 (some 14) (Op.load 44 (Operand.tmp 4)) 44 (.agg #[.int .i64 x, .int .i64 y]) rfl rfl (by kernel_rfl) (by kernel_rfl) (by kernel_rfl) (fun _ _ _ h => h) ?_ hHeld ?_
    · intro _ _ _ w hSw; have hcs := KS _ hSw; go_simp
    simp only [Act.put, List.setIfInBounds_toArray, List.set_cons_zero, List.set_cons_succ]
    refine h_take 5 (some 15) (Op.load 41 (Operand.tmp 5)) 41 (vv v) rfl rfl (by kernel_rfl) (by kernel_rfl) (by kernel_rfl) (fun _ _ _ h => h) (fun _ _ _ w hSw => exec_load rfl (load_wide wide_V (KV w hSw) rfl)) hHeld ?_
    simp only [Act.put, List.setIfInBounds_toArray, List.set_cons_zero, List.set_cons_succ]
    obtain ⟨w2, hr, hm, hk2, hsz⟩ := MapIn.store (w := w1.drew) (h1.map.still ((Kept.refl _ _).drew)) keyok_kv mapV (x, y) v
    refine h_step 6 (none) (Op.mapUpdate 63 (Operand.tmp 13) (Operand.tmp 14) (Operand.tmp 15)) 0 rfl rfl (by kernel_rfl) (fun _ _ _ K hK => ?_)
    refine wp_skip (exec_update rfl rfl rfl hr) ?_
    refine hK.out _ _ ((Kept.refl _ w1).drew.trans hk2 (fun _ _ e => e)) (fun hHeld => ?_)
    clear hK K
    try simp only [Act.put, List.setIfInBounds_toArray, List.set_cons_zero, List.set_cons_succ]
    refine wpAnyH_done (by kernel_rfl) ?_ _
    clear hHeld KS KV hr
    have hW : Kept (fun n => n = B) w w2 := (hkA.drew.mono (fun _ _ e => e.elim)).trans hk2 (fun _ _ e => e)
    have hS : StoreIn p B (putF f (x, y) v) w2 := ⟨hW.at h.cell hne, by unfold putF; rw [if_pos hpl]; exact hm, putF_good h.good _ _⟩
    go_wp2
    go_ret
    exact ⟨by simp [hpl], hS, hW⟩
  · have hd : decide (0 ≤ plc (x, y)) = false := by simpa using hpl
    rw [hd]
    have hS : StoreIn p B (putF f (x, y) v) w1 := by unfold putF; rw [if_neg hpl]; exact h.still hkA
    have hW : Kept (fun n => n = B) w w1 := hkA.mono (fun _ _ e => e.elim)
    clear h
    go_wp2
    go_ret
    exact ⟨by simp [hpl], hS, hW⟩

theorem new_w (w : World) : Calls Try.prog 18 #[] w fun e w' => ∃ p B, e = .returned (.pointer (some ⟨p, 0, none⟩)) ∧ StoreIn p B (fun _ => none) w' ∧ Kept (fun _ => False) w w' ∧ w.heap.size ≤ p ∧ w.heap.size ≤ B := by
  obtain ⟨E, hE⟩ : ∃ E : Nat, w.heap.size = E := ⟨_, rfl⟩
  have hmm := @run_makeMap Try.prog
  go_enter Try.func18, Try.ntmps18
  go_wp2
  go_ret
  refine ⟨E + 1, E, rfl, ⟨alloc_at' _ (by simp [hE]), (MapIn.made hE).still ((Kept.refl _ _).alloc _), by simp⟩, ((Kept.refl _ _).alloc _).alloc _, by omega, by omega⟩

/-! Views. -/
abbrev VwF := K2 → Option (Bool × Bool × V)

theorem mapN : Try.prog.underlying 60 = some (.map 44 59) := Try.underlying60

structure ViewIn (q N p : Nat) (g : VwF) (w : World) : Prop where
  cell : w.heap[q]? = some (.cells #[.pointer (some ⟨p, 0, none⟩), .map (some N)] 62 (0, 0))
  map : MapIn kv ntv N g w
  good : ∀ k, (g k).isSome = true → 0 ≤ plc k

theorem ViewIn.kept {X : Nat → Prop} {q N p : Nat} {g : VwF} {w w' : World} (h : ViewIn q N p g w) (hk : Kept X w w') (hq : ¬ X q) (hN : ¬ X N) : ViewIn q N p g w' :=
  ⟨hk.at h.cell hq, h.map.kept hk hN, h.good⟩
theorem ViewIn.still {q N p : Nat} {g : VwF} {w w' : World} (h : ViewIn q N p g w) (hk : Kept (fun _ => False) w w') : ViewIn q N p g w' := h.kept hk (fun x => x) (fun x => x)
theorem ViewIn.ne {q N p : Nat} {g : VwF} {w : World} (h : ViewIn q N p g w) : q ≠ N := h.map.off h.cell

theorem look_w (p : Nat) (w : World) : Calls Try.prog 28 #[.pointer (some ⟨p, 0, none⟩)] w
    fun e w' => ∃ q N, e = .returned (.pointer (some ⟨q, 0, none⟩)) ∧ ViewIn q N p (fun _ => none) w' ∧ Kept (fun _ => False) w w' ∧ w.heap.size ≤ q ∧ w.heap.size ≤ N := by
  obtain ⟨E, hE⟩ : ∃ E : Nat, w.heap.size = E := ⟨_, rfl⟩
  have hmm := @run_makeMap Try.prog
  go_enter Try.func28, Try.ntmps28
  go_wp2
  go_ret
  exact ⟨E + 1, E, rfl, ⟨alloc_at' _ (by simp [hE]), (MapIn.made hE).still ((Kept.refl _ _).alloc _), by simp⟩, ((Kept.refl _ _).alloc _).alloc _, by omega, by omega⟩
end Go.Proofs.Ytigfgnaakoicjaa

namespace Go.Proofs.Ytigfgnaakoicjaa
open Go.RowKit
set_option maxRecDepth 100000
set_option linter.unusedSimpArgs false

def noteF (g : VwF) (k : K2) : Bool × Bool × V := (g k).getD (false, false, zeroV)
def vgetF (f : StF) (g : VwF) (k : K2) : V := if 0 ≤ plc k then (if (noteF g k).2.1 = true then (noteF g k).2.2 else lookF f k) else zeroV
def vgetT (g : VwF) (k : K2) : VwF := if 0 ≤ plc k then upd g k (true, (noteF g k).2) else g
def vputT (g : VwF) (k : K2) (x : V) : VwF := if 0 ≤ plc k then upd g k ((noteF g k).1, true, x) else g

theorem upd_good {g : VwF} (h : ∀ k, (g k).isSome = true → 0 ≤ plc k) {k : K2} (hk : 0 ≤ plc k) (t : Bool × Bool × V) : ∀ j, (upd g k t j).isSome = true → 0 ≤ plc j := by
  intro j hj
  unfold upd at hj
  split at hj
  · rename_i h2; rw [h2]; exact hk
  · exact h j hj

theorem look_n {N : Nat} {g : VwF} {w : World} (h : MapIn kv ntv N g w) (k : K2) : (Instr.lookup 60 (.map (some N)) (kv k) false).run Try.prog w = .ok (ntv (noteF g k)) w := by
  have := h.look keyok_kv mapN zero_note k false
  rw [this]
  unfold noteF
  cases g k <;> rfl

theorem look_ok {N : Nat} {g : VwF} {w : World} (h : MapIn kv ntv N g w) (k : K2) : (Instr.lookup 60 (.map (some N)) (kv k) true).run Try.prog w = .ok (.tuple #[ntv (noteF g k), .bool (g k).isSome]) w := by
  have := h.look keyok_kv mapN zero_note k true
  rw [this]
  unfold noteF
  cases g k <;> rfl

theorem exec_alloc {ev : Operand → Value} {w : World} {d : Option Tmp} {t ty : TypeId} {p : String} {af : Array Edge} {g : Option (Nat × Bool)} {cs : List Value} {n : Nat}
    (hz : (zeroValue ty).run Try.prog w = .ok (.agg cs.toArray) w) (hn : w.heap.size = n) : (execOp ev ⟨d, .alloc ty, t, p, af, g⟩).run Try.prog w = .ok (.value (.pointer (some ⟨n, 0, none⟩))) (w.alloc (.cells cs.toArray ty)) := by
  subst hn
  simp [execOp, Instr.alloc, Sem.run_bind, hz, newVar, newRow, Value.cells]

set_option maxHeartbeats 1000000 in
theorem vput_w (q N p : Nat) (g : VwF) (x y : Int) (v : V) (w : World) (h : ViewIn q N p g w) : Calls Try.prog 15 #[.pointer (some ⟨q, 0, none⟩), .agg #[.int .i64 x, .int .i64 y], vv v] w
    fun e w' => e = .returned (.tuple #[]) ∧ ViewIn q N p (vputT g (x, y) v) w' ∧ Kept (fun n => n = N) w w' := by
  obtain ⟨E, hE⟩ : ∃ E : Nat, w.heap.size = E := ⟨_, rfl⟩
  rw [vv_is]
  go_enter Try.func15, Try.ntmps15
  obtain ⟨wA, hA⟩ : ∃ wA, (w.alloc (.cells #[.int .i64 x, .int .i64 y] 44)).alloc (.cells (vc v).toArray 41) = wA := ⟨_, rfl⟩
  have T := there_w x y wA
  have hkA : Kept (fun _ => False) w wA := by subst hA; exact ((Kept.refl _ _).alloc _).alloc _
  have hk : wA.heap[E]? = some (.cells #[.int .i64 x, .int .i64 y] 44 (0, 0)) := by subst hA; exact alloc_off (alloc_at' _ hE)
  have hz : wA.heap[E + 1]? = some (.cells (vc v).toArray 41 (0, 0)) := by subst hA; exact alloc_at' _ (by simp [hE])
  have c0 := cell_at hk (i := 0) rfl
  have c1 := cell_at hk (i := 1) rfl
  go_wp2_with fail
  clear hA c0 c1
  refine T.mono ?_
  rintro e w1 ⟨rfl, hk1⟩
  clear T
  replace hk := hk1.at hk (fun x => x)
  replace hz := hk1.at hz (fun x => x)
  replace hkA := hkA.thru hk1
  clear hk1
  by_cases hpl : 0 ≤ plc (x, y)
  · have hd : decide (0 ≤ plc (x, y)) = true := by simpa using hpl
    rw [hd]
    go_wp2_with fail
    have hq : q < E := by have := lt_at h.cell; omega
    have hN : N < E := by have := h.map.lt; omega
    have hne := h.ne
    have h1 := h.still hkA
    have KS : ∀ w', Kept (fun n => n = N) w1 w' → (w'.cell? ⟨q, 1, none⟩ = some (.map (some N)) ∧ w'.cell? ⟨E, 0, none⟩ = some (.int .i64 x) ∧ w'.cell? ⟨E, 1, none⟩ = some (.int .i64 y)) :=
      fun w' hk' => ⟨hk'.cell (cell_at h1.cell rfl) hne, hk'.cell (cell_at hk rfl) (by simp; omega), hk'.cell (cell_at hk rfl) (by simp; omega)⟩
    have KV : ∀ w', Kept (fun n => n = N) w1 w' → w'.rangeAt (E + 1) 0 (vc v) := fun w' hk' => range_kept (whole_range hz) hk' (by omega)
    have hL := look_n (w := w1.drew) (h1.map.still ((Kept.refl _ _).drew)) (x, y)
    refine wp_region_held_drew (S := fun w' => Kept (fun n => n = N) w1 w') (by kernel_rfl) ((Kept.refl _ _).drew) (fun hHeld => ?_)
    refine h_take 0 (some 9) (Op.move (Operand.tmp 0)) 26 ?v7 rfl rfl (by kernel_rfl) (by kernel_rfl) (by kernel_rfl) (fun _ _ _ h => h) ?hy7 hHeld ?_
    case hy7 => (intro _ _ _ w hSw; have hcs := KS _ hSw; go_simp; try with_reducible rfl)
    simp only [Act.put, List.setIfInBounds_toArray, List.set_cons_zero, List.set_cons_succ]
    refine h_take 1 (some 10) (Op.nilCheck (Operand.tmp 9)) 0 ?v8 rfl rfl (by kernel_rfl) (by kernel_rfl) (by kernel_rfl) (fun _ _ _ h => h) ?hy8 hHeld ?_
    case hy8 => (intro _ _ _ w hSw; have hcs := KS _ hSw; go_simp; try with_reducible rfl)
    simp only [Act.put, List.setIfInBounds_toArray, List.set_cons_zero, List.set_cons_succ]
    refine h_take 2 (some 11) (Op.fieldAddr 62 (Operand.tmp 10) 1) 0 ?v9 rfl rfl (by kernel_rfl) (by kernel_rfl) (by kernel_rfl) (fun _ _ _ h => h) ?hy9 hHeld ?_
    case hy9 => (intro _ _ _ w hSw; have hcs := KS _ hSw; go_simp; try with_reducible rfl)
    simp only [Act.put, List.setIfInBounds_toArray, List.set_cons_zero, List.set_cons_succ]
    refine h_take 3 (some 12) (Op.load 60 (Operand.tmp 11)) 60 ?v10 rfl rfl (by kernel_rfl) (by kernel_rfl) (by kernel_rfl) (fun _ _ _ h => h) ?hy10 hHeld ?_
    case hy10 => (intro _ _ _ w hSw; have hcs := KS _ hSw; go_simp; try with_reducible rfl)
    simp only [Act.put, List.setIfInBounds_toArray, List.set_cons_zero, List.set_cons_succ]
    refine h_take 4 (some 13) (Op.load 44 (Operand.tmp 4)) 44 ?v11 rfl rfl (by kernel_rfl) (by kernel_rfl) (by kernel_rfl) (fun _ _ _ h => h) ?hy11 hHeld ?_
    case hy11 => (intro _ _ _ w hSw; have hcs := KS _ hSw; go_simp; try with_reducible rfl)
    simp only [Act.put, List.setIfInBounds_toArray, List.set_cons_zero, List.set_cons_succ]
    refine h_take 5 (some 14) (Op.move (Operand.tmp 0)) 26 ?v12 rfl rfl (by kernel_rfl) (by kernel_rfl) (by kernel_rfl) (fun _ _ _ h => h) ?hy12 hHeld ?_
    case hy12 => (intro _ _ _ w hSw; have hcs := KS _ hSw; go_simp; try with_reducible rfl)
    simp only [Act.put, List.setIfInBounds_toArray, List.set_cons_zero, List.set_cons_succ]
    refine h_take 6 (some 15) (Op.nilCheck (Operand.tmp 14)) 0 ?v13 rfl rfl (by kernel_rfl) (by kernel_rfl) (by kernel_rfl) (fun _ _ _ h => h) ?hy13 hHeld ?_
    case hy13 => (intro _ _ _ w hSw; have hcs := KS _ hSw; go_simp; try with_reducible rfl)
    simp only [Act.put, List.setIfInBounds_toArray, List.set_cons_zero, List.set_cons_succ]
    refine h_take 7 (some 16) (Op.fieldAddr 62 (Operand.tmp 15) 1) 0 ?v14 rfl rfl (by kernel_rfl) (by kernel_rfl) (by kernel_rfl) (fun _ _ _ h => h) ?hy14 hHeld ?_
    case hy14 => (intro _ _ _ w hSw; have hcs := KS _ hSw; go_simp; try with_reducible rfl)
    simp only [Act.put, List.setIfInBounds_toArray, List.set_cons_zero, List.set_cons_succ]
    refine h_take 8 (some 17) (Op.load 60 (Operand.tmp 16)) 60 ?v15 rfl rfl (by kernel_rfl) (by kernel_rfl) (by kernel_rfl) (fun _ _ _ h => h) ?hy15 hHeld ?_
    case hy15 => (intro _ _ _ w hSw; have hcs := KS _ hSw; go_simp; try with_reducible rfl)
    simp only [Act.put, List.setIfInBounds_toArray, List.set_cons_zero, List.set_cons_succ]
    refine h_take 9 (some 18) (Op.load 44 (Operand.tmp 4)) 44 ?v16 rfl rfl (by kernel_rfl) (by kernel_rfl) (by kernel_rfl) (fun _ _ _ h => h) ?hy16 hHeld ?_
    case hy16 => (intro _ _ _ w hSw; have hcs := KS _ hSw; go_simp; try with_reducible rfl)
    simp only [Act.put, List.setIfInBounds_toArray, List.set_cons_zero, List.set_cons_succ]
    refine h_take 12 (some 21) (Op.load 41 (Operand.tmp 5)) 41 (vv v) rfl rfl (by kernel_rfl) (by kernel_rfl) (by kernel_rfl) (fun _ _ _ h => h) (fun _ _ _ w hSw => exec_load rfl (load_wide wide_V (KV w hSw) rfl)) hHeld ?_
    simp only [Act.put, List.setIfInBounds_toArray, List.set_cons_zero, List.set_cons_succ]
    refine h_step 10 (some 19) (Op.lookup 60 (Operand.tmp 17) (Operand.tmp 18) false) 59 rfl rfl (by kernel_rfl) (fun _ _ _ K hK => ?_)
    refine wp_yield (exec_look rfl rfl hL) ?_
    refine hK.out _ _ ((Kept.refl _ w1).drew) (fun hHeld => ?_)
    clear hK K
    try simp only [Act.put, List.setIfInBounds_toArray, List.set_cons_zero, List.set_cons_succ]
    refine h_take 11 (some 20) (Op.field 59 (Operand.tmp 19) 0) 4 (.bool (noteF g (x, y)).1) rfl rfl (by kernel_rfl) (by kernel_rfl) (by kernel_rfl) (fun _ _ _ h => h) (fun _ _ _ w hSw => exec_field rfl (field_read (noteF g (x, y)) w)) hHeld ?_
    simp only [Act.put, List.setIfInBounds_toArray, List.set_cons_zero, List.set_cons_succ]
    refine h_take 13 (some 22) (Op.build 59 #[(0, Operand.tmp 20), (1, Operand.const (Value.bool true)), (2, Operand.tmp 21)]) 59 (ntv ((noteF g (x, y)).1, true, v)) rfl rfl (by kernel_rfl) (by kernel_rfl) (by kernel_rfl) (fun _ _ _ h => h) (fun _ _ _ w hSw => exec_build (build_note (noteF g (x, y)).1 true v w) (by kernel_rfl)) hHeld ?_
    simp only [Act.put, List.setIfInBounds_toArray, List.set_cons_zero, List.set_cons_succ]
    obtain ⟨w2, hr, hm, hk2, hsz⟩ := MapIn.store (w := w1.drew) (h1.map.still ((Kept.refl _ _).drew)) keyok_kv mapN (x, y) ((noteF g (x, y)).1, true, v)
    refine h_step 14 (none) (Op.mapUpdate 60 (Operand.tmp 12) (Operand.tmp 13) (Operand.tmp 22)) 0 rfl rfl (by kernel_rfl) (fun _ _ _ K hK => ?_)
    refine wp_skip (exec_update rfl rfl rfl hr) ?_
    refine hK.out _ _ ((Kept.refl _ w1).drew.trans hk2 (fun _ _ e => e)) (fun hHeld => ?_)
    clear hK K
    try simp only [Act.put, List.setIfInBounds_toArray, List.set_cons_zero, List.set_cons_succ]
    refine wpAnyH_done (by kernel_rfl) ?_ _
    clear hHeld KS KV hr hL
    have hW : Kept (fun n => n = N) w w2 := (hkA.drew.mono (fun _ _ e => e.elim)).trans hk2 (fun _ _ e => e)
    have hS : ViewIn q N p (vputT g (x, y) v) w2 := ⟨hW.at h.cell hne, by unfold vputT; rw [if_pos hpl]; exact hm, by unfold vputT; rw [if_pos hpl]; exact upd_good h.good hpl _⟩
    go_wp2
    go_end0
    exact ⟨rfl, hS, hW⟩
  · have hd : decide (0 ≤ plc (x, y)) = false := by simpa using hpl
    rw [hd]
    have hS : ViewIn q N p (vputT g (x, y) v) w1 := by unfold vputT; rw [if_neg hpl]; exact h.still hkA
    have hW : Kept (fun n => n = N) w w1 := hkA.mono (fun _ _ e => e.elim)
    clear h
    go_wp2
    exact bodyPost_ret (v := .tuple #[]) (by simp [results, Try.results15, go_sem]) rfl ⟨rfl, hS, hW⟩

set_option maxHeartbeats 2000000 in
theorem vget_w (q N p B : Nat) (f : StF) (g : VwF) (x y : Int) (w : World) (h : ViewIn q N p g w) (hs : StoreIn p B f w) (hNB : N ≠ B) : Calls Try.prog 12 #[.pointer (some ⟨q, 0, none⟩), .agg #[.int .i64 x, .int .i64 y]] w
    fun e w' => e = .returned (vv (vgetF f g (x, y))) ∧ ViewIn q N p (vgetT g (x, y)) w' ∧ Kept (fun n => n = N) w w' := by
  obtain ⟨E, hE⟩ : ∃ E : Nat, w.heap.size = E := ⟨_, rfl⟩
  go_enter Try.func12, Try.ntmps12
  obtain ⟨wA, hA⟩ : ∃ wA, (w.alloc (.cells #[.int .i64 x, .int .i64 y] 44)).alloc (.cells (vc zeroV).toArray 41) = wA := ⟨_, rfl⟩
  have T := there_w x y wA
  have hkA : Kept (fun _ => False) w wA := by subst hA; exact ((Kept.refl _ _).alloc _).alloc _
  have hk : wA.heap[E]? = some (.cells #[.int .i64 x, .int .i64 y] 44 (0, 0)) := by subst hA; exact alloc_off (alloc_at' _ hE)
  have hz : wA.heap[E + 1]? = some (.cells (vc zeroV).toArray 41 (0, 0)) := by subst hA; exact alloc_at' _ (by simp [hE])
  have c0 := cell_at hk (i := 0) rfl
  have c1 := cell_at hk (i := 1) rfl
  rw [zero_cells] at hA
  go_wp2_with fail
  clear hA c0 c1
  refine T.mono ?_
  rintro e w1 ⟨rfl, hk1⟩
  clear T
  replace hk := hk1.at hk (fun x => x)
  replace hz := hk1.at hz (fun x => x)
  replace hkA := hkA.thru hk1
  clear hk1
  by_cases hpl : 0 ≤ plc (x, y)
  · have hd : decide (0 ≤ plc (x, y)) = true := by simpa using hpl
    rw [hd]
    go_wp2_with fail
    have hq : q < E := by have := lt_at h.cell; omega
    have hN : N < E := by have := h.map.lt; omega
    have hp : p < E := by have := lt_at hs.cell; omega
    have hB : B < E := by have := hs.map.lt; omega
    have hne := h.ne
    have h1 := h.still hkA
    have hs1 := hs.still hkA
    obtain ⟨F, hF⟩ : ∃ F : Nat, w1.heap.size = F := ⟨_, rfl⟩
    have hEF : E + 1 < F := by have := lt_at hz; omega
    have KS : ∀ w', Kept (fun _ => False) w1 w' → (w'.cell? ⟨q, 1, none⟩ = some (.map (some N)) ∧ w'.cell? ⟨E, 0, none⟩ = some (.int .i64 x) ∧ w'.cell? ⟨E, 1, none⟩ = some (.int .i64 y)) :=
      fun w' hk' => ⟨hk'.cell (cell_at h1.cell rfl) (fun x => x), hk'.cell (cell_at hk rfl) (fun x => x), hk'.cell (cell_at hk rfl) (fun x => x)⟩
    have KM : ∀ w', Kept (fun _ => False) w1 w' → (Instr.lookup 60 (.map (some N)) (kv (x, y)) false).run Try.prog w' = .ok (ntv (noteF g (x, y))) w' := fun w' hk' => look_n (h1.map.still hk') (x, y)
    obtain ⟨⟨r, wr, u⟩, hn⟩ : ∃ t, noteF g (x, y) = t := ⟨_, rfl⟩
    rw [hn] at KM
    refine wp_region_held_drew (S := fun w' => Kept (fun _ => False) w1 w') (by kernel_rfl) ((Kept.refl _ _).drew) (fun hHeld => ?_)
    refine h_take 0 (some 10) (Op.move (Operand.tmp 0)) 26 ?v17 rfl rfl (by kernel_rfl) (by kernel_rfl) (by kernel_rfl) (fun _ _ _ h => h) ?hy17 hHeld ?_
    case hy17 => (intro _ _ _ w hSw; have hcs := KS _ hSw; go_simp; try with_reducible rfl)
    simp only [Act.put, List.setIfInBounds_toArray, List.set_cons_zero, List.set_cons_succ]
    refine h_take 1 (some 11) (Op.nilCheck (Operand.tmp 10)) 0 ?v18 rfl rfl (by kernel_rfl) (by kernel_rfl) (by kernel_rfl) (fun _ _ _ h => h) ?hy18 hHeld ?_
    case hy18 => (intro _ _ _ w hSw; have hcs := KS _ hSw; go_simp; try with_reducible rfl)
    simp only [Act.put, List.setIfInBounds_toArray, List.set_cons_zero, List.set_cons_succ]
    refine h_take 2 (some 12) (Op.fieldAddr 62 (Operand.tmp 11) 1) 0 ?v19 rfl rfl (by kernel_rfl) (by kernel_rfl) (by kernel_rfl) (fun _ _ _ h => h) ?hy19 hHeld ?_
    case hy19 => (intro _ _ _ w hSw; have hcs := KS _ hSw; go_simp; try with_reducible rfl)
    simp only [Act.put, List.setIfInBounds_toArray, List.set_cons_zero, List.set_cons_succ]
    refine h_take 3 (some 13) (Op.load 60 (Operand.tmp 12)) 60 ?v20 rfl rfl (by kernel_rfl) (by kernel_rfl) (by kernel_rfl) (fun _ _ _ h => h) ?hy20 hHeld ?_
    case hy20 => (intro _ _ _ w hSw; have hcs := KS _ hSw; go_simp; try with_reducible rfl)
    simp only [Act.put, List.setIfInBounds_toArray, List.set_cons_zero, List.set_cons_succ]
    refine h_take 4 (some 14) (Op.load 44 (Operand.tmp 3)) 44 ?v21 rfl rfl (by kernel_rfl) (by kernel_rfl) (by kernel_rfl) (fun _ _ _ h => h) ?hy21 hHeld ?_
    case hy21 => (intro _ _ _ w hSw; have hcs := KS _ hSw; go_simp; try with_reducible rfl)
    simp only [Act.put, List.setIfInBounds_toArray, List.set_cons_zero, List.set_cons_succ]
    refine h_take 5 (some 15) (Op.lookup 60 (Operand.tmp 13) (Operand.tmp 14) false) 59 (ntv (r, wr, u)) rfl rfl (by kernel_rfl) (by kernel_rfl) (by kernel_rfl) (fun _ _ _ h => h) (fun _ _ _ w hSw => exec_look rfl rfl (KM w hSw)) hHeld ?_
    simp only [Act.put, List.setIfInBounds_toArray, List.set_cons_zero, List.set_cons_succ]
    refine h_step 6 (some 5) (Op.alloc 59) 0 rfl rfl (by kernel_rfl) (fun _ _ _ K hK => ?_)
    refine wp_yield (exec_alloc (cs := nc (false, false, zeroV)) (zero_note _) hF) ?_
    have k2 : Kept (fun _ => False) w1 (w1.drew.alloc (.cells (nc (false, false, zeroV)).toArray 59)) := (Kept.refl _ w1).drew.alloc _
    have hF2 : (w1.drew.alloc (.cells (nc (false, false, zeroV)).toArray 59)).heap[F]? = some (.cells (nc (false, false, zeroV)).toArray 59 (0, 0)) := alloc_at' _ hF
    generalize w1.drew.alloc (.cells (nc (false, false, zeroV)).toArray 59) = w2 at *
    refine hK.out _ _ (k2) (fun hHeld => ?_)
    clear hK K
    try simp only [Act.put, List.setIfInBounds_toArray, List.set_cons_zero, List.set_cons_succ]
    refine h_step 7 (none) (Op.store 59 (Operand.tmp 5) (Operand.tmp 15)) 0 rfl rfl (by kernel_rfl) (fun _ _ _ K hK => ?_)
    refine wp_skip (exec_store rfl rfl (store_wide wide_N (old := nc (false, false, zeroV)) (cs := nc (r, wr, u)) hF2 rfl rfl (nc_one _))) ?_
    have k3 : Kept (fun _ => False) w1 (w2.setRow F (nc (r, wr, u)).toArray) := k2.trans (kept_setRow _ _ _) (fun k h1 h2 => by omega)
    have hF3 := setRow_at hF2 (nc (r, wr, u)).toArray
    generalize w2.setRow F (nc (r, wr, u)).toArray = w3 at *
    refine hK.out _ _ (k3) (fun hHeld => ?_)
    clear hK K
    try simp only [Act.put, List.setIfInBounds_toArray, List.set_cons_zero, List.set_cons_succ]
    refine wpAnyH_done (by kernel_rfl) ?_ _
    clear hHeld KS KM hF2 k2
    have c0 : w3.cell? ⟨F, 0, none⟩ = some (.bool r) := cell_at hF3 rfl
    have f0 : w3.frozen? ⟨F, 0, none⟩ = false := free_at hF3 0
    have hF4 : (w3.setCell ⟨F, 0, none⟩ (.bool true)).heap[F]? = some (.cells (nc (true, wr, u)).toArray 59 (0, 0)) := by rw [set_at hF3]; rfl
    have k4 : Kept (fun _ => False) w1 (w3.setCell ⟨F, 0, none⟩ (.bool true)) := Kept.setCell k3 (fun e => by simp at e; omega) _
    go_wp2_with fail
    generalize w3.setCell ⟨F, 0, none⟩ (.bool true) = w4 at *
    clear c0 f0 k3 hF3 hF
    have h4 := h1.still k4
    have hk4 := k4.at hk (fun x => x)
    have KS : ∀ w', Kept (fun n => n = N) w4 w' → (w'.cell? ⟨q, 1, none⟩ = some (.map (some N)) ∧ w'.cell? ⟨E, 0, none⟩ = some (.int .i64 x) ∧ w'.cell? ⟨E, 1, none⟩ = some (.int .i64 y)) :=
      fun w' hk' => ⟨hk'.cell (cell_at h4.cell rfl) hne, hk'.cell (cell_at hk4 rfl) (by simp; omega), hk'.cell (cell_at hk4 rfl) (by simp; omega)⟩
    have KV : ∀ w', Kept (fun n => n = N) w4 w' → w'.rangeAt F 0 (nc (true, wr, u)) := fun w' hk' => range_kept (whole_range hF4) hk' (by omega)
    refine wp_region_held_drew (S := fun w' => Kept (fun n => n = N) w4 w') (by kernel_rfl) ((Kept.refl _ _).drew) (fun hHeld => ?_)
    refine h_take 0 (some 17) (Op.move (Operand.tmp 0)) 26 ?v22 rfl rfl (by kernel_rfl) (by kernel_rfl) (by kernel_rfl) (fun _ _ _ h => h) ?hy22 hHeld ?_
    case hy22 => (intro _ _ _ w hSw; have hcs := KS _ hSw; go_simp; try with_reducible rfl)
    simp only [Act.put, List.setIfInBounds_toArray, List.set_cons_zero, List.set_cons_succ]
    refine h_take 1 (some 18) (Op.nilCheck (Operand.tmp 17)) 0 ?v23 rfl rfl (by kernel_rfl) (by kernel_rfl) (by kernel_rfl) (fun _ _ _ h => h) ?hy23 hHeld ?_
    case hy23 => (intro _ _ _ w hSw; have hcs := KS _ hSw; go_simp; try with_reducible rfl)
    simp only [Act.put, List.setIfInBounds_toArray, List.set_cons_zero, List.set_cons_succ]
    refine h_take 2 (some 19) (Op.fieldAddr 62 (Operand.tmp 18) 1) 0 ?v24 rfl rfl (by kernel_rfl) (by kernel_rfl) (by kernel_rfl) (fun _ _ _ h => h) ?hy24 hHeld ?_
    case hy24 => (intro _ _ _ w hSw; have hcs := KS _ hSw; go_simp; try with_reducible rfl)
    simp only [Act.put, List.setIfInBounds_toArray, List.set_cons_zero, List.set_cons_succ]
    refine h_take 3 (some 20) (Op.load 60 (Operand.tmp 19)) 60 ?v25 rfl rfl (by kernel_rfl) (by kernel_rfl) (by kernel_rfl) (fun _ _ _ h => h) ?hy25 hHeld ?_
    case hy25 => (intro _ _ _ w hSw; have hcs := KS _ hSw; go_simp; try with_reducible rfl)
    simp only [Act.put, List.setIfInBounds_toArray, List.set_cons_zero, List.set_cons_succ]
    refine h_take 4 (some 21) (Op.load 44 (Operand.tmp 3)) 44 ?v26 rfl rfl (by kernel_rfl) (by kernel_rfl) (by kernel_rfl) (fun _ _ _ h => h) ?hy26 hHeld ?_
    case hy26 => (intro _ _ _ w hSw; have hcs := KS _ hSw; go_simp; try with_reducible rfl)
    simp only [Act.put, List.setIfInBounds_toArray, List.set_cons_zero, List.set_cons_succ]
    refine h_take 5 (some 22) (Op.load 59 (Operand.tmp 5)) 59 (ntv (true, wr, u)) rfl rfl (by kernel_rfl) (by kernel_rfl) (by kernel_rfl) (fun _ _ _ h => h) (fun _ _ _ w hSw => exec_load rfl (load_wide wide_N (KV w hSw) rfl)) hHeld ?_
    simp only [Act.put, List.setIfInBounds_toArray, List.set_cons_zero, List.set_cons_succ]
    obtain ⟨w5, hr, hm, hk5, hsz⟩ := MapIn.store (w := w4.drew) (h4.map.still ((Kept.refl _ _).drew)) keyok_kv mapN (x, y) (true, wr, u)
    refine h_step 6 (none) (Op.mapUpdate 60 (Operand.tmp 20) (Operand.tmp 21) (Operand.tmp 22)) 0 rfl rfl (by kernel_rfl) (fun _ _ _ K hK => ?_)
    refine wp_skip (exec_update rfl rfl rfl hr) ?_
    refine hK.out _ _ ((Kept.refl _ w4).drew.trans hk5 (fun _ _ e => e)) (fun hHeld => ?_)
    clear hK K
    try simp only [Act.put, List.setIfInBounds_toArray, List.set_cons_zero, List.set_cons_succ]
    refine wpAnyH_done (by kernel_rfl) ?_ _
    clear hHeld KS KV hr hk4
    have k5 : Kept (fun n => n = N) w4 w5 := (Kept.refl _ w4).drew.trans hk5 (fun _ _ e => e)
    have hF5 := k5.at hF4 (show ¬ F = N by omega)
    have hz5 := k5.at (k4.at hz (fun x => x)) (show ¬ E + 1 = N by omega)
    have hk5' := k5.at (k4.at hk (fun x => x)) (show ¬ E = N by omega)
    have hW : Kept (fun n => n = N) w w5 := ((hkA.thru k4).mono (fun _ _ e => e.elim)).trans k5 (fun _ _ e => e)
    have hS : ViewIn q N p (vgetT g (x, y)) w5 := ⟨hW.at h.cell hne, by unfold vgetT; rw [if_pos hpl, hn]; exact hm, by unfold vgetT; rw [if_pos hpl]; exact upd_good h.good hpl _⟩
    have hs5 : StoreIn p B f w5 := hs.kept hW (fun e => by subst e; exact h.map.off hs.cell rfl) (fun e => hNB e.symm)
    have hV : vgetF f g (x, y) = if wr = true then u else lookF f (x, y) := by unfold vgetF; rw [if_pos hpl, hn]
    clear hn hk hz hkA k4 h1 hs1 hF4 h4 hm hk5 hsz k5
    have c1 : w5.cell? ⟨F, 1, none⟩ = some (.bool wr) := cell_at hF5 rfl
    cases wr with
    | true =>
      have hr := part_range (bs := [.bool true, .bool true]) (cs := vc u) hF5 (o := 2) rfl
      go_wp2_with (first | (refine list_wload rfl wide_V _ rfl F 2 rfl (vc u) hr rfl ?_) | (refine list_wstore rfl wide_V _ _ rfl (E + 1) rfl (vc u) rfl hz5 rfl rfl (vc_one _) ?_))
      have hz6 := setRow_at hz5 (vc u).toArray
      have hk6 := kept_setRow w5 (E + 1) (vc u).toArray
      refine bodyPost_ret (results_cell_row Try.results12 _ _ (E + 1) _ _ _ _ rfl hz6 Try.underlying41 rfl wide_V.size) rfl ⟨by first | rfl | (rw [hV]; rfl), hS.kept hk6 (by omega) (by omega), hW.trans hk6 (fun k h1 h2 => by omega)⟩
    | false =>
      go_wp2_with fail
      have KS : ∀ w', Kept (fun n => n = E + 1) w5 w' → (w'.cell? ⟨q, 0, none⟩ = some (.pointer (some ⟨p, 0, none⟩)) ∧ w'.cell? ⟨E, 0, none⟩ = some (.int .i64 x) ∧ w'.cell? ⟨E, 1, none⟩ = some (.int .i64 y)) :=
        fun w' hk' => ⟨hk'.cell (cell_at hS.cell rfl) (by simp; omega), hk'.cell (cell_at hk5' rfl) (by simp), hk'.cell (cell_at hk5' rfl) (by simp)⟩
      refine wp_region_held_drew (S := fun w' => Kept (fun n => n = E + 1) w5 w') (by kernel_rfl) ((Kept.refl _ _).drew) (fun hHeld => ?_)
      refine h_take 0 (some 27) (Op.move (Operand.tmp 0)) 26 ?v27 rfl rfl (by kernel_rfl) (by kernel_rfl) (by kernel_rfl) (fun _ _ _ h => h) ?hy27 hHeld ?_
      case hy27 => (intro _ _ _ w hSw; have hcs := KS _ hSw; go_simp; try with_reducible rfl)
      simp only [Act.put, List.setIfInBounds_toArray, List.set_cons_zero, List.set_cons_succ]
      refine h_take 1 (some 28) (Op.nilCheck (Operand.tmp 27)) 0 ?v28 rfl rfl (by kernel_rfl) (by kernel_rfl) (by kernel_rfl) (fun _ _ _ h => h) ?hy28 hHeld ?_
      case hy28 => (intro _ _ _ w hSw; have hcs := KS _ hSw; go_simp; try with_reducible rfl)
      simp only [Act.put, List.setIfInBounds_toArray, List.set_cons_zero, List.set_cons_succ]
      refine h_take 2 (some 29) (Op.fieldAddr 62 (Operand.tmp 28) 0) 0 ?v29 rfl rfl (by kernel_rfl) (by kernel_rfl) (by kernel_rfl) (fun _ _ _ h => h) ?hy29 hHeld ?_
      case hy29 => (intro _ _ _ w hSw; have hcs := KS _ hSw; go_simp; try with_reducible rfl)
      simp only [Act.put, List.setIfInBounds_toArray, List.set_cons_zero, List.set_cons_succ]
      refine h_take 3 (some 30) (Op.load 25 (Operand.tmp 29)) 25 ?v30 rfl rfl (by kernel_rfl) (by kernel_rfl) (by kernel_rfl) (fun _ _ _ h => h) ?hy30 hHeld ?_
      case hy30 => (intro _ _ _ w hSw; have hcs := KS _ hSw; go_simp; try with_reducible rfl)
      simp only [Act.put, List.setIfInBounds_toArray, List.set_cons_zero, List.set_cons_succ]
      refine h_take 4 (some 31) (Op.load 44 (Operand.tmp 3)) 44 ?v31 rfl rfl (by kernel_rfl) (by kernel_rfl) (by kernel_rfl) (fun _ _ _ h => h) ?hy31 hHeld ?_
      case hy31 => (intro _ _ _ w hSw; have hcs := KS _ hSw; go_simp; try with_reducible rfl)
      simp only [Act.put, List.setIfInBounds_toArray, List.set_cons_zero, List.set_cons_succ]
      have G := get_w p B f x y w5.drew (hs5.still (Kept.refl _ _).drew)
      refine h_step 5 (some 32) (Op.call { callee := Callee.value (Operand.func 24), args := #[Operand.tmp 30, Operand.tmp 31], argTypes := #[25, 44] }) 41 rfl rfl (by kernel_rfl) (fun _ _ _ K hK => ?_)
      go_simp
      refine G.mono ?_
      rintro e w6 ⟨rfl, hk6⟩
      clear G KS
      have k6 : Kept (fun _ => False) w5 w6 := (Kept.refl _ w5).drew.thru hk6
      go_wp2_with fail
      refine hK.out _ _ (k6.mono (fun _ _ e => e.elim)) (fun hHeld => ?_)
      clear hK K
      try simp only [Act.put, List.setIfInBounds_toArray, List.set_cons_zero, List.set_cons_succ]
      have hz6 := k6.at hz5 (fun x => x)
      refine h_step 6 (none) (Op.store 41 (Operand.tmp 4) (Operand.tmp 32)) 0 rfl rfl (by kernel_rfl) (fun _ _ _ K hK => ?_)
      refine wp_skip (exec_store rfl rfl (store_wide wide_V (old := vc zeroV) (cs := vc (lookF f (x, y))) hz6 rfl rfl (vc_one _))) ?_
      have hz7 := setRow_at hz6 (vc (lookF f (x, y))).toArray
      have k7 : Kept (fun n => n = E + 1) w5 (w6.setRow (E + 1) (vc (lookF f (x, y))).toArray) := (k6.mono (fun _ _ e => e.elim)).trans (kept_setRow w6 (E + 1) (vc (lookF f (x, y))).toArray) (fun _ _ e => e)
      generalize w6.setRow (E + 1) (vc (lookF f (x, y))).toArray = w7 at *
      refine hK.out _ _ (k7) (fun hHeld => ?_)
      clear hK K
      try simp only [Act.put, List.setIfInBounds_toArray, List.set_cons_zero, List.set_cons_succ]
      refine wpAnyH_done (by kernel_rfl) ?_ _
      clear hHeld
      go_wp2_with fail
      exact bodyPost_ret (results_cell_row Try.results12 _ _ (E + 1) _ _ _ _ rfl hz7 Try.underlying41 rfl wide_V.size) rfl ⟨by first | rfl | (rw [hV]; rfl), hS.kept k7 (by omega) (by omega), hW.trans k7 (fun k h1 h2 => by omega)⟩
  · have hd : decide (0 ≤ plc (x, y)) = false := by simpa using hpl
    rw [hd]
    have hV : vgetF f g (x, y) = zeroV := by unfold vgetF; rw [if_neg hpl]
    have hS : ViewIn q N p (vgetT g (x, y)) w1 := by unfold vgetT; rw [if_neg hpl]; exact h.still hkA
    have hq : q < E := by have := lt_at h.cell; omega
    have hN : N < E := by have := h.map.lt; omega
    clear h
    go_wp2_with (first | (refine list_wstore rfl wide_V _ _ rfl (E + 1) rfl (vc zeroV) rfl hz rfl rfl (vc_one _) ?_))
    have hz6 := setRow_at hz (vc zeroV).toArray
    have hk6 := kept_setRow w1 (E + 1) (vc zeroV).toArray
    refine bodyPost_ret (results_cell_row Try.results12 _ _ (E + 1) _ _ _ _ rfl hz6 Try.underlying41 rfl wide_V.size) rfl ⟨by first | rfl | (rw [hV]; rfl), hS.kept hk6 (by omega) (by omega), (hkA.mono (fun _ _ e => e.elim)).trans hk6 (fun k h1 h2 => by omega)⟩
end Go.Proofs.Ytigfgnaakoicjaa

namespace Go.Proofs.Ytigfgnaakoicjaa
open Go.RowKit
set_option maxRecDepth 100000
set_option linter.unusedSimpArgs false

section
variable {ops : Array Oper} {rest : List Oper} {o : Oper} {a : Act} {w : World} {Q : Exit → Act → World → Prop}
/-- A wide load that is wanted. -/
theorem list_gload (hw : Region.wanted o (yielded ops a.tmps) = true) {ty : TypeId} {n : Nat} (W : IsWide ty n) (x : Operand) (ho : o.op = .load ty x) (b off : Nat) (hx : a.eval x = .pointer (some ⟨b, off, none⟩)) (cs : List Value) (hc : w.rangeAt b off cs) (hn : cs.length = n)
    (h : wpList Try.prog ops Q rest (a.put o.dst (.agg cs.toArray)) w) : wpList Try.prog ops Q (o :: rest) a w := by
  obtain ⟨d, hu, hd⟩ := W.desc
  unfold wpList
  rw [if_pos hw]
  exact .inl (wp_load_mid ty x ho b off hx cs d hc hu hd (by rw [hn]; exact W.size) h)
end

def isF (φ : Bool × Bool × V → Bool) (g : VwF) (p : Nat) : Bool := match g (keyAt p) with | some t => φ t | none => false

theorem isF_none {φ : Bool × Bool × V → Bool} {g : VwF} {p : Nat} (h : (g (keyAt p)).isSome = false) : isF φ g p = false := by
  unfold isF
  cases hg : g (keyAt p) with
  | none => rfl
  | some t => rw [hg] at h; cases h

theorem isF_some {φ : Bool × Bool × V → Bool} {g : VwF} {p : Nat} (h : (g (keyAt p)).isSome = true) : isF φ g p = φ (noteF g (keyAt p)) := by
  unfold isF noteF
  cases hg : g (keyAt p) with
  | none => rw [hg] at h; cases h
  | some t => rfl

theorem ntv_is (t : Bool × Bool × V) : ntv t = .agg (nc t).toArray := rfl

def readT (t : Bool × Bool × V) : Bool := t.1
def wroteT (t : Bool × Bool × V) : Bool := t.2.1
def anyT (_ : Bool × Bool × V) : Bool := true

def readsF (g : VwF) : Ks := upto (isF readT g) 55
def footF (g : VwF) : Ks := upto (isF anyT g) 55
def wroteF (g : VwF) : Ks := upto (isF wroteT g) 55

end Go.Proofs.Ytigfgnaakoicjaa

namespace Go.Proofs.Ytigfgnaakoicjaa
open Go.RowKit
set_option maxRecDepth 100000
set_option linter.unusedSimpArgs false

theorem flat_len {α : Type} (cs : α → List Value) (n : Nat) (hn : ∀ a, (cs a).length = n) (l : List α) : (l.flatMap cs).length = l.length * n := by
  induction l with
  | nil => simp
  | cons a r ih => rw [List.flatMap_cons, List.length_append, ih, hn, List.length_cons, Nat.succ_mul]; omega

theorem flat_get {α : Type} (cs : α → List Value) (n : Nat) (hn : ∀ a, (cs a).length = n) : ∀ (l : List α) (i r : Nat), r < n → (l.flatMap cs)[i * n + r]? = (l[i]?).bind (fun a => (cs a)[r]?)
  | [], i, r, _ => by simp
  | a :: l, 0, r, hr => by
    rw [List.flatMap_cons, Nat.zero_mul, Nat.zero_add, List.getElem?_append_left (by rw [hn]; exact hr)]
    rfl
  | a :: l, i + 1, r, hr => by
    rw [List.flatMap_cons, List.getElem?_append_right (by rw [hn, Nat.succ_mul]; omega), hn, show (i + 1) * n + r - n = i * n + r by rw [Nat.succ_mul]; omega, flat_get cs n hn l i r hr]
    simp

/-- What x has. -/
def SrcR {α : Type} (cs : α → List Value) (n : Nat) (x : Value) (l : List α) (w : World) : Prop :=
  ∃ (ao : Option Addr) (b o c : Nat), x = .slice ao l.length c ∧ (ao = none → c = 0) ∧ (0 < l.length → ao = some ⟨b, o, none⟩) ∧ l.length ≤ c ∧ ∀ j a, l[j]? = some a → w.rangeAt b (o + j * n) (cs a)

section
variable {α : Type} {cs : α → List Value} {n : Nat}

theorem SrcR.kept {x : Value} {l : List α} {w w' : World} (h : SrcR cs n x l w) (hk : Kept (fun _ => False) w w') : SrcR cs n x l w' := by
  obtain ⟨ao, b, o, c, e, h0, h1, hc, h2⟩ := h
  exact ⟨ao, b, o, c, e, h0, h1, hc, fun j a ha => range_kept (h2 j a ha) hk (fun x => x)⟩

theorem SrcR.none (w : World) : SrcR cs n (.slice none 0 0) [] w := ⟨Option.none, 0, 0, 0, rfl, fun _ => rfl, fun h => by simp at h, by simp, fun j a ha => by simp at ha⟩

theorem SrcR.lone {w : World} {E : Nat} {a : α} {t : TypeId} (h : w.heap[E]? = some (.cells (cs a).toArray t (0, 0))) : SrcR cs n (.slice (some ⟨E, 0, Option.none⟩) 1 1) [a] w := by
  refine ⟨_, E, 0, 1, rfl, (fun h => by cases h), fun _ => rfl, by simp, fun j b hb => ?_⟩
  cases j with
  | zero =>
    have : a = b := by simpa using hb
    subst this
    simpa using whole_range h
  | succ j => simp at hb

/-- v has l, in a block that is younger than the world w0. -/
structure OwnR (cs : α → List Value) (n : Nat) (ty : TypeId) (w0 : World) (v : Value) (l : List α) (w : World) : Prop where
  kept : Kept (fun _ => False) w0 w
  own : w.ownsRow w0.heap.size ty n v l.length (l.flatMap cs)

theorem OwnR.nil (ty : TypeId) (w : World) : OwnR cs n ty w (.slice none 0 0) [] w := ⟨Kept.refl _ _, World.ownsRow_nil _ _ _ _⟩

theorem OwnR.still {ty : TypeId} {w0 w w' : World} {v : Value} {l : List α} (h : OwnR cs n ty w0 v l w) (hk : Kept (fun _ => False) w w') : OwnR cs n ty w0 v l w' :=
  ⟨h.kept.trans hk (fun _ _ e => e), own_kept h.own hk (fun _ _ x => x)⟩

theorem OwnR.src {ty : TypeId} {w0 w : World} {v : Value} {l : List α} (hn : ∀ a, (cs a).length = n) (h : OwnR cs n ty w0 v l w) : SrcR cs n v l w := by
  have hl : (l.flatMap cs).length = l.length * n := flat_len cs n hn l
  rcases h.own.2 with ⟨rfl, h0⟩ | ⟨g, cap, cur, rfl, hb, hg, hnc, hcm, hcs, htake⟩
  · obtain rfl : l = [] := List.eq_nil_of_length_eq_zero h0
    exact SrcR.none w
  · refine ⟨_, g, 0, cap, rfl, (fun h => by cases h), fun _ => rfl, hnc, fun j a ha r v hv => ?_⟩
    have hr : r < n := by have := (List.getElem?_eq_some_iff.1 hv).1; rw [hn] at this; exact this
    have hf : (l.flatMap cs)[j * n + r]? = some v := by rw [flat_get cs n hn l j r hr, ha]; exact hv
    have := h.own.cells (g := g) rfl _ _ hf
    rw [Addr.add_lit] at this
    rw [show 0 + j * n + r = 0 + (j * n + r) by omega]
    exact this

theorem OwnR.form {ty : TypeId} {w0 w : World} {v : Value} {l : List α} (h : OwnR cs n ty w0 v l w) : (v = .slice none 0 0 ∧ l = []) ∨ ∃ g c, v = .slice (some ⟨g, 0, none⟩) l.length c ∧ l.length ≤ c := by
  rcases h.own.2 with ⟨rfl, h0⟩ | ⟨g, cap, cur, rfl, hb, hg, hnc, rest⟩
  · exact .inl ⟨rfl, List.eq_nil_of_length_eq_zero h0⟩
  · exact .inr ⟨g, cap, rfl, hnc⟩
end

abbrev Ws := List (K2 × V)
abbrev SrcW := SrcR (α := K2 × V) wc 19
abbrev OwnW := OwnR (α := K2 × V) wc 19 46

theorem info_write : ∃ z, (Try.prog.info? 46).map (fun i => (i.zero, i.size, i.bytes)) = some (some z, 19, 160) := ⟨wtv ((0, 0), zeroV), by kernel_rfl⟩

theorem run_appw (ty : TypeId) (w0 : World) (v : Value) (xs : Ws) (w : World) (h : OwnW w0 v xs w) (x : Value) (news : Ws) (hx : SrcW x news w) (hlen : xs.length + news.length ≤ 1000000) :
    ∃ v' w', (Builtin.append_ #[47, 47] ty #[v, x]).run Try.prog w = .ok v' w' ∧ OwnW w0 v' (xs ++ news) w' ∧ w.grownBy w' v.ownBlock := by
  have hi0 : (Try.prog.info? 46).map (fun i => (i.zero, i.size, i.bytes)) = some (some (wtv ((0, 0), zeroV)), 19, 160) := by kernel_rfl
  obtain ⟨i0, hi, hz0, hz1, hz2⟩ := info_parts hi0
  obtain ⟨ao, b, o, c, rfl, hnc0, hao, -, hc⟩ := hx
  have some_case : ∀ a : Addr, (0 < news.length → a = ⟨b, o, none⟩) → ∃ v' w', (Builtin.append_ #[47, 47] ty #[v, .slice (some a) news.length c]).run Try.prog w = .ok v' w' ∧ OwnW w0 v' (xs ++ news) w' ∧ w.grownBy w' v.ownBlock := by
    intro a ha
    obtain ⟨v', w', hr, h2, h3, _, _⟩ := run_append_own_at (P := Try.prog) w w0.heap.size 47 ty 46 i0 (wtv ((0, 0), zeroV)) 19 160 Try.underlying47 hi hz0 hz1 hz2 rfl (by decide) v xs.length (xs.flatMap wc) h.own a news.length c (news.flatMap wc) (flat_len wc 19 wc_length news)
      (fun j u hu => by
        have hj : j < news.length * 19 := by have := (List.getElem?_eq_some_iff.1 hu).1; rw [flat_len wc 19 wc_length] at this; exact this
        obtain rfl := ha (by omega)
        have e : j = j / 19 * 19 + j % 19 := by omega
        rw [e, flat_get wc 19 wc_length news (j / 19) (j % 19) (by omega)] at hu
        cases hn : news[j / 19]? with
        | none => rw [hn] at hu; cases hu
        | some t =>
          rw [hn] at hu
          have := hc _ _ hn _ _ hu
          rw [Addr.add_lit]
          rw [show o + j = o + j / 19 * 19 + j % 19 by omega]
          exact this)
      (fun u hu => by obtain ⟨t, _, ht⟩ := List.mem_flatMap.1 hu; exact wc_one t u ht) (by unfold maxLen; omega) (by omega) h.kept.size
    refine ⟨v', w', hr, ⟨Kept.trans h.kept (Kept.grown (X := fun k => w0.heap.size ≤ k) (Kept.refl _ w) h3 (fun k e _ => (h.own.lt k e).1)) (fun k hk e => by omega), ?_⟩, h3⟩
    rw [List.flatMap_append, List.length_append]
    exact h2
  cases ao with
  | some a => exact some_case a (fun h0 => by simpa using hao h0)
  | none =>
    have h0 : news.length = 0 := by
      rcases Nat.eq_zero_or_pos news.length with h0 | h0
      · exact h0
      · have := hao h0; cases this
    obtain rfl : news = [] := List.eq_nil_of_length_eq_zero h0
    obtain rfl := hnc0 rfl
    refine ⟨v, w, ?_, by simpa using h, ⟨rfl, rfl, rfl, Nat.le_refl _, fun _ _ _ => rfl⟩⟩
    rcases h.own.2 with ⟨rfl, h0⟩ | ⟨g, cap, cur, rfl, hb, hg, hnc, hcm, hcs, htake⟩
    · simp [Builtin.append_, run_underlying Try.underlying47, sizeOf, typeInfo, hi, Builtin.lenOf, Builtin.firstCells]
    · simp [Builtin.append_, run_underlying Try.underlying47, sizeOf, typeInfo, hi, Builtin.lenOf, Builtin.firstCells, hnc, storeCells]

/-- append, at the operation. -/
theorem wp_appw {o : Oper} {a : Act} {w : World} {K : Act → World → Prop} {Q : Exit → Act → World → Prop}
    (s x : Operand) (hop : o.op = Op.call { callee := Callee.builtin Builtin.append, args := #[s, x], argTypes := #[47, 47] })
    (w0 : World) (xs news : Ws) (h : OwnW w0 (a.eval s) xs w) (hx : SrcW (a.eval x) news w) (hlen : xs.length + news.length ≤ 1000000)
    (hK : ∀ v' w', OwnW w0 v' (xs ++ news) w' → w.grownBy w' (a.eval s).ownBlock → K (a.put o.dst v') w') : o.wp Try.prog a w K Q := by
  obtain ⟨v', w', hr, h2, h3⟩ := run_appw o.type w0 _ xs w h _ news hx hlen
  unfold Oper.wp execOp
  simp only [hop, resolve, invoke, builtin, Sem.run_bind, Sem.run_pure, Result.andThen_ok, List.map_toArray, List.map_cons, List.map_nil, hr]
  exact hK v' w' h2 h3

theorem list_appw {ops : Array Oper} {rest : List Oper} {o : Oper} {a : Act} {w : World} {Q : Exit → Act → World → Prop}
    (hg : o.guard = none) (s x : Operand) (hop : o.op = Op.call { callee := Callee.builtin Builtin.append, args := #[s, x], argTypes := #[47, 47] })
    (w0 : World) (xs news : Ws) (h : OwnW w0 (a.eval s) xs w) (hx : SrcW (a.eval x) news w) (hlen : xs.length + news.length ≤ 1000000)
    (hK : ∀ v' w', OwnW w0 v' (xs ++ news) w' → w.grownBy w' (a.eval s).ownBlock → wpList Try.prog ops Q rest (a.put o.dst v') w') : wpList Try.prog ops Q (o :: rest) a w :=
  wpList_plain hg fun _ hK' => wp_appw s x hop w0 xs news h hx hlen fun v' w' h2 h3 => hK' _ _ (hK v' w' h2 h3)
end Go.Proofs.Ytigfgnaakoicjaa

namespace Go.Proofs.Ytigfgnaakoicjaa
open Go.RowKit
set_option maxRecDepth 100000
set_option linter.unusedSimpArgs false

theorem OwnR.base {α : Type} {cs : α → List Value} {n : Nat} {ty : TypeId} {w0 w1 w : World} {v : Value} {l : List α} (h : OwnR cs n ty w1 v l w) (hk : Kept (fun _ => False) w0 w1) : OwnR cs n ty w0 v l w := by
  refine ⟨hk.thru h.kept, h.own.1, ?_⟩
  rcases h.own.2 with hn | ⟨g, cap, cur, rfl, hb, rest⟩
  · exact .inl hn
  · exact .inr ⟨g, cap, cur, rfl, Nat.le_trans hk.size hb, rest⟩

def redoF (g : VwF) : Ws := (wroteF g).map fun k => (k, (noteF g k).2.2)

theorem redo_step {g : VwF} {l : Ks} {i : Nat} (hi : i < l.length) : ((l.take (i + 1)).map fun k => (k, (noteF g k).2.2)) = ((l.take i).map fun k => (k, (noteF g k).2.2)) ++ [(kd l i, (noteF g (kd l i)).2.2)] := by
  rw [List.take_succ_eq_append_getElem hi, List.map_append, kd_get hi]; rfl

end Go.Proofs.Ytigfgnaakoicjaa
