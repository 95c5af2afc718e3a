
/- What a view's Get and Put do when they are called; no conditions. -/
import Derived.Test.YtkpcillgoeidaaaSt
namespace Go.Proofs.Ytkpcillgoeidaaa
open Go.RowKit
set_option maxRecDepth 100000
set_option linter.unusedSimpArgs false

def noteF (g : VwF) (k : K2) : Bool × Bool × V := (g k).getD (false, false, zeroV)
def vgetF (f : StF) (g : VwF) (k : K2) : V := if 0 ≤ plc k then (if (noteF g k).2.1 = true then (noteF g k).2.2 else lookF f k) else zeroV
def vgetT (g : VwF) (k : K2) : VwF := if 0 ≤ plc k then upd g k (true, (noteF g k).2) else g
def vputT (g : VwF) (k : K2) (x : V) : VwF := if 0 ≤ plc k then upd g k ((noteF g k).1, true, x) else g

theorem upd_good {g : VwF} (h : ∀ k, (g k).isSome = true → 0 ≤ plc k) {k : K2} (hk : 0 ≤ plc k) (t : Bool × Bool × V) : ∀ j, (upd g k t j).isSome = true → 0 ≤ plc j := by
  intro j hj
  unfold upd at hj
  split at hj
  · rename_i h2; rw [h2]; exact hk
  · exact h j hj

theorem look_n {N : Nat} {g : VwF} {w : World} (h : MapIn kv ntv N g w) (k : K2) : (Instr.lookup 107 (.map (some N)) (kv k) false).run Try.prog w = .ok (ntv (noteF g k)) w := by
  have := h.look keyok_kv mapN zero_note k false
  rw [this]
  unfold noteF
  cases g k <;> rfl

theorem look_ok {N : Nat} {g : VwF} {w : World} (h : MapIn kv ntv N g w) (k : K2) : (Instr.lookup 107 (.map (some N)) (kv k) true).run Try.prog w = .ok (.tuple #[ntv (noteF g k), .bool (g k).isSome]) w := by
  have := h.look keyok_kv mapN zero_note k true
  rw [this]
  unfold noteF
  cases g k <;> rfl

theorem exec_alloc {ev : Operand → Value} {w : World} {d : Option Tmp} {t ty : TypeId} {p : String} {af : Array Edge} {g : Option (Nat × Bool)} {cs : List Value} {n : Nat}
    (hz : (zeroValue ty).run Try.prog w = .ok (.agg cs.toArray) w) (hn : w.heap.size = n) : (execOp ev ⟨d, .alloc ty, t, p, af, g⟩).run Try.prog w = .ok (.value (.pointer (some ⟨n, 0, none⟩))) (w.alloc (.cells cs.toArray ty)) := by
  subst hn
  simp [execOp, Instr.alloc, Sem.run_bind, hz, newVar, newRow, Value.cells]

set_option maxHeartbeats 1000000 in
theorem vput_w (q N p : Nat) (g : VwF) (x y : Int) (v : V) (w : World) (h : ViewIn q N p g w) : Calls Try.prog 37 #[.pointer (some ⟨q, 0, none⟩), .agg #[.int .i64 x, .int .i64 y], vv v] w
    fun e w' => e = .returned (.tuple #[]) ∧ ViewIn q N p (vputT g (x, y) v) w' ∧ Kept (fun n => n = N) w w' := by
  obtain ⟨E, hE⟩ : ∃ E : Nat, w.heap.size = E := ⟨_, rfl⟩
  rw [vv_is]
  go_enter Try.func37, Try.ntmps37
  obtain ⟨wA, hA⟩ : ∃ wA, (w.alloc (.cells #[.int .i64 x, .int .i64 y] 61)).alloc (.cells (vc v).toArray 64) = wA := ⟨_, rfl⟩
  have T := there_w x y wA
  have hkA : Kept (fun _ => False) w wA := by subst hA; exact ((Kept.refl _ _).alloc _).alloc _
  have hk : wA.heap[E]? = some (.cells #[.int .i64 x, .int .i64 y] 61 (0, 0)) := by subst hA; exact alloc_off (alloc_at' _ hE)
  have hz : wA.heap[E + 1]? = some (.cells (vc v).toArray 64 (0, 0)) := by subst hA; exact alloc_at' _ (by simp [hE])
  have c0 := cell_at hk (i := 0) rfl
  have c1 := cell_at hk (i := 1) rfl
  go_wp2_with fail
  clear hA c0 c1
  refine T.mono ?_
  rintro e w1 ⟨rfl, hk1⟩
  clear T
  replace hk := hk1.at hk (fun x => x)
  replace hz := hk1.at hz (fun x => x)
  replace hkA := hkA.thru hk1
  clear hk1
  by_cases hpl : 0 ≤ plc (x, y)
  · have hd : decide (0 ≤ plc (x, y)) = true := by simpa using hpl
    rw [hd]
    go_wp2_with fail
    have hq : q < E := by have := lt_at h.cell; omega
    have hN : N < E := by have := h.map.lt; omega
    have hne := h.ne
    have h1 := h.still hkA
    have KS : ∀ w', Kept (fun n => n = N) w1 w' → (w'.cell? ⟨q, 1, none⟩ = some (.map (some N)) ∧ w'.cell? ⟨E, 0, none⟩ = some (.int .i64 x) ∧ w'.cell? ⟨E, 1, none⟩ = some (.int .i64 y)) :=
      fun w' hk' => ⟨hk'.cell (cell_at h1.cell rfl) hne, hk'.cell (cell_at hk rfl) (by simp; omega), hk'.cell (cell_at hk rfl) (by simp; omega)⟩
    have KV : ∀ w', Kept (fun n => n = N) w1 w' → w'.rangeAt (E + 1) 0 (vc v) := fun w' hk' => range_kept (whole_range hz) hk' (by omega)
    have hL := look_n (w := w1.drew) (h1.map.still ((Kept.refl _ _).drew)) (x, y)
    refine wp_region_held_drew (S := fun w' => Kept (fun n => n = N) w1 w') (by kernel_rfl) ((Kept.refl _ _).drew) (fun hHeld => ?_)
    refine h_take 0 (some 9) (Op.move (Operand.tmp 0)) 27 ?v1 rfl rfl (by kernel_rfl) (by kernel_rfl) (by kernel_rfl) (fun _ _ _ h => h) ?hy1 hHeld ?_
    case hy1 => (intro _ _ _ w hSw; have hcs := KS _ hSw; go_simp; try with_reducible rfl)
    simp only [Act.put, List.setIfInBounds_toArray, List.set_cons_zero, List.set_cons_succ]
    refine h_take 1 (some 10) (Op.nilCheck (Operand.tmp 9)) 0 ?v2 rfl rfl (by kernel_rfl) (by kernel_rfl) (by kernel_rfl) (fun _ _ _ h => h) ?hy2 hHeld ?_
    case hy2 => (intro _ _ _ w hSw; have hcs := KS _ hSw; go_simp; try with_reducible rfl)
    simp only [Act.put, List.setIfInBounds_toArray, List.set_cons_zero, List.set_cons_succ]
    refine h_take 2 (some 11) (Op.fieldAddr 109 (Operand.tmp 10) 1) 0 ?v3 rfl rfl (by kernel_rfl) (by kernel_rfl) (by kernel_rfl) (fun _ _ _ h => h) ?hy3 hHeld ?_
    case hy3 => (intro _ _ _ w hSw; have hcs := KS _ hSw; go_simp; try with_reducible rfl)
    simp only [Act.put, List.setIfInBounds_toArray, List.set_cons_zero, List.set_cons_succ]
    refine h_take 3 (some 12) (Op.load 107 (Operand.tmp 11)) 107 ?v4 rfl rfl (by kernel_rfl) (by kernel_rfl) (by kernel_rfl) (fun _ _ _ h => h) ?hy4 hHeld ?_
    case hy4 => (intro _ _ _ w hSw; have hcs := KS _ hSw; go_simp; try with_reducible rfl)
    simp only [Act.put, List.setIfInBounds_toArray, List.set_cons_zero, List.set_cons_succ]
    refine h_take 4 (some 13) (Op.load 61 (Operand.tmp 4)) 61 ?v5 rfl rfl (by kernel_rfl) (by kernel_rfl) (by kernel_rfl) (fun _ _ _ h => h) ?hy5 hHeld ?_
    case hy5 => (intro _ _ _ w hSw; have hcs := KS _ hSw; go_simp; try with_reducible rfl)
    simp only [Act.put, List.setIfInBounds_toArray, List.set_cons_zero, List.set_cons_succ]
    refine h_take 5 (some 14) (Op.move (Operand.tmp 0)) 27 ?v6 rfl rfl (by kernel_rfl) (by kernel_rfl) (by kernel_rfl) (fun _ _ _ h => h) ?hy6 hHeld ?_
    case hy6 => (intro _ _ _ w hSw; have hcs := KS _ hSw; go_simp; try with_reducible rfl)
    simp only [Act.put, List.setIfInBounds_toArray, List.set_cons_zero, List.set_cons_succ]
    refine h_take 6 (some 15) (Op.nilCheck (Operand.tmp 14)) 0 ?v7 rfl rfl (by kernel_rfl) (by kernel_rfl) (by kernel_rfl) (fun _ _ _ h => h) ?hy7 hHeld ?_
    case hy7 => (intro _ _ _ w hSw; have hcs := KS _ hSw; go_simp; try with_reducible rfl)
    simp only [Act.put, List.setIfInBounds_toArray, List.set_cons_zero, List.set_cons_succ]
    refine h_take 7 (some 16) (Op.fieldAddr 109 (Operand.tmp 15) 1) 0 ?v8 rfl rfl (by kernel_rfl) (by kernel_rfl) (by kernel_rfl) (fun _ _ _ h => h) ?hy8 hHeld ?_
    case hy8 => (intro _ _ _ w hSw; have hcs := KS _ hSw; go_simp; try with_reducible rfl)
    simp only [Act.put, List.setIfInBounds_toArray, List.set_cons_zero, List.set_cons_succ]
    refine h_take 8 (some 17) (Op.load 107 (Operand.tmp 16)) 107 ?v9 rfl rfl (by kernel_rfl) (by kernel_rfl) (by kernel_rfl) (fun _ _ _ h => h) ?hy9 hHeld ?_
    case hy9 => (intro _ _ _ w hSw; have hcs := KS _ hSw; go_simp; try with_reducible rfl)
    simp only [Act.put, List.setIfInBounds_toArray, List.set_cons_zero, List.set_cons_succ]
    refine h_take 9 (some 18) (Op.load 61 (Operand.tmp 4)) 61 ?v10 rfl rfl (by kernel_rfl) (by kernel_rfl) (by kernel_rfl) (fun _ _ _ h => h) ?hy10 hHeld ?_
    case hy10 => (intro _ _ _ w hSw; have hcs := KS _ hSw; go_simp; try with_reducible rfl)
    simp only [Act.put, List.setIfInBounds_toArray, List.set_cons_zero, List.set_cons_succ]
    refine h_take 12 (some 21) (Op.load 64 (Operand.tmp 5)) 64 (vv v) rfl rfl (by kernel_rfl) (by kernel_rfl) (by kernel_rfl) (fun _ _ _ h => h) (fun _ _ _ w hSw => exec_load rfl (load_wide wide_V (KV w hSw) rfl)) hHeld ?_
    simp only [Act.put, List.setIfInBounds_toArray, List.set_cons_zero, List.set_cons_succ]
    refine h_step 10 (some 19) (Op.lookup 107 (Operand.tmp 17) (Operand.tmp 18) false) 106 rfl rfl (by kernel_rfl) (fun _ _ _ K hK => ?_)
    refine wp_yield (exec_look rfl rfl hL) ?_
    refine hK.out _ _ ((Kept.refl _ w1).drew) (fun hHeld => ?_)
    clear hK K
    try simp only [Act.put, List.setIfInBounds_toArray, List.set_cons_zero, List.set_cons_succ]
    refine h_take 11 (some 20) (Op.field 106 (Operand.tmp 19) 0) 4 (.bool (noteF g (x, y)).1) rfl rfl (by kernel_rfl) (by kernel_rfl) (by kernel_rfl) (fun _ _ _ h => h) (fun _ _ _ w hSw => exec_field rfl (field_read (noteF g (x, y)) w)) hHeld ?_
    simp only [Act.put, List.setIfInBounds_toArray, List.set_cons_zero, List.set_cons_succ]
    refine h_take 13 (some 22) (Op.build 106 #[(0, Operand.tmp 20), (1, Operand.const (Value.bool true)), (2, Operand.tmp 21)]) 106 (ntv ((noteF g (x, y)).1, true, v)) rfl rfl (by kernel_rfl) (by kernel_rfl) (by kernel_rfl) (fun _ _ _ h => h) (fun _ _ _ w hSw => exec_build (build_note (noteF g (x, y)).1 true v w) (by kernel_rfl)) hHeld ?_
    simp only [Act.put, List.setIfInBounds_toArray, List.set_cons_zero, List.set_cons_succ]
    obtain ⟨w2, hr, hm, hk2, hsz⟩ := MapIn.store (w := w1.drew) (h1.map.still ((Kept.refl _ _).drew)) keyok_kv mapN (x, y) ((noteF g (x, y)).1, true, v)
    refine h_step 14 (none) (Op.mapUpdate 107 (Operand.tmp 12) (Operand.tmp 13) (Operand.tmp 22)) 0 rfl rfl (by kernel_rfl) (fun _ _ _ K hK => ?_)
    refine wp_skip (exec_update rfl rfl rfl hr) ?_
    refine hK.out _ _ ((Kept.refl _ w1).drew.trans hk2 (fun _ _ e => e)) (fun hHeld => ?_)
    clear hK K
    try simp only [Act.put, List.setIfInBounds_toArray, List.set_cons_zero, List.set_cons_succ]
    refine wpAnyH_done (by kernel_rfl) ?_ _
    clear hHeld KS KV hr hL
    have hW : Kept (fun n => n = N) w w2 := (hkA.drew.mono (fun _ _ e => e.elim)).trans hk2 (fun _ _ e => e)
    have hS : ViewIn q N p (vputT g (x, y) v) w2 := ⟨hW.at h.cell hne, by unfold vputT; rw [if_pos hpl]; exact hm, by unfold vputT; rw [if_pos hpl]; exact upd_good h.good hpl _⟩
    go_wp2
    go_end0
    exact ⟨rfl, hS, hW⟩
  · have hd : decide (0 ≤ plc (x, y)) = false := by simpa using hpl
    rw [hd]
    have hS : ViewIn q N p (vputT g (x, y) v) w1 := by unfold vputT; rw [if_neg hpl]; exact h.still hkA
    have hW : Kept (fun n => n = N) w w1 := hkA.mono (fun _ _ e => e.elim)
    clear h
    go_wp2
    exact bodyPost_ret (v := .tuple #[]) (by simp [results, Try.results37, go_sem]) rfl ⟨rfl, hS, hW⟩

set_option maxHeartbeats 2000000 in
theorem vget_w (q N p B : Nat) (f : StF) (g : VwF) (x y : Int) (w : World) (h : ViewIn q N p g w) (hs : StoreIn p B f w) (hNB : N ≠ B) : Calls Try.prog 34 #[.pointer (some ⟨q, 0, none⟩), .agg #[.int .i64 x, .int .i64 y]] w
    fun e w' => e = .returned (vv (vgetF f g (x, y))) ∧ ViewIn q N p (vgetT g (x, y)) w' ∧ Kept (fun n => n = N) w w' := by
  obtain ⟨E, hE⟩ : ∃ E : Nat, w.heap.size = E := ⟨_, rfl⟩
  go_enter Try.func34, Try.ntmps34
  obtain ⟨wA, hA⟩ : ∃ wA, (w.alloc (.cells #[.int .i64 x, .int .i64 y] 61)).alloc (.cells (vc zeroV).toArray 64) = wA := ⟨_, rfl⟩
  have T := there_w x y wA
  have hkA : Kept (fun _ => False) w wA := by subst hA; exact ((Kept.refl _ _).alloc _).alloc _
  have hk : wA.heap[E]? = some (.cells #[.int .i64 x, .int .i64 y] 61 (0, 0)) := by subst hA; exact alloc_off (alloc_at' _ hE)
  have hz : wA.heap[E + 1]? = some (.cells (vc zeroV).toArray 64 (0, 0)) := by subst hA; exact alloc_at' _ (by simp [hE])
  have c0 := cell_at hk (i := 0) rfl
  have c1 := cell_at hk (i := 1) rfl
  rw [zero_cells] at hA
  go_wp2_with fail
  clear hA c0 c1
  refine T.mono ?_
  rintro e w1 ⟨rfl, hk1⟩
  clear T
  replace hk := hk1.at hk (fun x => x)
  replace hz := hk1.at hz (fun x => x)
  replace hkA := hkA.thru hk1
  clear hk1
  by_cases hpl : 0 ≤ plc (x, y)
  · have hd : decide (0 ≤ plc (x, y)) = true := by simpa using hpl
    rw [hd]
    go_wp2_with fail
    have hq : q < E := by have := lt_at h.cell; omega
    have hN : N < E := by have := h.map.lt; omega
    have hp : p < E := by have := lt_at hs.cell; omega
    have hB : B < E := by have := hs.map.lt; omega
    have hne := h.ne
    have h1 := h.still hkA
    have hs1 := hs.still hkA
    obtain ⟨F, hF⟩ : ∃ F : Nat, w1.heap.size = F := ⟨_, rfl⟩
    have hEF : E + 1 < F := by have := lt_at hz; omega
    have KS : ∀ w', Kept (fun _ => False) w1 w' → (w'.cell? ⟨q, 1, none⟩ = some (.map (some N)) ∧ w'.cell? ⟨E, 0, none⟩ = some (.int .i64 x) ∧ w'.cell? ⟨E, 1, none⟩ = some (.int .i64 y)) :=
      fun w' hk' => ⟨hk'.cell (cell_at h1.cell rfl) (fun x => x), hk'.cell (cell_at hk rfl) (fun x => x), hk'.cell (cell_at hk rfl) (fun x => x)⟩
    have KM : ∀ w', Kept (fun _ => False) w1 w' → (Instr.lookup 107 (.map (some N)) (kv (x, y)) false).run Try.prog w' = .ok (ntv (noteF g (x, y))) w' := fun w' hk' => look_n (h1.map.still hk') (x, y)
    obtain ⟨⟨r, wr, u⟩, hn⟩ : ∃ t, noteF g (x, y) = t := ⟨_, rfl⟩
    rw [hn] at KM
    refine wp_region_held_drew (S := fun w' => Kept (fun _ => False) w1 w') (by kernel_rfl) ((Kept.refl _ _).drew) (fun hHeld => ?_)
    refine h_take 0 (some 10) (Op.move (Operand.tmp 0)) 27 ?v11 rfl rfl (by kernel_rfl) (by kernel_rfl) (by kernel_rfl) (fun _ _ _ h => h) ?hy11 hHeld ?_
    case hy11 => (intro _ _ _ w hSw; have hcs := KS _ hSw; go_simp; try with_reducible rfl)
    simp only [Act.put, List.setIfInBounds_toArray, List.set_cons_zero, List.set_cons_succ]
    refine h_take 1 (some 11) (Op.nilCheck (Operand.tmp 10)) 0 ?v12 rfl rfl (by kernel_rfl) (by kernel_rfl) (by kernel_rfl) (fun _ _ _ h => h) ?hy12 hHeld ?_
    case hy12 => (intro _ _ _ w hSw; have hcs := KS _ hSw; go_simp; try with_reducible rfl)
    simp only [Act.put, List.setIfInBounds_toArray, List.set_cons_zero, List.set_cons_succ]
    refine h_take 2 (some 12) (Op.fieldAddr 109 (Operand.tmp 11) 1) 0 ?v13 rfl rfl (by kernel_rfl) (by kernel_rfl) (by kernel_rfl) (fun _ _ _ h => h) ?hy13 hHeld ?_
    case hy13 => (intro _ _ _ w hSw; have hcs := KS _ hSw; go_simp; try with_reducible rfl)
    simp only [Act.put, List.setIfInBounds_toArray, List.set_cons_zero, List.set_cons_succ]
    refine h_take 3 (some 13) (Op.load 107 (Operand.tmp 12)) 107 ?v14 rfl rfl (by kernel_rfl) (by kernel_rfl) (by kernel_rfl) (fun _ _ _ h => h) ?hy14 hHeld ?_
    case hy14 => (intro _ _ _ w hSw; have hcs := KS _ hSw; go_simp; try with_reducible rfl)
    simp only [Act.put, List.setIfInBounds_toArray, List.set_cons_zero, List.set_cons_succ]
    refine h_take 4 (some 14) (Op.load 61 (Operand.tmp 3)) 61 ?v15 rfl rfl (by kernel_rfl) (by kernel_rfl) (by kernel_rfl) (fun _ _ _ h => h) ?hy15 hHeld ?_
    case hy15 => (intro _ _ _ w hSw; have hcs := KS _ hSw; go_simp; try with_reducible rfl)
    simp only [Act.put, List.setIfInBounds_toArray, List.set_cons_zero, List.set_cons_succ]
    refine h_take 5 (some 15) (Op.lookup 107 (Operand.tmp 13) (Operand.tmp 14) false) 106 (ntv (r, wr, u)) rfl rfl (by kernel_rfl) (by kernel_rfl) (by kernel_rfl) (fun _ _ _ h => h) (fun _ _ _ w hSw => exec_look rfl rfl (KM w hSw)) hHeld ?_
    simp only [Act.put, List.setIfInBounds_toArray, List.set_cons_zero, List.set_cons_succ]
    refine h_step 6 (some 5) (Op.alloc 106) 0 rfl rfl (by kernel_rfl) (fun _ _ _ K hK => ?_)
    refine wp_yield (exec_alloc (cs := nc (false, false, zeroV)) (zero_note _) hF) ?_
    have k2 : Kept (fun _ => False) w1 (w1.drew.alloc (.cells (nc (false, false, zeroV)).toArray 106)) := (Kept.refl _ w1).drew.alloc _
    have hF2 : (w1.drew.alloc (.cells (nc (false, false, zeroV)).toArray 106)).heap[F]? = some (.cells (nc (false, false, zeroV)).toArray 106 (0, 0)) := alloc_at' _ hF
    generalize w1.drew.alloc (.cells (nc (false, false, zeroV)).toArray 106) = w2 at *
    refine hK.out _ _ (k2) (fun hHeld => ?_)
    clear hK K
    try simp only [Act.put, List.setIfInBounds_toArray, List.set_cons_zero, List.set_cons_succ]
    refine h_step 7 (none) (Op.store 106 (Operand.tmp 5) (Operand.tmp 15)) 0 rfl rfl (by kernel_rfl) (fun _ _ _ K hK => ?_)
    refine wp_skip (exec_store rfl rfl (store_wide wide_N (old := nc (false, false, zeroV)) (cs := nc (r, wr, u)) hF2 rfl rfl (nc_one _))) ?_
    have k3 : Kept (fun _ => False) w1 (w2.setRow F (nc (r, wr, u)).toArray) := k2.trans (kept_setRow _ _ _) (fun k h1 h2 => by omega)
    have hF3 := setRow_at hF2 (nc (r, wr, u)).toArray
    generalize w2.setRow F (nc (r, wr, u)).toArray = w3 at *
    refine hK.out _ _ (k3) (fun hHeld => ?_)
    clear hK K
    try simp only [Act.put, List.setIfInBounds_toArray, List.set_cons_zero, List.set_cons_succ]
    refine wpAnyH_done (by kernel_rfl) ?_ _
    clear hHeld KS KM hF2 k2
    have c0 : w3.cell? ⟨F, 0, none⟩ = some (.bool r) := cell_at hF3 rfl
    have f0 : w3.frozen? ⟨F, 0, none⟩ = false := free_at hF3 0
    have hF4 : (w3.setCell ⟨F, 0, none⟩ (.bool true)).heap[F]? = some (.cells (nc (true, wr, u)).toArray 106 (0, 0)) := by rw [set_at hF3]; rfl
    have k4 : Kept (fun _ => False) w1 (w3.setCell ⟨F, 0, none⟩ (.bool true)) := Kept.setCell k3 (fun e => by simp at e; omega) _
    go_wp2_with fail
    generalize w3.setCell ⟨F, 0, none⟩ (.bool true) = w4 at *
    clear c0 f0 k3 hF3 hF
    have h4 := h1.still k4
    have hk4 := k4.at hk (fun x => x)
    have KS : ∀ w', Kept (fun n => n = N) w4 w' → (w'.cell? ⟨q, 1, none⟩ = some (.map (some N)) ∧ w'.cell? ⟨E, 0, none⟩ = some (.int .i64 x) ∧ w'.cell? ⟨E, 1, none⟩ = some (.int .i64 y)) :=
      fun w' hk' => ⟨hk'.cell (cell_at h4.cell rfl) hne, hk'.cell (cell_at hk4 rfl) (by simp; omega), hk'.cell (cell_at hk4 rfl) (by simp; omega)⟩
    have KV : ∀ w', Kept (fun n => n = N) w4 w' → w'.rangeAt F 0 (nc (true, wr, u)) := fun w' hk' => range_kept (whole_range hF4) hk' (by omega)
    refine wp_region_held_drew (S := fun w' => Kept (fun n => n = N) w4 w') (by kernel_rfl) ((Kept.refl _ _).drew) (fun hHeld => ?_)
    refine h_take 0 (some 17) (Op.move (Operand.tmp 0)) 27 ?v16 rfl rfl (by kernel_rfl) (by kernel_rfl) (by kernel_rfl) (fun _ _ _ h => h) ?hy16 hHeld ?_
    case hy16 => (intro _ _ _ w hSw; have hcs := KS _ hSw; go_simp; try with_reducible rfl)
    simp only [Act.put, List.setIfInBounds_toArray, List.set_cons_zero, List.set_cons_succ]
    refine h_take 1 (some 18) (Op.nilCheck (Operand.tmp 17)) 0 ?v17 rfl rfl (by kernel_rfl) (by kernel_rfl) (by kernel_rfl) (fun _ _ _ h => h) ?hy17 hHeld ?_
    case hy17 => (intro _ _ _ w hSw; have hcs := KS _ hSw; go_simp; try with_reducible rfl)
    simp only [Act.put, List.setIfInBounds_toArray, List.set_cons_zero, List.set_cons_succ]
    refine h_take 2 (some 19) (Op.fieldAddr 109 (Operand.tmp 18) 1) 0 ?v18 rfl rfl (by kernel_rfl) (by kernel_rfl) (by kernel_rfl) (fun _ _ _ h => h) ?hy18 hHeld ?_
    case hy18 => (intro _ _ _ w hSw; have hcs := KS _ hSw; go_simp; try with_reducible rfl)
    simp only [Act.put, List.setIfInBounds_toArray, List.set_cons_zero, List.set_cons_succ]
    refine h_take 3 (some 20) (Op.load 107 (Operand.tmp 19)) 107 ?v19 rfl rfl (by kernel_rfl) (by kernel_rfl) (by kernel_rfl) (fun _ _ _ h => h) ?hy19 hHeld ?_
    case hy19 => (intro _ _ _ w hSw; have hcs := KS _ hSw; go_simp; try with_reducible rfl)
    simp only [Act.put, List.setIfInBounds_toArray, List.set_cons_zero, List.set_cons_succ]
    refine h_take 4 (some 21) (Op.load 61 (Operand.tmp 3)) 61 ?v20 rfl rfl (by kernel_rfl) (by kernel_rfl) (by kernel_rfl) (fun _ _ _ h => h) ?hy20 hHeld ?_
    case hy20 => (intro _ _ _ w hSw; have hcs := KS _ hSw; go_simp; try with_reducible rfl)
    simp only [Act.put, List.setIfInBounds_toArray, List.set_cons_zero, List.set_cons_succ]
    refine h_take 5 (some 22) (Op.load 106 (Operand.tmp 5)) 106 (ntv (true, wr, u)) rfl rfl (by kernel_rfl) (by kernel_rfl) (by kernel_rfl) (fun _ _ _ h => h) (fun _ _ _ w hSw => exec_load rfl (load_wide wide_N (KV w hSw) rfl)) hHeld ?_
    simp only [Act.put, List.setIfInBounds_toArray, List.set_cons_zero, List.set_cons_succ]
    obtain ⟨w5, hr, hm, hk5, hsz⟩ := MapIn.store (w := w4.drew) (h4.map.still ((Kept.refl _ _).drew)) keyok_kv mapN (x, y) (true, wr, u)
    refine h_step 6 (none) (Op.mapUpdate 107 (Operand.tmp 20) (Operand.tmp 21) (Operand.tmp 22)) 0 rfl rfl (by kernel_rfl) (fun _ _ _ K hK => ?_)
    refine wp_skip (exec_update rfl rfl rfl hr) ?_
    refine hK.out _ _ ((Kept.refl _ w4).drew.trans hk5 (fun _ _ e => e)) (fun hHeld => ?_)
    clear hK K
    try simp only [Act.put, List.setIfInBounds_toArray, List.set_cons_zero, List.set_cons_succ]
    refine wpAnyH_done (by kernel_rfl) ?_ _
    clear hHeld KS KV hr hk4
    have k5 : Kept (fun n => n = N) w4 w5 := (Kept.refl _ w4).drew.trans hk5 (fun _ _ e => e)
    have hF5 := k5.at hF4 (show ¬ F = N by omega)
    have hz5 := k5.at (k4.at hz (fun x => x)) (show ¬ E + 1 = N by omega)
    have hk5' := k5.at (k4.at hk (fun x => x)) (show ¬ E = N by omega)
    have hW : Kept (fun n => n = N) w w5 := ((hkA.thru k4).mono (fun _ _ e => e.elim)).trans k5 (fun _ _ e => e)
    have hS : ViewIn q N p (vgetT g (x, y)) w5 := ⟨hW.at h.cell hne, by unfold vgetT; rw [if_pos hpl, hn]; exact hm, by unfold vgetT; rw [if_pos hpl]; exact upd_good h.good hpl _⟩
    have hs5 : StoreIn p B f w5 := hs.kept hW (fun e => by subst e; exact h.map.off hs.cell rfl) (fun e => hNB e.symm)
    have hV : vgetF f g (x, y) = if wr = true then u else lookF f (x, y) := by unfold vgetF; rw [if_pos hpl, hn]
    clear hn hk hz hkA k4 h1 hs1 hF4 h4 hm hk5 hsz k5
    have c1 : w5.cell? ⟨F, 1, none⟩ = some (.bool wr) := cell_at hF5 rfl
    cases wr with
    | true =>
      have hr := part_range (bs := [.bool true, .bool true]) (cs := vc u) hF5 (o := 2) rfl
      go_wp2_with (first | (refine list_wload rfl wide_V _ rfl F 2 rfl (vc u) hr rfl ?_) | (refine list_wstore rfl wide_V _ _ rfl (E + 1) rfl (vc u) rfl hz5 rfl rfl (vc_one _) ?_))
      have hz6 := setRow_at hz5 (vc u).toArray
      have hk6 := kept_setRow w5 (E + 1) (vc u).toArray
      refine bodyPost_ret (results_cell_row Try.results34 _ _ (E + 1) _ _ _ _ rfl hz6 Try.underlying64 rfl wide_V.size) rfl ⟨by first | rfl | (rw [hV]; rfl), hS.kept hk6 (by omega) (by omega), hW.trans hk6 (fun k h1 h2 => by omega)⟩
    | false =>
      go_wp2_with fail
      have KS : ∀ w', Kept (fun n => n = E + 1) w5 w' → (w'.cell? ⟨q, 0, none⟩ = some (.pointer (some ⟨p, 0, none⟩)) ∧ w'.cell? ⟨E, 0, none⟩ = some (.int .i64 x) ∧ w'.cell? ⟨E, 1, none⟩ = some (.int .i64 y)) :=
        fun w' hk' => ⟨hk'.cell (cell_at hS.cell rfl) (by simp; omega), hk'.cell (cell_at hk5' rfl) (by simp), hk'.cell (cell_at hk5' rfl) (by simp)⟩
      refine wp_region_held_drew (S := fun w' => Kept (fun n => n = E + 1) w5 w') (by kernel_rfl) ((Kept.refl _ _).drew) (fun hHeld => ?_)
      refine h_take 0 (some 27) (Op.move (Operand.tmp 0)) 27 ?v21 rfl rfl (by kernel_rfl) (by kernel_rfl) (by kernel_rfl) (fun _ _ _ h => h) ?hy21 hHeld ?_
      case hy21 => (intro _ _ _ w hSw; have hcs := KS _ hSw; go_simp; try with_reducible rfl)
      simp only [Act.put, List.setIfInBounds_toArray, List.set_cons_zero, List.set_cons_succ]
      refine h_take 1 (some 28) (Op.nilCheck (Operand.tmp 27)) 0 ?v22 rfl rfl (by kernel_rfl) (by kernel_rfl) (by kernel_rfl) (fun _ _ _ h => h) ?hy22 hHeld ?_
      case hy22 => (intro _ _ _ w hSw; have hcs := KS _ hSw; go_simp; try with_reducible rfl)
      simp only [Act.put, List.setIfInBounds_toArray, List.set_cons_zero, List.set_cons_succ]
      refine h_take 2 (some 29) (Op.fieldAddr 109 (Operand.tmp 28) 0) 0 ?v23 rfl rfl (by kernel_rfl) (by kernel_rfl) (by kernel_rfl) (fun _ _ _ h => h) ?hy23 hHeld ?_
      case hy23 => (intro _ _ _ w hSw; have hcs := KS _ hSw; go_simp; try with_reducible rfl)
      simp only [Act.put, List.setIfInBounds_toArray, List.set_cons_zero, List.set_cons_succ]
      refine h_take 3 (some 30) (Op.load 26 (Operand.tmp 29)) 26 ?v24 rfl rfl (by kernel_rfl) (by kernel_rfl) (by kernel_rfl) (fun _ _ _ h => h) ?hy24 hHeld ?_
      case hy24 => (intro _ _ _ w hSw; have hcs := KS _ hSw; go_simp; try with_reducible rfl)
      simp only [Act.put, List.setIfInBounds_toArray, List.set_cons_zero, List.set_cons_succ]
      refine h_take 4 (some 31) (Op.load 61 (Operand.tmp 3)) 61 ?v25 rfl rfl (by kernel_rfl) (by kernel_rfl) (by kernel_rfl) (fun _ _ _ h => h) ?hy25 hHeld ?_
      case hy25 => (intro _ _ _ w hSw; have hcs := KS _ hSw; go_simp; try with_reducible rfl)
      simp only [Act.put, List.setIfInBounds_toArray, List.set_cons_zero, List.set_cons_succ]
      have G := get_w p B f x y w5.drew (hs5.still (Kept.refl _ _).drew)
      refine h_step 5 (some 32) (Op.call { callee := Callee.value (Operand.func 65), args := #[Operand.tmp 30, Operand.tmp 31], argTypes := #[26, 61] }) 64 rfl rfl (by kernel_rfl) (fun _ _ _ K hK => ?_)
      go_simp
      refine G.mono ?_
      rintro e w6 ⟨rfl, hk6⟩
      clear G KS
      have k6 : Kept (fun _ => False) w5 w6 := (Kept.refl _ w5).drew.thru hk6
      go_wp2_with fail
      refine hK.out _ _ (k6.mono (fun _ _ e => e.elim)) (fun hHeld => ?_)
      clear hK K
      try simp only [Act.put, List.setIfInBounds_toArray, List.set_cons_zero, List.set_cons_succ]
      have hz6 := k6.at hz5 (fun x => x)
      refine h_step 6 (none) (Op.store 64 (Operand.tmp 4) (Operand.tmp 32)) 0 rfl rfl (by kernel_rfl) (fun _ _ _ K hK => ?_)
      refine wp_skip (exec_store rfl rfl (store_wide wide_V (old := vc zeroV) (cs := vc (lookF f (x, y))) hz6 rfl rfl (vc_one _))) ?_
      have hz7 := setRow_at hz6 (vc (lookF f (x, y))).toArray
      have k7 : Kept (fun n => n = E + 1) w5 (w6.setRow (E + 1) (vc (lookF f (x, y))).toArray) := (k6.mono (fun _ _ e => e.elim)).trans (kept_setRow w6 (E + 1) (vc (lookF f (x, y))).toArray) (fun _ _ e => e)
      generalize w6.setRow (E + 1) (vc (lookF f (x, y))).toArray = w7 at *
      refine hK.out _ _ (k7) (fun hHeld => ?_)
      clear hK K
      try simp only [Act.put, List.setIfInBounds_toArray, List.set_cons_zero, List.set_cons_succ]
      refine wpAnyH_done (by kernel_rfl) ?_ _
      clear hHeld
      go_wp2_with fail
      exact bodyPost_ret (results_cell_row Try.results34 _ _ (E + 1) _ _ _ _ rfl hz7 Try.underlying64 rfl wide_V.size) rfl ⟨by first | rfl | (rw [hV]; rfl), hS.kept k7 (by omega) (by omega), hW.trans k7 (fun k h1 h2 => by omega)⟩
  · have hd : decide (0 ≤ plc (x, y)) = false := by simpa using hpl
    rw [hd]
    have hV : vgetF f g (x, y) = zeroV := by unfold vgetF; rw [if_neg hpl]
    have hS : ViewIn q N p (vgetT g (x, y)) w1 := by unfold vgetT; rw [if_neg hpl]; exact h.still hkA
    have hq : q < E := by have := lt_at h.cell; omega
    have hN : N < E := by have := h.map.lt; omega
    clear h
    go_wp2_with (first | (refine list_wstore rfl wide_V _ _ rfl (E + 1) rfl (vc zeroV) rfl hz rfl rfl (vc_one _) ?_))
    have hz6 := setRow_at hz (vc zeroV).toArray
    have hk6 := kept_setRow w1 (E + 1) (vc zeroV).toArray
    refine bodyPost_ret (results_cell_row Try.results34 _ _ (E + 1) _ _ _ _ rfl hz6 Try.underlying64 rfl wide_V.size) rfl ⟨by first | rfl | (rw [hV]; rfl), hS.kept hk6 (by omega) (by omega), (hkA.mono (fun _ _ e => e.elim)).trans hk6 (fun k h1 h2 => by omega)⟩
end Go.Proofs.Ytkpcillgoeidaaa
