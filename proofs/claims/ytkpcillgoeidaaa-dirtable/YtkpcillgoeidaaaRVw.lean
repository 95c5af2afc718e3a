
/- What the reference's views do when they are called; no conditions. -/
import Derived.Test.YtkpcillgoeidaaaRSt
import Derived.Test.YtkpcillgoeidaaaTwinF
import Derived.Deep.CutBlock
namespace Go.Proofs.Ytkpcillgoeidaaa
open Go.RowKit
set_option maxRecDepth 100000
set_option linter.unusedSimpArgs false

def bv (b : Bool) : Value := .bool b
def rdOf (g : VwF) : K2 → Option Bool := fun k => if (noteF g k).1 = true then some true else none

theorem rd_none : rdOf (fun _ => none) = fun _ => none := rfl
theorem rd_get {g : VwF} {k : K2} (h : 0 ≤ plc k) : rdOf (vgetT g k) = upd (rdOf g) k true := by
  funext j
  unfold rdOf vgetT
  rw [if_pos h, note_upd]
  unfold upd
  by_cases e : j = k
  · simp [e]
  · simp [e]
theorem rd_put {g : VwF} {k : K2} {x : V} (h : 0 ≤ plc k) : rdOf (vputT g k x) = rdOf g := by
  funext j
  unfold rdOf vputT
  rw [if_pos h, note_upd]
  by_cases e : j = k
  · subst e; simp
  · simp [e]
theorem own_good {g : VwF} (hg : ∀ k, (g k).isSome = true → 0 ≤ plc k) : ∀ k, (ownOf g k).isSome = true → 0 ≤ plc k := by
  intro k h
  apply hg
  unfold ownOf noteF at h
  cases hk : g k with
  | none => rw [hk] at h; simp at h
  | some t => rfl

structure RViewIn (q R W p : Nat) (g : VwF) (w : World) : Prop where
  cell : w.heap[q]? = some (.cells #[.pointer (some ⟨p, 0, none⟩), .map (some R), .map (some W)] 116 (0, 0))
  r : MapIn iv bv R (byP (rdOf g)) w
  w : MapIn iv vv W (byP (ownOf g)) w
  good : ∀ k, (g k).isSome = true → 0 ≤ plc k
  ne : R ≠ W

theorem RViewIn.kept {X : Nat → Prop} {q R W p : Nat} {g : VwF} {w w' : World} (h : RViewIn q R W p g w) (hk : Kept X w w') (hq : ¬ X q) (hR : ¬ X R) (hW : ¬ X W) : RViewIn q R W p g w' :=
  ⟨hk.at h.cell hq, h.r.kept hk hR, h.w.kept hk hW, h.good, h.ne⟩
theorem RViewIn.still {q R W p : Nat} {g : VwF} {w w' : World} (h : RViewIn q R W p g w) (hk : Kept (fun _ => False) w w') : RViewIn q R W p g w' := h.kept hk (fun x => x) (fun x => x) (fun x => x)

theorem rview_w (p : Nat) (w : World) : Calls Try.prog 64 #[.pointer (some ⟨p, 0, none⟩)] w
    fun e w' => ∃ q R W, e = .returned (.pointer (some ⟨q, 0, none⟩)) ∧ RViewIn q R W p (fun _ => none) w' ∧ Kept (fun _ => False) w w' ∧ w.heap.size ≤ q ∧ w.heap.size ≤ R ∧ w.heap.size ≤ W := by
  obtain ⟨E, hE⟩ : ∃ E : Nat, w.heap.size = E := ⟨_, rfl⟩
  have hmm := @run_makeMap Try.prog
  go_enter Try.func64, Try.ntmps64
  go_wp2
  go_ret
  exact ⟨E + 2, E, E + 1, rfl, ⟨alloc_at' _ (by simp [hE]), by rw [rd_none, byP_none]; exact (MapIn.made hE).still (((Kept.refl _ _).alloc _).alloc _), by rw [own_none, byP_none]; exact (MapIn.made (by simp [hE])).still ((Kept.refl _ _).alloc _), by simp, by omega⟩, (((Kept.refl _ _).alloc _).alloc _).alloc _, by omega, by omega, by omega⟩

set_option maxHeartbeats 1000000 in
theorem rvput_w (q R W p : Nat) (g : VwF) (x y : Int) (v : V) (w : World) (h : RViewIn q R W p g w) : Calls Try.prog 72 #[.pointer (some ⟨q, 0, none⟩), .agg #[.int .i64 x, .int .i64 y], vv v] w
    fun e w' => e = .returned (.tuple #[]) ∧ RViewIn q R W p (vputT g (x, y) v) w' ∧ Kept (fun n => n = W) w w' := by
  obtain ⟨E, hE⟩ : ∃ E : Nat, w.heap.size = E := ⟨_, rfl⟩
  rw [vv_is]
  go_enter Try.func72, Try.ntmps72
  obtain ⟨wA, hA⟩ : ∃ wA, (w.alloc (.cells #[.int .i64 x, .int .i64 y] 61)).alloc (.cells (vc v).toArray 64) = wA := ⟨_, rfl⟩
  have T := refplace_w x y wA
  have hkA : Kept (fun _ => False) w wA := by subst hA; exact ((Kept.refl _ _).alloc _).alloc _
  have hk : wA.heap[E]? = some (.cells #[.int .i64 x, .int .i64 y] 61 (0, 0)) := by subst hA; exact alloc_off (alloc_at' _ hE)
  have hz : wA.heap[E + 1]? = some (.cells (vc v).toArray 64 (0, 0)) := by subst hA; exact alloc_at' _ (by simp [hE])
  have c0 := cell_at hk (i := 0) rfl
  have c1 := cell_at hk (i := 1) rfl
  go_wp2_with fail
  clear hA c0 c1
  refine T.mono ?_
  rintro e w1 ⟨rfl, hk1⟩
  clear T
  replace hz := hk1.at hz (fun x => x)
  replace hkA := hkA.thru hk1
  clear hk1 hk
  by_cases hpl : plc (x, y) < 0
  · have HS : Hid (RViewIn q R W p (vputT g (x, y) v) w1) := by show RViewIn _ _ _ _ _ _; unfold vputT; rw [if_neg (by omega)]; exact h.still hkA
    have hW : Hid (Kept (fun n => n = W) w w1) := hkA.mono (fun _ _ e => e.elim)
    have t1 : ¬ 0 ≤ plc (x, y) := by omega
    clear h hz hkA
    go_wp2
    go_end0
    exact ⟨rfl, HS.out, hW.out⟩
  · have hp0 : 0 ≤ plc (x, y) := by omega
    go_wp2_with fail
    have hW : W < E := by have := h.w.lt; omega
    have hne : q ≠ W := h.w.off h.cell
    have h1 := h.still hkA
    have KS : ∀ w', Kept (fun n => n = W) w1 w' → (w'.cell? ⟨q, 2, none⟩ = some (.map (some W))) := fun w' hk' => hk'.cell (cell_at h1.cell rfl) hne
    have KV : ∀ w', Kept (fun n => n = W) w1 w' → w'.rangeAt (E + 1) 0 (vc v) := fun w' hk' => range_kept (whole_range hz) hk' (by omega)
    refine wp_region_held_drew (S := fun w' => Kept (fun n => n = W) w1 w') (by kernel_rfl) ((Kept.refl _ _).drew) (fun hHeld => ?_)
    refine h_take 0 (some 11) (Op.move (Operand.tmp 0)) 29 ?v1 rfl rfl (by kernel_rfl) (by kernel_rfl) (by kernel_rfl) (fun _ _ _ h => h) ?hy1 hHeld ?_
    case hy1 => (intro _ _ _ w hSw; have hcs := KS _ hSw; go_simp; try with_reducible rfl)
    simp only [Act.put, List.setIfInBounds_toArray, List.set_cons_zero, List.set_cons_succ]
    refine h_take 1 (some 12) (Op.nilCheck (Operand.tmp 11)) 0 ?v2 rfl rfl (by kernel_rfl) (by kernel_rfl) (by kernel_rfl) (fun _ _ _ h => h) ?hy2 hHeld ?_
    case hy2 => (intro _ _ _ w hSw; have hcs := KS _ hSw; go_simp; try with_reducible rfl)
    simp only [Act.put, List.setIfInBounds_toArray, List.set_cons_zero, List.set_cons_succ]
    refine h_take 2 (some 13) (Op.fieldAddr 116 (Operand.tmp 12) 2) 0 ?v3 rfl rfl (by kernel_rfl) (by kernel_rfl) (by kernel_rfl) (fun _ _ _ h => h) ?hy3 hHeld ?_
    case hy3 => (intro _ _ _ w hSw; have hcs := KS _ hSw; go_simp; try with_reducible rfl)
    simp only [Act.put, List.setIfInBounds_toArray, List.set_cons_zero, List.set_cons_succ]
    refine h_take 3 (some 14) (Op.load 98 (Operand.tmp 13)) 98 ?v4 rfl rfl (by kernel_rfl) (by kernel_rfl) (by kernel_rfl) (fun _ _ _ h => h) ?hy4 hHeld ?_
    case hy4 => (intro _ _ _ w hSw; have hcs := KS _ hSw; go_simp; try with_reducible rfl)
    simp only [Act.put, List.setIfInBounds_toArray, List.set_cons_zero, List.set_cons_succ]
    refine h_take 4 (some 15) (Op.move (Operand.tmp 6)) 3 ?v5 rfl rfl (by kernel_rfl) (by kernel_rfl) (by kernel_rfl) (fun _ _ _ h => h) ?hy5 hHeld ?_
    case hy5 => (intro _ _ _ w hSw; have hcs := KS _ hSw; go_simp; try with_reducible rfl)
    simp only [Act.put, List.setIfInBounds_toArray, List.set_cons_zero, List.set_cons_succ]
    refine h_take 5 (some 16) (Op.load 64 (Operand.tmp 5)) 64 (vv v) rfl rfl (by kernel_rfl) (by kernel_rfl) (by kernel_rfl) (fun _ _ _ h => h) (fun _ _ _ w hSw => exec_load rfl (load_wide wide_V (KV w hSw) rfl)) hHeld ?_
    simp only [Act.put, List.setIfInBounds_toArray, List.set_cons_zero, List.set_cons_succ]
    obtain ⟨w2, hr, hm, hk2, hsz⟩ := MapIn.store (w := w1.drew) (h1.w.still (Kept.refl _ _).drew) keyok_iv mapRV (plc (x, y)) v
    refine h_step 6 (none) (Op.mapUpdate 98 (Operand.tmp 14) (Operand.tmp 15) (Operand.tmp 16)) 0 rfl rfl (by kernel_rfl) (fun _ _ _ K hK => ?_)
    refine wp_skip (exec_update rfl rfl rfl hr) ?_
    refine hK.out _ _ ((Kept.refl _ w1).drew.trans hk2 (fun _ _ e => e)) (fun hHeld => ?_)
    clear hK K
    try simp only [Act.put, List.setIfInBounds_toArray, List.set_cons_zero, List.set_cons_succ]
    refine wpAnyH_done (by kernel_rfl) ?_ _
    have hk : Kept (fun n => n = W) w1 w2 := (Kept.refl _ w1).drew.trans hk2 (fun _ _ e => e)
    have HW : Hid (Kept (fun n => n = W) w w2) := (hkA.mono (fun _ _ e => e.elim)).trans hk (fun _ _ e => e)
    have HS : Hid (RViewIn q R W p (vputT g (x, y) v) w2) := ⟨hk.at h1.cell hne, by rw [rd_put hp0]; exact h1.r.kept hk h.ne, by rw [own_put hp0, ← byP_upd hp0]; exact hm, by unfold vputT; rw [if_pos hp0]; exact upd_good h.good hp0 _, h.ne⟩
    clear hHeld KS KV hr hm hk2 hsz hk h1 h hz hkA
    go_wp2
    go_end0
    exact ⟨rfl, HS.out, HW.out⟩

set_option maxHeartbeats 1000000 in
theorem rvget_w (q R W p B : Nat) (f : StF) (g : VwF) (x y : Int) (w : World) (h : RViewIn q R W p g w) (hs : RStoreIn p B f w) (hRB : R ≠ B) : Calls Try.prog 47 #[.pointer (some ⟨q, 0, none⟩), .agg #[.int .i64 x, .int .i64 y]] w
    fun e w' => e = .returned (vv (vgetF f g (x, y))) ∧ RViewIn q R W p (vgetT g (x, y)) w' ∧ Kept (fun n => n = R) w w' := by
  obtain ⟨E, hE⟩ : ∃ E : Nat, w.heap.size = E := ⟨_, rfl⟩
  go_enter Try.func47, Try.ntmps47
  obtain ⟨wA, hA⟩ : ∃ wA, (w.alloc (.cells #[.int .i64 x, .int .i64 y] 61)).alloc (.cells (vc zeroV).toArray 64) = wA := ⟨_, rfl⟩
  have T := refplace_w x y wA
  have hkA : Kept (fun _ => False) w wA := by subst hA; exact ((Kept.refl _ _).alloc _).alloc _
  have hk : wA.heap[E]? = some (.cells #[.int .i64 x, .int .i64 y] 61 (0, 0)) := by subst hA; exact alloc_off (alloc_at' _ hE)
  have hz : wA.heap[E + 1]? = some (.cells (vc zeroV).toArray 64 (0, 0)) := by subst hA; exact alloc_at' _ (by simp [hE])
  have c0 := cell_at hk (i := 0) rfl
  have c1 := cell_at hk (i := 1) rfl
  rw [zero_cells] at hA
  go_wp2_with fail
  clear hA c0 c1
  refine T.mono ?_
  rintro e w1 ⟨rfl, hk1⟩
  clear T
  replace hz := hk1.at hz (fun x => x)
  replace hkA := hkA.thru hk1
  clear hk1 hk
  have hq : q < E := by have := lt_at h.cell; omega
  have lR : R < E := by have := h.r.lt; omega
  have lW : W < E := by have := h.w.lt; omega
  have hp : p < E := by have := lt_at hs.cell; omega
  have hB : B < E := by have := hs.map.lt; omega
  by_cases hpl : plc (x, y) < 0
  · have hV : Hid (vgetF f g (x, y) = zeroV) := by show _ = _; unfold vgetF; rw [if_neg (by omega)]
    have hS : RViewIn q R W p (vgetT g (x, y)) w1 := by unfold vgetT; rw [if_neg (by omega)]; exact h.still hkA
    clear h
    go_wp2_with (first | (refine list_wstore rfl wide_V _ _ rfl (E + 1) rfl (vc zeroV) rfl hz rfl rfl (vc_one _) ?_))
    have hz6 := setRow_at hz (vc zeroV).toArray
    have hk6 := kept_setRow w1 (E + 1) (vc zeroV).toArray
    refine bodyPost_ret (results_cell_row Try.results47 _ _ (E + 1) _ _ _ _ rfl hz6 Try.underlying64 rfl wide_V.size) rfl ⟨by rw [hV.out]; rfl, hS.kept hk6 (by omega) (by omega) (by omega), (hkA.mono (fun _ _ e => e.elim)).trans hk6 (fun k h1 h2 => by omega)⟩
  · have hp0 : 0 ≤ plc (x, y) := by omega
    have h1 := h.still hkA
    have e1 := cell_at h1.cell (i := 1) rfl
    obtain ⟨w2, hr, hm, hk2, hsz⟩ := MapIn.store (w := w1) h1.r keyok_iv mapRS (plc (x, y)) true
    have hr' : (Instr.mapUpdate 114 (.map (some R)) (.int .i64 (plc (x, y))) (.bool true)).run Try.prog w1 = .ok () w2 := hr
    have hqR : q ≠ R := h.r.off h.cell
    have h2c := hk2.at h1.cell hqR
    have h2w := h1.w.kept hk2 (fun e => h.ne e.symm)
    have hz2 := hk2.at hz (show ¬ E + 1 = R by omega)
    have e0 := cell_at h2c (i := 0) rfl
    have e2 := cell_at h2c (i := 2) rfl
    have hlk := rlook_ok (own_good h.good) h2w (x, y)
    obtain ⟨so, hso⟩ : ∃ so, (ownOf g (x, y)).isSome = so := ⟨_, rfl⟩
    rw [hso] at hlk
    have HSO : Hid ((ownOf g (x, y)).isSome = so) := hso
    have hs2 : RStoreIn p B f w2 := hs.kept ((hkA.mono (X := fun _ => False) (Y := fun n => n = R) (fun _ _ e => e.elim)).trans hk2 (fun _ _ e => e)) (fun e => h.r.off hs.cell e) (fun e => hRB e.symm)
    have k2 : Kept (fun n => n = R) w w2 := (hkA.mono (fun _ _ e => e.elim)).trans hk2 (fun _ _ e => e)
    have hS : RViewIn q R W p (vgetT g (x, y)) w2 := ⟨h2c, by rw [rd_get hp0, ← byP_upd hp0]; exact hm, by rw [own_get hp0]; exact h2w, by unfold vgetT; rw [if_pos hp0]; exact upd_good h.good hp0 _, h.ne⟩
    obtain ⟨X, hX⟩ : ∃ X : Nat, w2.heap.size = X := ⟨_, rfl⟩
    have lX : E + 1 < X := by have := lt_at hz2; omega
    have hV : Hid (vgetF f g (x, y) = seenF f (ownOf g) (x, y)) := seen_get hp0
    clear hso hr hm hsz h2w h1 h hs hz hk2 hkA
    go_upto_region 6 with (first | (refine list_wnew rfl wide_V _ _ rfl X rfl (vc (lookF (ownOf g) (x, y))) rfl _ rfl hX rfl (vc_one _) ?_))
    obtain ⟨w3, h3⟩ : ∃ w3, w2.alloc (.cells (vc (lookF (ownOf g) (x, y))).toArray 64) = w3 := ⟨_, rfl⟩
    have k3 : Kept (fun _ => False) w2 w3 := by subst h3; exact (Kept.refl _ _).alloc _
    have hX3 : w3.heap[X]? = some (.cells (vc (lookF (ownOf g) (x, y))).toArray 64 (0, 0)) := by subst h3; exact alloc_at' _ hX
    try rw [h3]
    clear h3 e1 e0 e2 hr' hlk h2c
    have hz3 := k3.at hz2 (fun x => x)
    have hS3 := hS.still k3
    have hs3 := hs2.still k3
    have K3 : Kept (fun n => n = R) w w3 := k2.trans k3 (fun _ _ e => e.elim)
    have e0 := cell_at hS3.cell (i := 0) rfl
    have p0 := cell_at hs3.cell (i := 0) rfl
    clear hz2 hS hs2 k2 k3
    cases so with
    | true =>
      have hE1 : Hid (lookF (ownOf g) (x, y) = seenF f (ownOf g) (x, y)) := by
        show _ = _
        unfold lookF seenF
        have := HSO.out
        cases hg : ownOf g (x, y) with
        | none => rw [hg] at this; cases this
        | some z => rfl
      have hr := whole_range hX3
      go_wp2_with (first | (refine list_wload rfl wide_V _ rfl X 0 rfl (vc (lookF (ownOf g) (x, y))) hr rfl ?_) | (refine list_wstore rfl wide_V _ _ rfl (E + 1) rfl (vc (lookF (ownOf g) (x, y))) rfl hz3 rfl rfl (vc_one _) ?_))
      have hz6 := setRow_at hz3 (vc (lookF (ownOf g) (x, y))).toArray
      have hk6 := kept_setRow w3 (E + 1) (vc (lookF (ownOf g) (x, y))).toArray
      refine bodyPost_ret (results_cell_row Try.results47 _ _ (E + 1) _ _ _ _ rfl hz6 Try.underlying64 rfl wide_V.size) rfl ⟨by rw [hV.out, ← hE1.out]; rfl, hS3.kept hk6 (by omega) (by omega) (by omega), K3.trans hk6 (fun k h1 h2 => by omega)⟩
    | false =>
      have hE1 : Hid (lookF f (x, y) = seenF f (ownOf g) (x, y)) := by
        show _ = _
        unfold seenF
        have := HSO.out
        cases hg : ownOf g (x, y) with
        | none => rfl
        | some z => rw [hg] at this; cases this
      have hl := rlook_v hs3.good hs3.map (x, y)
      go_wp2_with (first | (refine list_wstore rfl wide_V _ _ rfl (E + 1) rfl (vc (lookF f (x, y))) rfl hz3 rfl rfl (vc_one _) ?_))
      have hz6 := setRow_at hz3 (vc (lookF f (x, y))).toArray
      have hk6 := kept_setRow w3 (E + 1) (vc (lookF f (x, y))).toArray
      refine bodyPost_ret (results_cell_row Try.results47 _ _ (E + 1) _ _ _ _ rfl hz6 Try.underlying64 rfl wide_V.size) rfl ⟨by rw [hV.out, ← hE1.out]; rfl, hS3.kept hk6 (by omega) (by omega) (by omega), K3.trans hk6 (fun k h1 h2 => by omega)⟩

/-! Lists. -/
def isB (F : Int → Option Bool) (p : Nat) : Bool := (F (p : Int)).getD false

theorem rlook_b {B : Nat} {F : Int → Option Bool} {w : World} (h : MapIn iv bv B F w) (p : Nat) : (Instr.lookup 114 (.map (some B)) (.int .i64 (p : Int)) false).run Try.prog w = .ok (.bool (isB F p)) w := by
  have := h.look keyok_iv mapRS zero_bool (p : Int) false
  rw [show (Value.int .i64 (p : Int)) = iv (p : Int) from rfl, this]
  unfold isB
  cases F (p : Int) <;> rfl

set_option maxHeartbeats 1000000 in
theorem rlist_w (B : Nat) (F : Int → Option Bool) (w : World) (h : MapIn iv bv B F w) : Calls Try.prog 75 #[.map (some B)] w fun e w' => ∃ v, e = .returned v ∧ OwnK w v (upto (isB F) 55) w' := by
  have HH : Hid (MapIn iv bv B F w) := h
  have HO : Hid (OwnK w (.slice none 0 0) (upto (isB F) 0) w) := OwnK.nil w
  clear h
  go_enter Try.func75, Try.ntmps75
  go_wp2_with fail
  go_loopw [3, 4] (fun v s wr => ∃ i : Nat, s = .int .i64 i ∧ i ≤ 55 ∧ Hid (OwnK w v (upto (isB F) i) wr)) (fun _ s _ => 55 - (intOf s).toNat)
  case atStart => exact ⟨0, rfl, Nat.zero_le _, HO.out⟩
  case round =>
    obtain ⟨i, rfl, hi, HR⟩ := hrel
    clear HO
    go_wp2_with fail
    refine (refall_w _).mono ?_
    rintro e w1 ⟨rfl, hk1⟩
    have H1 : Hid (OwnK w u3 (upto (isB F) i) w1) := HR.out.still hk1
    clear HR hk1
    by_cases hlt : i < 55
    · have t1 : (i : Int) < 55 := by omega
      have hup := upto_len (isB F) i
      have hl := rlook_b (HH.out.still H1.out.kept) i
      obtain ⟨b, hb⟩ : ∃ b, isB F i = b := ⟨_, rfl⟩
      rw [hb] at hl
      cases b with
      | false =>
        have HU : Hid (upto (isB F) (i + 1) = upto (isB F) i) := upto_no hb
        clear hb
        go_wp2
        go_roundw
        case rel => exact ⟨i + 1, by go_num, by omega, by rw [HU.out]; exact H1.out⟩
        case measure => simp [intOf]; omega
      | true =>
        have HU : Hid (upto (isB F) (i + 1) = upto (isB F) i ++ [keyAt i]) := upto_yes hb
        clear hb
        go_wp2_with fail
        refine (refat_w (i : Int) _).mono ?_
        rintro e w2 ⟨rfl, hk⟩
        obtain ⟨⟨kx, ky⟩, hkk⟩ : ∃ k, keyAt (i : Int) = k := ⟨_, rfl⟩
        rw [hkk] at HU ⊢
        simp only
        obtain ⟨E, hE⟩ : ∃ E : Nat, w2.heap.size = E := ⟨_, rfl⟩
        have hk3 := (hk.alloc (.cells #[.int .i64 kx, .int .i64 ky] 61)).alloc (.cells #[.int .i64 kx, .int .i64 ky] 61)
        have HS : Hid _ := H1.out.still hk3
        have HN : Hid (SrcK (.slice (some ⟨E + 1, 0, none⟩) 1 1) [(kx, ky)] ((w2.alloc (.cells #[.int .i64 kx, .int .i64 ky] 61)).alloc (.cells #[.int .i64 kx, .int .i64 ky] 61))) := SrcK.lone (alloc_at' _ (by simp [hE]))
        clear H1 hk hk3 hl
        go_wp2_with (at_builtin; refine list_app rfl _ _ rfl w _ [(kx, ky)] HS.out HN.out (by simp; omega) ?_; intro v w4 h4 hg4)
        have H5 : Hid (OwnK w v (upto (isB F) (i + 1)) w4) := by rw [HU.out]; exact h4
        clear h4 hg4 HS HN HU
        go_wp2
        go_roundw
        case rel => exact ⟨i + 1, by go_num, by omega, H5.out⟩
        case measure => simp [intOf]; omega
    · obtain rfl : i = 55 := by omega
      go_wp2
      go_ret
      exact ⟨_, rfl, H1.out⟩
end Go.Proofs.Ytkpcillgoeidaaa
