
/- One view as a statement holds it, over a store that has something; New, Get, Put; no conditions but lengths. -/
import Derived.Test.YtbhpkjedkccdpaaDoorSpO
import Derived.Test.YtbhpkjedkccdpaaDoorTb
import Derived.Test.YtbhpkjedkccdpaaDoorOwT
import Derived.Test.YtbhpkjedkccdpaaDoorPrK
namespace Go.Proofs.YtbhpkjedkccdpaaDoor
open Go.RowKit
set_option maxRecDepth 100000
set_option linter.unusedSimpArgs false

/-- As SideIn, whatever the store has; b bounds the objects' texts. -/
structure SideG (f : StF) (w0 : World) (T p B q N : Nat) (g : VwF) (w : World) : Prop where
  v : ViewIn q N p g w
  s : StoreIn p B f w
  t : w.cell? ⟨T, 1, none⟩ = some (.pointer (some ⟨q, 0, none⟩))
  ne : N ≠ B
  tn : T ≠ N
  kept : Kept (fun _ => False) w0 w
  nN : w0.heap.size ≤ N
  sm : Small f g
  tb : TabIn w0

section
variable {f : StF} {w0 : World} {T p B q N F : Nat} {g g' : VwF} {w w' : World}
theorem SideG.still (h : SideG f w0 T p B q N g w) (hk : Kept (fun _ => False) w w') : SideG f w0 T p B q N g w' := { h with v := h.v.still hk, s := h.s.still hk, t := hk.cell h.t (fun x => x), kept := h.kept.thru hk }
theorem SideG.put (h : SideG f w0 T p B q N g w) (hv : ViewIn q N p g' w') (hm : Small f g') (hk : Kept (fun n => n = N) w w') : SideG f w0 T p B q N g' w' :=
  { h with v := hv, s := h.s.kept hk (fun e => h.v.map.off h.s.cell e) (fun e => h.ne e.symm), t := hk.cell h.t h.tn, kept := h.kept.trans hk (fun k h1 h2 => by have := h.nN; omega), sm := hm }
theorem SideG.young {X : Nat → Prop} (h : SideG f w0 T p B q N g w) (hk : Kept X w w') (hX : ∀ k, X k → F ≤ k) (hl : T < F ∧ p < F ∧ B < F ∧ q < F ∧ N < F ∧ w0.heap.size ≤ F) : SideG f w0 T p B q N g w' :=
  { h with
    v := h.v.kept hk (fun e => by have := hX _ e; omega) (fun e => by have := hX _ e; omega)
    s := h.s.kept hk (fun e => by have := hX _ e; omega) (fun e => by have := hX _ e; omega)
    t := hk.cell h.t (fun e => by have := hX _ e; simp only at this; omega)
    kept := h.kept.trans hk (fun k h1 h2 => by have := hX _ h2; omega) }
theorem SideG.lows (h : SideG f w0 T p B q N g w) : T < w.heap.size ∧ p < w.heap.size ∧ B < w.heap.size ∧ q < w.heap.size ∧ N < w.heap.size ∧ w0.heap.size ≤ w.heap.size :=
  ⟨cell_lt h.t, lt_at h.s.cell, h.s.map.lt, lt_at h.v.cell, h.v.map.lt, h.kept.size⟩
/-- Seen from an older world. -/
theorem SideG.older {w1 : World} (h : SideG f w0 T p B q N g w) (hk : Kept (fun _ => False) w1 w0) (ht : TabIn w1) : SideG f w1 T p B q N g w := { h with kept := hk.thru h.kept, nN := by have := hk.size; have := h.nN; omega, tb := ht }
/-- The table lies there still. -/
theorem SideG.tab (h : SideG f w0 T p B q N g w) : TabIn w := h.tb.still h.kept
theorem KeepIn.sideG {rp rB rq R W : Nat} {f2 : StF} {g2 : VwF} (h : KeepIn w0 T p B q N rp rB rq R W f f2 g g2 w) (hm : Small f g) (ht : TabIn w0) : SideG f w0 T p B q N g w :=
  ⟨h.game.v, h.game.s, h.cells.2.1, h.nB, h.game.v.map.off h.cell, h.game.kept, h.game.nN, hm, ht⟩
theorem sg_nw (h : SideG f w0 T p B q N g w) (par : Int) : Calls Tryd.prog 26 #[.pointer (some ⟨q, 0, none⟩), .int .i64 par] w
    fun e w' => e = .returned (nwR (nwA f g)) ∧ SideG f w0 T p B q N (nwT f g par) w' ∧ Kept (fun n => n = N) w w' := by
  refine (nw_w q N p B f g par w h.v h.s h.ne).mono ?_
  rintro e w1 ⟨rfl, hv, hk⟩
  exact ⟨rfl, h.put hv (h.sm.nwT par) hk, hk⟩
theorem sg_vget (h : SideG f w0 T p B q N g w) (x y : Int) : Calls Tryd.prog 23 #[.pointer (some ⟨q, 0, none⟩), .agg #[.int .i64 x, .int .i64 y]] w
    fun e w' => e = .returned (vv (vgetF f g (x, y))) ∧ SideG f w0 T p B q N (vgetT g (x, y)) w' ∧ Kept (fun n => n = N) w w' := by
  refine (vget_w q N p B f g x y w h.v h.s h.ne).mono ?_
  rintro e w1 ⟨rfl, hv, hk⟩
  exact ⟨rfl, h.put hv (h.sm.get _) hk, hk⟩
theorem sg_vput (h : SideG f w0 T p B q N g w) (x y : Int) (v : V) (hs : v.s.size ≤ 200) : Calls Tryd.prog 25 #[.pointer (some ⟨q, 0, none⟩), .agg #[.int .i64 x, .int .i64 y], vv v] w
    fun e w' => e = .returned (.tuple #[]) ∧ SideG f w0 T p B q N (vputT g (x, y) v) w' ∧ Kept (fun n => n = N) w w' := by
  refine (vput_w q N p g x y v w h.v).mono ?_
  rintro e w1 ⟨rfl, hv, hk⟩
  exact ⟨rfl, h.put hv (h.sm.put _ hs) hk, hk⟩
end

/-- A store whose pool has the bits of a number. -/
def poolV (n : Int) : V := { zeroV with n0 := n }
def fP (n : Int) : StF := initF (fun _ => ((2, 0), poolV n)) 1
def gP (n : Int) : VwF := nwT (fP n) (nwT (fP n) g0 (-1)) 0
theorem cut_zero {x : V} (h : x.s = ByteArray.empty) : cutV x = x := by
  show ({ x with s := x.s.extract 0 (min x.s.size 200) } : V) = x
  rw [h]
  have : ByteArray.empty.extract 0 (min ByteArray.empty.size 200) = ByteArray.empty := by decide +kernel
  rw [this, ← h]
theorem fP_look (n : Int) (k : K2) : lookF (fP n) k = if k = (2, 0) then poolV n else zeroV := by
  have e : cutV (poolV n) = poolV n := cut_zero rfl
  show lookF (putF (fun _ => none) (2, 0) (cutV (poolV n))) k = _
  rw [e, look_put]
  by_cases c : k = (2, 0)
  · rw [if_pos ⟨by decide, c⟩, if_pos c]
  · rw [if_neg (fun x => c x.2), if_neg c]; rfl
theorem fP_get (n : Int) (k : K2) : vgetF (fP n) g0 k = if k = (2, 0) then poolV n else zeroV := by
  unfold vgetF
  by_cases hp : 0 ≤ plc k
  · rw [if_pos hp, if_neg (by simp [noteF, g0]), fP_look]
  · rw [if_neg hp]
    by_cases c : k = (2, 0)
    · subst c; exact absurd plc_p2 hp
    · rw [if_neg c]
theorem hasB_zero (i : Int) : hasB 0 i = false := by unfold hasB; simp
theorem pool_a (n : Int) : nwA (fP n) g0 = 0 := by
  refine free8_at (by omega) (by omega) (fun j h1 h2 => by omega) ?_
  show hasB (vgetF (fP n) g0 (3, 0)).n0 0 = false
  rw [fP_get, if_neg (by decide)]; exact hasB_zero 0
theorem pool_g1 (n : Int) (j : K2) : vgetF (fP n) (nwT (fP n) g0 (-1)) j = if j = (4, 0) then prN 0 1 else if j = (3, 0) then nwV zeroV 0 else if j = (2, 0) then poolV n else zeroV := by
  rw [nw_get (-1) (by rw [pool_a]; omega), pool_a, show ptV (fP n) g0 = zeroV from by show vgetF (fP n) g0 (3, 0) = _; rw [fP_get, if_neg (by decide)], fP_get]
  rw [show wrap64 ((-1 : Int) + 1) = 0 from by decide +kernel, show (nwV zeroV 0).n1 = 1 from by decide +kernel]
theorem pool_b (n : Int) : nwA (fP n) (nwT (fP n) g0 (-1)) = 1 := by
  have e : (ptV (fP n) (nwT (fP n) g0 (-1))).n0 = 1 := by
    show (vgetF (fP n) (nwT (fP n) g0 (-1)) (3, 0)).n0 = 1
    rw [pool_g1, if_neg (by decide), if_pos rfl]; decide +kernel
  unfold nwA
  rw [e]; decide +kernel
theorem pool_g2 (n : Int) (j : K2) : vgetF (fP n) (gP n) j = if j = (4, 1) then prN 1 2 else if j = (3, 0) then nwV (nwV zeroV 0) 1 else if j = (4, 0) then prN 0 1 else if j = (2, 0) then poolV n else zeroV := by
  unfold gP
  rw [nw_get 0 (by rw [pool_b]; omega), pool_b, show ptV (fP n) (nwT (fP n) g0 (-1)) = nwV zeroV 0 from by show vgetF (fP n) _ (3, 0) = _; rw [pool_g1, if_neg (by decide), if_pos rfl], pool_g1]
  rw [show wrap64 ((0 : Int) + 1) = 1 from by decide +kernel, show (nwV (nwV zeroV 0) 1).n1 = 2 from by decide +kernel]
  by_cases c1 : j = (4, 1)
  · rw [if_pos c1, if_pos c1]
  · rw [if_neg c1, if_neg c1]
    by_cases c2 : j = (3, 0)
    · rw [if_pos c2, if_pos c2]
    · rw [if_neg c2, if_neg c2, if_neg c2]
theorem pool_r (n : Int) (p : Nat) (hp : p < 2) : isR (fP n) (gP n) (p : Int) = true := by
  have h3 : (ptV (fP n) (gP n)).n0 = 3 := by show (vgetF (fP n) (gP n) (3, 0)).n0 = 3; rw [pool_g2, if_neg (by decide), if_pos rfl]; decide +kernel
  obtain rfl | rfl : p = 0 ∨ p = 1 := by omega
  · unfold isR stA isU
    rw [h3, show (prV (fP n) (gP n) ((0 : Nat) : Int)).n0 = 1 from by show (vgetF (fP n) (gP n) (4, 0)).n0 = 1; rw [pool_g2, if_neg (by decide), if_neg (by decide), if_pos rfl]; rfl]
    decide +kernel
  · unfold isR stA isU
    rw [h3, show (prV (fP n) (gP n) ((1 : Nat) : Int)).n0 = 1 from by show (vgetF (fP n) (gP n) (4, 1)).n0 = 1; rw [pool_g2, if_pos rfl]; rfl]
    decide +kernel
theorem pool_other (n : Int) {i : Int} (h : ¬ (0 ≤ i ∧ i < 2)) : isR (fP n) (gP n) i = false := by
  have h3 : (ptV (fP n) (gP n)).n0 = 3 := by show (vgetF (fP n) (gP n) (3, 0)).n0 = 3; rw [pool_g2, if_neg (by decide), if_pos rfl]; decide +kernel
  have hu : isU (fP n) (gP n) i = false := by
    by_cases hr : 0 ≤ i ∧ i < 8
    · rw [(isU_in hr).1, h3]
      obtain rfl | rfl | rfl | rfl | rfl | rfl : i = 2 ∨ i = 3 ∨ i = 4 ∨ i = 5 ∨ i = 6 ∨ i = 7 := by omega
      all_goals decide +kernel
    · exact (isU_out hr).1
  unfold isR stA
  rw [hu]; rfl
/-- At first nobody has a page. -/
theorem pool_v (n : Int) : SpV (fP n) n (fun _ => []) [] (gP n) := by
  have h0 : poV (fP n) (gP n) = poolV n := by show vgetF (fP n) (gP n) (2, 0) = _; rw [pool_g2, if_neg (by decide), if_neg (by decide), if_neg (by decide), if_pos rfl]
  refine ⟨?_, pool_r n, fun p hp => ?_, fun p hp => ?_, fun p _ => by show 0 ≤ 6; omega⟩
  · rw [h0]; exact OwnF.first n
  · obtain rfl | rfl : p = 0 ∨ p = 1 := by omega
    · show bl (vgetF (fP n) (gP n) (4, 0)).s = []
      rw [pool_g2, if_neg (by decide), if_neg (by decide), if_pos rfl]; rfl
    · show bl (vgetF (fP n) (gP n) (4, 1)).s = []
      rw [pool_g2, if_pos rfl]; rfl
  · show bl (vgetF (fP n) (gP n) (12, (p : Int))).s = []
    rw [pool_g2, if_neg (key_ne (by decide) _ _), if_neg (key_ne (by decide) _ _), if_neg (key_ne (by decide) _ _), if_neg (key_ne (by decide) _ _)]; rfl

/-- An operation that runs to its end, said by its run. -/
theorem list_one {ops : Array Oper} {rest : List Oper} {o : Oper} {a : Act} {w w' : World} {Q : Exit → Act → World → Prop} {v : Value} {r : Option Tmp} (hg : o.guard = none) (hr : o.dst = r)
    (he : (execOp a.eval o).run Tryd.prog w = .ok (.value v) w') (h : wpList Tryd.prog ops Q rest (a.put r v) w') : wpList Tryd.prog ops Q (o :: rest) a w := by
  subst hr
  refine wpList_plain hg fun K hK => ?_
  unfold Oper.wp
  rw [he]
  exact hK _ _ h

set_option maxHeartbeats 1000000 in
theorem pool_w (n : Int) (w : World) (ht : TabIn w) : Calls Tryd.prog 8 #[.int .i64 n] w fun e w' => ∃ T p B q N, e = .returned (.pointer (some ⟨T, 0, none⟩)) ∧ SideG (fP n) w T p B q N (gP n) w' := by
  obtain ⟨D, hD⟩ : ∃ D : Nat, w.heap.size = D := ⟨_, rfl⟩
  go_enter Tryd.func8, Tryd.ntmps8
  go_upto_region 3 with fail
  obtain ⟨w1, h1⟩ : ∃ w1, w.alloc (.cells (vc (poolV n)).toArray 51) = w1 := ⟨_, rfl⟩
  have b1 : w1.heap[D]? = some (.cells (vc (poolV n)).toArray 51 (0, 0)) := by subst h1; exact alloc_at' _ hD
  have k1 : Kept (fun _ => False) w w1 := by subst h1; exact (Kept.refl _ _).alloc _
  have h2 : w.alloc (.cells #[.int .i64 n, .int .i64 0, .int .i64 0, .int .i64 0, .int .i64 0, .int .i64 0, .int .i64 0, .int .i64 0, .int .i64 0, .int .i64 0, .int .i64 0, .int .i64 0, .int .i64 0, .int .i64 0, .int .i64 0, .int .i64 0, .string { data := #[] }] 51) = w1 := h1
  try rw [h2]
  clear h1 h2 hD
  obtain ⟨x, hx⟩ : ∃ x, poolV n = x := ⟨_, rfl⟩
  rw [hx] at b1
  have HX : Hid (initF (fun _ => (((2, 0) : K2), x)) (min 1 60) = fP n) := by subst hx; exact rfl
  clear hx
  obtain ⟨E, hE⟩ : ∃ E : Nat, w1.heap.size = E := ⟨_, rfl⟩
  obtain ⟨w2, h2⟩ : ∃ w2, w1.alloc (.cells (wc ((2, 0), x)).toArray 62) = w2 := ⟨_, rfl⟩
  have b2 : w2.heap[E]? = some (.cells (wc ((2, 0), x)).toArray 62 (0, 0)) := by subst h2; exact alloc_at' _ hE
  have k2 : Kept (fun _ => False) w w2 := by subst h2; exact k1.alloc _
  have hbw : (Instr.build 62 #[(0, .agg #[.int .i64 2, .int .i64 0]), (1, .agg (vc x).toArray)]).run Tryd.prog w1 = .ok (.agg (wc ((2, 0), x)).toArray) w1 := build_write (2, 0) x w1
  have hsw1 : (Instr.buildSlice 39 1 #[(0, .agg (wc ((2, 0), x)).toArray)]).run Tryd.prog w1 = .ok (.slice (some ⟨E, 0, none⟩) 1 1) w2 := by
    have := slice_write ((2, 0), x) w1
    rw [hE, h2] at this
    exact this
  have hr := whole_range b1
  have hbk : (Instr.build 54 #[(0, .int .i64 2)]).run Tryd.prog w1 = .ok (.agg #[.int .i64 2, .int .i64 0]) w1 := by kernel_rfl
  refine wp_region_lit ?_
  refine list_one rfl rfl (exec_build hbk (by kernel_rfl)) ?_
  refine list_wload rfl wide_V _ rfl D 0 rfl (vc x) hr rfl ?_
  refine list_one rfl rfl (exec_build hbw (by kernel_rfl)) ?_
  refine list_one rfl rfl (exec_slice hsw1 (by kernel_rfl)) ?_
  go_wp2_with fail
  clear hbw hsw1 hr h2 b1 k1 hE
  have hc : ∀ i, i < 1 → w2.rangeAt E (0 + i * 19) (wc ((fun _ : Nat => (((2, 0) : K2), x)) i)) := fun i hi => by
    obtain rfl : i = 0 := by omega
    rw [Nat.zero_mul, Nat.zero_add]
    exact whole_range b2
  have KN := keepnew_w (some ⟨E, 0, none⟩) 1 1 E 0 (fun _ => ((2, 0), x)) (fun _ => rfl) w2 hc
  rw [HX.out] at KN
  refine KN.mono ?_
  rintro e w3 ⟨T, p, B, q, N, rp, rB, rq, R, W, rfl, h3, hT⟩
  have hm : Small (fP n) g0 := small_init _ _
  have hs : SideG (fP n) w T p B q N g0 w3 := (h3.sideG hm (ht.still k2)).older k2 ht
  clear h3 hT b2 k2
  have c1 := hs.t
  go_wp2_with fail
  refine (sg_nw hs (-1)).mono ?_
  rintro e w4 ⟨rfl, h4, -⟩
  rw [pool_a, show nwR 0 = .tuple #[.int .i64 0, .bool true] from rfl]
  clear hs c1
  have c1 := h4.t
  go_wp2_with fail
  refine (sg_nw h4 0).mono ?_
  rintro e w5 ⟨rfl, h5, -⟩
  rw [pool_b, show nwR 1 = .tuple #[.int .i64 1, .bool true] from rfl]
  have H5 : Hid (SideG (fP n) w T p B q N (gP n) w5) := h5
  clear h4 c1 h5
  go_wp2_with fail
  go_ret
  exact ⟨T, p, B, q, N, rfl, H5.out⟩
end Go.Proofs.YtbhpkjedkccdpaaDoor
