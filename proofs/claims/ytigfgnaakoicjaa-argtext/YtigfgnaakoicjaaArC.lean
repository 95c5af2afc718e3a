
/- One view over a store in which one process has bytes: the calls' contracts, what they answer; ArgRuns; no conditions but lengths. -/
import Derived.Test.YtigfgnaakoicjaaArB
namespace Go.Proofs.Ytigfgnaakoicjaa
open Go.RowKit
set_option maxRecDepth 100000
set_option linter.unusedSimpArgs false

section
variable {f : StF} {w0 : World} {T p B q N : Nat} {g : VwF} {w : World}
theorem Small.amT (h : Small f g) (i : Int) : Small f (amT g i) := h.get _
theorem Small.arPT (h : Small f g) (i a : Int) (d : ByteArray) : Small f (arPT f g i a d) := by
  unfold Ytigfgnaakoicjaa.arPT
  by_cases hh : arH (amV f g i).s.size a d.size = true
  · rw [if_pos hh]
    obtain ⟨h1, -, h3⟩ := arH_yes hh
    refine (h.get _).put _ ?_
    show (arOv _ _ _).size ≤ 200
    rw [arOv_size (by omega)]
    exact h.val _
  · rw [if_neg hh]; exact h.get _
theorem sg_abytes (h : SideG f w0 T p B q N g w) (i a n : Int) (ha : a ≤ 9223372036854775807) : Calls Try.prog 8 #[.pointer (some ⟨q, 0, none⟩), .int .i64 i, .int .i64 a, .int .i64 n] w
    fun e w' => e = .returned (arR (arBy (amV f g i).s a n)) ∧ SideG f w0 T p B q N (amT g i) w' ∧ Kept (fun n => n = N) w w' := by
  refine (abytes_w q N p B f g i a n w h.v h.s h.ne (by have : (amV f g i).s.size ≤ 200 := h.sm.val _; omega) ha).mono ?_
  rintro e w1 ⟨rfl, hv, hk⟩
  exact ⟨rfl, h.put hv (h.sm.amT i) hk, hk⟩
theorem sg_atext (h : SideG f w0 T p B q N g w) (i a n : Int) (ha : a ≤ 9223372036854775807) : Calls Try.prog 7 #[.pointer (some ⟨q, 0, none⟩), .int .i64 i, .int .i64 a, .int .i64 n] w
    fun e w' => e = .returned (arR (arTx (amV f g i).s a n)) ∧ SideG f w0 T p B q N (amT g i) w' ∧ Kept (fun n => n = N) w w' := by
  refine (atext_w q N p B f g i a n w h.v h.s h.ne (by have : (amV f g i).s.size ≤ 200 := h.sm.val _; omega) ha).mono ?_
  rintro e w1 ⟨rfl, hv, hk⟩
  exact ⟨rfl, h.put hv (h.sm.amT i) hk, hk⟩
theorem sg_aput (h : SideG f w0 T p B q N g w) (i a : Int) (d : ByteArray) (ha : a ≤ 9223372036854775807) : Calls Try.prog 6 #[.pointer (some ⟨q, 0, none⟩), .int .i64 i, .int .i64 a, .string d] w
    fun e w' => e = .returned (.bool (arH (amV f g i).s.size a d.size)) ∧ SideG f w0 T p B q N (arPT f g i a d) w' ∧ Kept (fun n => n = N) w w' := by
  refine (aput_w q N p B f g i a d w h.v h.s h.ne (by have : (amV f g i).s.size ≤ 200 := h.sm.val _; omega) ha).mono ?_
  rintro e w1 ⟨rfl, hv, hk⟩
  exact ⟨rfl, h.put hv (h.sm.arPT i a d) hk, hk⟩
end

/-- A store in which process i has these bytes. -/
def memV (s : ByteArray) : V := { zeroV with s := s }
def fM (i : Int) (s : ByteArray) : StF := initF (fun _ => ((12, i), memV s)) 1
theorem cut_mem {s : ByteArray} (h : s.size ≤ 200) : cutV (memV s) = memV s := by
  show ({ memV s with s := s.extract 0 (min s.size 200) } : V) = memV s
  rw [Nat.min_eq_left h, ByteArray.extract_zero_size]
  rfl
theorem fM_get {i : Int} {s : ByteArray} (h : 0 ≤ i) (h' : i < 8) (hs : s.size ≤ 200) : amV (fM i s) g0 i = memV s := by
  have hp : 0 ≤ plc (12, i) := by
    obtain rfl | rfl | rfl | rfl | rfl | rfl | rfl | rfl : i = 0 ∨ i = 1 ∨ i = 2 ∨ i = 3 ∨ i = 4 ∨ i = 5 ∨ i = 6 ∨ i = 7 := by omega
    all_goals decide
  unfold amV vgetF
  rw [if_pos hp, if_neg (by simp [noteF, g0])]
  show lookF (putF (fun _ => none) (12, i) (cutV (memV s))) (12, i) = _
  rw [cut_mem hs, look_put, if_pos ⟨hp, rfl⟩]

set_option maxHeartbeats 1000000 in
theorem lawmem_w (i : Int) (s : ByteArray) (w : World) : Calls Try.prog 5 #[.int .i64 i, .string s] w fun e w' => ∃ T p B q N, e = .returned (.pointer (some ⟨T, 0, none⟩)) ∧ SideG (fM i s) w T p B q N g0 w' := by
  obtain ⟨D, hD⟩ : ∃ D : Nat, w.heap.size = D := ⟨_, rfl⟩
  go_enter Try.func5, Try.ntmps5
  go_upto_region 2 with fail
  obtain ⟨w1, h1⟩ : ∃ w1, w.alloc (.cells (vc (memV s)).toArray 41) = w1 := ⟨_, rfl⟩
  have b1 : w1.heap[D]? = some (.cells (vc (memV s)).toArray 41 (0, 0)) := by subst h1; exact alloc_at' _ hD
  have k1 : Kept (fun _ => False) w w1 := by subst h1; exact (Kept.refl _ _).alloc _
  have h2 : w.alloc (.cells #[.int .i64 0, .int .i64 0, .int .i64 0, .int .i64 0, .int .i64 0, .int .i64 0, .int .i64 0, .int .i64 0, .int .i64 0, .int .i64 0, .int .i64 0, .int .i64 0, .int .i64 0, .int .i64 0, .int .i64 0, .int .i64 0, .string s] 41) = w1 := h1
  try rw [h2]
  clear h1 h2 hD
  obtain ⟨x, hx⟩ : ∃ x, memV s = x := ⟨_, rfl⟩
  rw [hx] at b1
  have HX : Hid (initF (fun _ => (((12, i) : K2), x)) (min 1 60) = fM i s) := by subst hx; exact rfl
  clear hx
  obtain ⟨E, hE⟩ : ∃ E : Nat, w1.heap.size = E := ⟨_, rfl⟩
  obtain ⟨w2, h2⟩ : ∃ w2, w1.alloc (.cells (wc ((12, i), x)).toArray 46) = w2 := ⟨_, rfl⟩
  have b2 : w2.heap[E]? = some (.cells (wc ((12, i), x)).toArray 46 (0, 0)) := by subst h2; exact alloc_at' _ hE
  have k2 : Kept (fun _ => False) w w2 := by subst h2; exact k1.alloc _
  have hbw : (Instr.build 46 #[(0, .agg #[.int .i64 12, .int .i64 i]), (1, .agg (vc x).toArray)]).run Try.prog w1 = .ok (.agg (wc ((12, i), x)).toArray) w1 := build_write (12, i) x w1
  have hsw1 : (Instr.buildSlice 47 1 #[(0, .agg (wc ((12, i), x)).toArray)]).run Try.prog w1 = .ok (.slice (some ⟨E, 0, none⟩) 1 1) w2 := by
    have := slice_write ((12, i), x) w1
    rw [hE, h2] at this
    exact this
  have hr := whole_range b1
  have hbk : (Instr.build 44 #[(0, .int .i64 12), (1, .int .i64 i)]).run Try.prog w1 = .ok (.agg #[.int .i64 12, .int .i64 i]) w1 := by kernel_rfl
  refine wp_region_lit ?_
  refine list_one rfl rfl (by rfl) ?_
  refine list_one rfl rfl (exec_build hbk (by kernel_rfl)) ?_
  refine list_wload rfl wide_V _ rfl D 0 rfl (vc x) hr rfl ?_
  refine list_one rfl rfl (exec_build hbw (by kernel_rfl)) ?_
  refine list_one rfl rfl (exec_slice hsw1 (by kernel_rfl)) ?_
  go_wp2_with fail
  clear hbw hsw1 hr h2 b1 k1 hE
  have hc : ∀ i2, i2 < 1 → w2.rangeAt E (0 + i2 * 19) (wc ((fun _ : Nat => (((12, i) : K2), x)) i2)) := fun i2 hi => by
    obtain rfl : i2 = 0 := by omega
    rw [Nat.zero_mul, Nat.zero_add]
    exact whole_range b2
  have KN := keepnew_w (some ⟨E, 0, none⟩) 1 1 E 0 (fun _ => ((12, i), x)) (fun _ => rfl) w2 hc
  rw [HX.out] at KN
  refine KN.mono ?_
  rintro e w3 ⟨T, p, B, q, N, rp, rB, rq, R, W, rfl, h3, hT⟩
  have hm : Small (fM i s) g0 := small_init _ _
  have hs : Hid (SideG (fM i s) w T p B q N g0 w3) := (h3.sideG hm).older k2
  clear h3 hT b2 k2
  go_wp2_with fail
  go_ret
  exact ⟨T, p, B, q, N, rfl, hs.out⟩

def zs16 : ByteArray := bs (List.replicate 16 0)
def ab2 : ByteArray := ⟨#[97, 98]⟩
def rg1 : VwF := arPT (fM 0 zs16) g0 0 3 ab2
def rg5 : VwF := amT (amT (amT (amT rg1 0) 0) 0) 0
theorem run_a : arH (amV (fM 0 zs16) g0 0).s.size 3 ab2.size = true := by decide +kernel
theorem run_b : arR (arTx (amV (fM 0 zs16) rg1 0).s 3 5) = .tuple #[.string ⟨#[97, 98]⟩, .bool true] := by
  have h : arTx (amV (fM 0 zs16) rg1 0).s 3 5 = (ab2, true) := by decide +kernel
  unfold arR; rw [h]; rfl
theorem run_c : arR (arTx (amV (fM 0 zs16) (amT rg1 0) 0).s 3 1) = .tuple #[.string ⟨#[]⟩, .bool false] := by
  have h : arTx (amV (fM 0 zs16) (amT rg1 0) 0).s 3 1 = (⟨#[]⟩, false) := by decide +kernel
  unfold arR; rw [h]
theorem run_d : arR (arBy (amV (fM 0 zs16) (amT (amT rg1 0) 0) 0).s 14 2) = .tuple #[.string ⟨#[0, 0]⟩, .bool true] := by
  have h : arBy (amV (fM 0 zs16) (amT (amT rg1 0) 0) 0).s 14 2 = (⟨#[0, 0]⟩, true) := by decide +kernel
  unfold arR; rw [h]
theorem run_e : arR (arBy (amV (fM 0 zs16) (amT (amT (amT rg1 0) 0) 0) 0).s 15 2) = .tuple #[.string ⟨#[]⟩, .bool false] := by
  have h : arBy (amV (fM 0 zs16) (amT (amT (amT rg1 0) 0) 0) 0).s 15 2 = (⟨#[]⟩, false) := by decide +kernel
  unfold arR; rw [h]
theorem run_f : arH (amV (fM 0 zs16) rg5 0).s.size 15 ab2.size = false := by decide +kernel

set_option maxHeartbeats 1000000 in
theorem runs_w (w : World) : Calls Try.prog 3 #[] w fun e w' => e = .returned (.bool true) ∧ Kept (fun _ => False) w w' := by
  obtain ⟨w1, hmk, hr, hk⟩ := make_bytes 16 (by omega) w
  have hcv := row_text hr 16
  rw [show bs (List.replicate 16 0) = zs16 from rfl, List.length_replicate] at hcv
  clear hr
  have hmk2 : (Instr.makeSlice 24 (.int .i64 16) (.int .i64 16)).run Try.prog w = .ok (.slice (some ⟨w.heap.size, 0, none⟩) 16 16) w1 := hmk
  clear hmk
  go_enter Try.func3, Try.ntmps3
  go_wp2_with fail
  clear hmk2 hcv
  refine (lawmem_w 0 zs16 _).mono ?_
  rintro e w2 ⟨T, p, B, q, N, rfl, h2⟩
  have H2 : Hid (SideG (fM 0 zs16) w T p B q N g0 w2) := h2.older hk
  have c1 := h2.t
  clear h2 hk
  go_wp2_with fail
  refine (sg_aput H2.out 0 3 ab2 (by omega)).mono ?_
  rintro e w3 ⟨rfl, h3, -⟩
  rw [run_a]
  have H3 : Hid (SideG (fM 0 zs16) w T p B q N rg1 w3) := h3
  clear h3 H2 c1
  go_wp2_with fail
  refine (sg_atext H3.out 0 3 5 (by omega)).mono ?_
  rintro e w4 ⟨rfl, h4, -⟩
  rw [run_b]
  have H4 : Hid (SideG (fM 0 zs16) w T p B q N (amT rg1 0) w4) := h4
  clear h4 H3
  go_wp2_with fail
  refine (sg_atext H4.out 0 3 1 (by omega)).mono ?_
  rintro e w5 ⟨rfl, h5, -⟩
  rw [run_c]
  have H5 : Hid (SideG (fM 0 zs16) w T p B q N (amT (amT rg1 0) 0) w5) := h5
  clear h5 H4
  go_wp2_with fail
  refine (sg_abytes H5.out 0 14 2 (by omega)).mono ?_
  rintro e w6 ⟨rfl, h6, -⟩
  rw [run_d]
  have H6 : Hid (SideG (fM 0 zs16) w T p B q N (amT (amT (amT rg1 0) 0) 0) w6) := h6
  clear h6 H5
  go_wp2_with fail
  refine (sg_abytes H6.out 0 15 2 (by omega)).mono ?_
  rintro e w7 ⟨rfl, h7, -⟩
  rw [run_e]
  have H7 : Hid (SideG (fM 0 zs16) w T p B q N rg5 w7) := h7
  clear h7 H6
  go_wp2_with fail
  refine (sg_aput H7.out 0 15 ab2 (by omega)).mono ?_
  rintro e w8 ⟨rfl, h8, -⟩
  rw [run_f]
  have H8 : Hid (Kept (fun _ => False) w w8) := h8.kept
  clear h8 H7
  go_wp2_with fail
  go_ret
  exact ⟨rfl, H8.out⟩
end Go.Proofs.Ytigfgnaakoicjaa
