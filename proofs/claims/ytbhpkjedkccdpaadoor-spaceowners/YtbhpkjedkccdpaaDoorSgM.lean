
/- What stands in memory stays; what comes again is noughts; whatever code does what space does. -/
import Derived.Test.YtbhpkjedkccdpaaDoorSgX
import Derived.Deep.CutBlock
namespace Go.Proofs.YtbhpkjedkccdpaaDoor
open Go.RowKit
set_option maxRecDepth 100000
set_option linter.unusedSimpArgs false

/-- Process 0 has k pages and the bytes s; c pages are free. -/
structure MemF (f : StF) (k : Nat) (s : Bs) (c : Nat) (g : VwF) : Prop where
  r : isR f g 0 = true
  x : (prV f g 0).s.size = k
  m : bl (meV f g 0).s = s
  c : cntB (poV f g).n0 = c
  six : k ≤ 6
  len : s.length = 16 * k

section
variable {f : StF} {k c : Nat} {s : Bs} {g g' : VwF}
theorem MemF.same (h : MemF f k s c g) (hg : ∀ j, vgetF f g' j = vgetF f g j) : MemF f k s c g' :=
  ⟨by rw [sees_isR hg]; exact h.r, by show (vgetF f g' (4, 0)).s.size = k; rw [hg]; exact h.x, by show bl (vgetF f g' (12, 0)).s = s; rw [hg]; exact h.m, by show cntB (vgetF f g' (2, 0)).n0 = c; rw [hg]; exact h.c, h.six, h.len⟩
theorem MemF.small (h : MemF f k s c g) : (meV f g 0).s.size ≤ 104 ∧ (prV f g 0).s.size ≤ 194 := by
  have h1 : (meV f g 0).s.size = s.length := by rw [size_bl, h.m]
  have := h.len
  have := h.six
  have := h.x
  omega
theorem MemF.may (h : MemF f k s c g) (n : Nat) : grOk f g 0 (n : Int) = (decide (n + k ≤ 6) && decide (n ≤ c)) := by
  unfold grOk grMay spIn
  rw [h.r, h.x, h.c, decide_eq_true (by omega : (0 : Int) ≤ (n : Int))]
  have := h.six
  rw [show decide ((n : Int) ≤ 6 - (k : Int)) = decide (n + k ≤ 6) from by rw [decide_eq_decide]; omega, show decide ((n : Int) ≤ (c : Int)) = decide (n ≤ c) from by rw [decide_eq_decide]; omega]
  simp
theorem MemF.turn (h : MemF f k s c g) {y x m : V} {k' c' : Nat} {s' : Bs} (hget : ∀ j, vgetF f g' j = if j = (12, 0) then m else if j = (4, 0) then x else if j = (2, 0) then y else vgetF f g j)
    (hx0 : x.n0 = (prV f g 0).n0) (hx : x.s.size = k') (hm : bl m.s = s') (hc : cntB y.n0 = c') (h6 : k' ≤ 6) (hl : s'.length = 16 * k') : MemF f k' s' c' g' := by
  refine ⟨?_, ?_, ?_, ?_, h6, hl⟩
  · rw [isR_turn (g := g) (by rw [hget, if_neg (by decide), if_neg (by decide), if_neg (by decide)]) (fun i => by
      rw [hget, if_neg (key_ne (by decide) _ _)]
      by_cases c : i = 0
      · subst c; rw [if_pos rfl]; exact hx0
      · rw [if_neg (key_ne2 c _ _), if_neg (key_ne (by decide) _ _)])]
    exact h.r
  · show (vgetF f g' (4, 0)).s.size = k'
    rw [hget, if_neg (by decide), if_pos rfl]; exact hx
  · show bl (vgetF f g' (12, 0)).s = s'
    rw [hget, if_pos rfl]; exact hm
  · show cntB (vgetF f g' (2, 0)).n0 = c'
    rw [hget, if_neg (by decide), if_neg (by decide), if_pos rfl]; exact hc
theorem MemF.grow (h : MemF f k s c g) {n : Nat} (h1 : n + k ≤ 6) (h2 : n ≤ c) : grOk f g 0 (n : Int) = true ∧ MemF f (k + n) (s ++ List.replicate (16 * n) 0) (c - n) (grT f g 0 (n : Int)) := by
  have hk : grOk f g 0 (n : Int) = true := by rw [h.may, decide_eq_true h1, decide_eq_true h2]; rfl
  have hget := gr_get hk
  rw [Int.toNat_natCast] at hget
  have hcn : n ≤ cntB (poV f g).n0 := by rw [h.c]; exact h2
  have hl : (picks (poV f g).n0 64 n).length = n := by rw [picks_len]; unfold cntB at hcn; omega
  refine ⟨hk, h.turn hget rfl ?_ ?_ ?_ (by omega) ?_⟩
  · show (bs (bl (prV f g 0).s ++ bytesN _)).size = _
    rw [bs_size, List.length_append, bl_len, h.x]; unfold bytesN; rw [List.length_map, hl]
  · show bl (bs (bl (meV f g 0).s ++ _)) = _
    rw [bl_bs, h.m]
  · have := cnt_picks (poV f g).n0 hcn
    rw [h.c] at this
    show cntB (clrAll (poV f g).n0 _) = _
    omega
  · rw [List.length_append, List.length_replicate, h.len]; omega
theorem MemF.no (h : MemF f k s c g) {n : Int} (hg : grOk f g 0 n = false) : MemF f k s c (grT f g 0 n) := h.same (gr_no hg)
theorem MemF.shrink (h : MemF f k s c g) {n : Nat} (h1 : n ≤ k) : shOk f g 0 (n : Int) = true ∧ MemF f (k - n) (s.take (16 * (k - n))) c (shT f g 0 (n : Int)) := by
  have hk : shOk f g 0 (n : Int) = true := by unfold shOk spIn; rw [h.r, h.x, decide_eq_true (by omega : (0 : Int) ≤ (n : Int)), decide_eq_true (by omega : (n : Int) ≤ (k : Int))]; rfl
  have hget := sh_get hk
  have hle : left (prV f g 0) (n : Int) = k - n := by unfold left; rw [h.x, Int.toNat_natCast]
  rw [hle] at hget
  have := h.six
  refine ⟨hk, h.turn hget rfl ?_ ?_ ?_ (by omega) ?_⟩
  · show (bs _).size = _
    rw [bs_size, List.length_take, bl_len, h.x]; omega
  · show bl (bs _) = _
    rw [bl_bs, h.m, Nat.mul_comm]
  · exact h.c
  · rw [List.length_take, h.len]; omega
theorem MemF.put (h : MemF f k s c g) {x : V} {s' : Bs} (hs : bl x.s = s') (hl : s'.length = 16 * k) : MemF f k s' c (vputT g (12, 0) x) := by
  have hget : ∀ j : K2, vgetF f (vputT g (12, 0) x) j = if j = (12, 0) then x else vgetF f g j := fun j => get_putX (plc_m12 (by omega) (by omega)) j
  refine ⟨?_, ?_, ?_, ?_, h.six, hl⟩
  · rw [isR_turn (g := g) (by rw [hget, if_neg (by decide)]) (fun i => by rw [hget, if_neg (key_ne (by decide) _ _)])]; exact h.r
  · show (vgetF f _ (4, 0)).s.size = k
    rw [hget, if_neg (by decide)]; exact h.x
  · show bl (vgetF f _ (12, 0)).s = s'
    rw [hget, if_pos rfl]; exact hs
  · show cntB (vgetF f _ (2, 0)).n0 = c
    rw [hget, if_neg (by decide)]; exact h.c
end
theorem mem0 : MemF (fP 1048575) 0 [] 20 (gP 1048575) := by
  have hv := pool_v 1048575
  refine ⟨pool_r _ 0 (by omega), by have := hv.size (p := 0) (by omega); exact this, by have := hv.m 0 (by omega); exact this, ?_, by omega, rfl⟩
  show cntB (vgetF (fP 1048575) (gP 1048575) (2, 0)).n0 = 20
  rw [pool_g2, if_neg (by decide), if_neg (by decide), if_neg (by decide), if_pos rfl]
  decide +kernel

def zrow (L : Nat) : Array Value := madeCells (Value.int .u8 0).cells (L * 1)
theorem zero_list (L : Nat) : (madeCells (Value.int .u8 0).cells (L * 1)).toList = Lib.byteCells (List.replicate L 0) := by
  simp [madeCells, Lib.byteCells, Value.cells, Nat.mod_one, Array.toList_range]
  rw [List.eq_replicate_iff]
  simp
theorem makeZ {L : Nat} (hL : L ≤ 1000000) (W : World) : (Instr.makeSlice 59 (.int .i64 (L : Int)) (.int .i64 (L : Int))).run Tryd.prog W = .ok (.slice (some ⟨W.heap.size, 0, none⟩) L L) (W.alloc (.cells (zrow L) 5)) := by
  obtain ⟨i0, hi, hz0, hz1, hz2⟩ := info_parts info_byte
  have h := run_make (P := Tryd.prog) W 59 5 i0 (.int .u8 0) Tryd.underlying59 hi hz0 .i64 .i64 (L : Int) (L : Int) (by omega) (by omega) (by rw [hz2]; omega) (by omega)
  rw [hz1] at h
  rw [show madeCells (Value.int .u8 0).cells ((L : Int).toNat * 1) = zrow L from by unfold zrow; rw [Int.toNat_natCast]] at h
  simpa using h
theorem conv_row {L G : Nat} {w : World} (h : RowB G (List.replicate L 0) w) : (convert 59 9 (.slice (some ⟨G, 0, none⟩) L L)).run Tryd.prog w = .ok (.string (bs (List.replicate L 0))) w := by
  have := row_text h L
  rw [List.length_replicate] at this
  exact this
theorem row_made (L : Nat) (W : World) : RowB W.heap.size (List.replicate L 0) (W.alloc (.cells (zrow L) 5)) := ⟨_, _, alloc_at _ _, zero_list L⟩
theorem RowB.keep {G : Nat} {l : Bs} {w w' : World} {X : Nat → Prop} (h : RowB G l w) (hk : Kept X w w') (hX : ¬ X G) : RowB G l w' := by
  obtain ⟨Y, t, h1, h2⟩ := h
  exact ⟨Y, t, hk.at h1 hX, h2⟩
theorem exec_convert {ev : Operand → Value} {w : World} {d : Option Tmp} {t1 t2 t : TypeId} {p : String} {af : Array Edge} {g : Option (Nat × Bool)} {x : Operand} {a v : Value} (hx : ev x = a) (h : (convert t1 t2 a).run Tryd.prog w = .ok v w) :
    (execOp ev ⟨d, .convert t1 t2 x, t, p, af, g⟩).run Tryd.prog w = .ok (.value v) w := by
  subst hx; simp [execOp, h]
theorem field_s (x : V) (w : World) : (Instr.field 51 (vv x) 1).run Tryd.prog w = .ok (.string x.s) w := field_str x w

set_option maxHeartbeats 2000000 in
theorem memory_of (S : SpaceDoes) (a0 a1 a2 : Int) (w : World) (ht : TabIn w) : Calls Tryd.prog 6 #[.int .i64 a0, .int .i64 a1, .int .i64 a2] w fun e w' => e = .returned (.bool true) ∧ Kept (fun _ => False) w w' := by
  have HT : Hid (TabIn w) := ht
  clear ht
  go_enter Tryd.func6, Tryd.ntmps6
  go_wp2_with fail
  refine (pool_w 1048575 w HT.out).mono ?_
  rintro e w1 ⟨T, p, B, q, N, rfl, h1⟩
  have m1 := mem0
  have c1 := h1.t
  generalize fP 1048575 = f at *
  generalize gP 1048575 = g1 at *
  go_wp2_with fail
  refine (within_any a0 1 3 (by omega) (by omega) (by omega) w1).mono ?_
  rintro e w0 ⟨rfl, hw⟩
  subst hw
  obtain ⟨x, hx, x1, x2⟩ : ∃ x : Nat, (x : Int) = 1 + a0 % (3 - 1 + 1) ∧ 1 ≤ x ∧ x ≤ 3 := ⟨(1 + a0 % (3 - 1 + 1)).toNat, by omega, by omega, by omega⟩
  rw [← hx]
  clear hx
  go_wp2_with fail
  refine (within_any a1 0 3 (by omega) (by omega) (by omega) w0).mono ?_
  rintro e w2 ⟨rfl, hw⟩
  subst hw
  obtain ⟨y, hy, y2⟩ : ∃ y : Nat, (y : Int) = 0 + a1 % (3 - 0 + 1) ∧ y ≤ 3 := ⟨(0 + a1 % (3 - 0 + 1)).toNat, by omega, by omega⟩
  rw [← hy]
  clear hy
  go_wp2_with fail
  refine (within_any a2 0 3 (by omega) (by omega) (by omega) w2).mono ?_
  rintro e w3 ⟨rfl, hw⟩
  subst hw
  obtain ⟨z, hz, z2⟩ : ∃ z : Nat, (z : Int) = 0 + a2 % (3 - 0 + 1) ∧ z ≤ 3 := ⟨(0 + a2 % (3 - 0 + 1)).toNat, by omega, by omega⟩
  rw [← hz]
  clear hz
  go_wp2_with fail
  clear c1
  refine (S.grow h1 0 (x : Int) m1.small.1 m1.small.2).mono ?_
  rintro e w4 ⟨rfl, h4, -⟩
  obtain ⟨e4, m4⟩ := m1.grow (n := x) (by omega) (by omega)
  rw [e4]
  clear h1 m1 e4
  generalize grT f g1 0 (x : Int) = g4 at *
  rw [List.nil_append, Nat.zero_add] at m4
  obtain ⟨K0, hK0⟩ : ∃ K0 : Nat, w4.heap.size = K0 := ⟨_, rfl⟩
  go_wp2_with fail
  obtain ⟨w5, h5⟩ : ∃ w5, w4.alloc (.cells #[.int .i64 12, .int .i64 0] 54) = w5 := ⟨_, rfl⟩
  have k5 : Kept (fun _ => False) w4 w5 := by subst h5; exact (Kept.refl _ _).alloc _
  have hKy : w5.heap[K0]? = some (.cells #[.int .i64 12, .int .i64 0] 54 (0, 0)) := by subst h5; exact alloc_at' _ hK0
  have hl4 := h4.lows
  rw [hK0] at hl4
  have h5' := h4.still k5
  try rw [h5]
  clear h5 h4 k5 hK0
  refine (sg_vget h5' 12 0).mono ?_
  rintro e w6 ⟨rfl, h6, k6⟩
  have m6 : MemF f x (List.replicate (16 * x) 0) (20 - x) (vgetT g4 (12, 0)) := m4.same (fun j => get_get)
  have hKy6 := k6.at hKy (by show ¬ K0 = N; omega)
  clear h5' m4 hKy k6
  generalize vgetF f g4 (12, 0) = mv at *
  generalize vgetT g4 (12, 0) = g6 at *
  obtain ⟨M, hM⟩ : ∃ M : Nat, w6.heap.size = M := ⟨_, rfl⟩
  obtain ⟨w7, h7⟩ : ∃ w7, w6.alloc (.cells (vc mv).toArray 51) = w7 := ⟨_, rfl⟩
  have k7 : Kept (fun _ => False) w6 w7 := by subst h7; exact (Kept.refl _ _).alloc _
  have hM7 : w7.heap[M]? = some (.cells (vc mv).toArray 51 (0, 0)) := by subst h7; exact alloc_at' _ hM
  have lM : K0 < M := by have := lt_at hKy6; omega
  have hKy7 := k7.at hKy6 (fun e => e)
  have h7' := h6.still k7
  clear h6 hKy6 k7
  go_wp2_with (first | (refine list_wnew rfl wide_V _ _ rfl M rfl (vc mv) rfl _ rfl hM rfl (vc_one _) ?_))
  try rw [h7]
  clear h7 hM
  refine (text_w a0 ((16 * x : Nat) : Int) (by omega) (by omega) w7).mono ?_
  rintro e w8 ⟨t, rfl, ht, k8⟩
  have h8 := h7'.still k8
  have hM8 := k8.at hM7 (fun e => e)
  have hK8 := k8.at hKy7 (fun e => e)
  clear h7' hM7 hKy7 k8
  have bM9 : (w8.setCell ⟨M, 16, none⟩ (.string t)).heap[M]? = some (.cells (vc (withS mv t)).toArray 51 (0, 0)) := by rw [set_at hM8]; rfl
  have k9 : Kept (fun b => b = M) w8 (w8.setCell ⟨M, 16, none⟩ (.string t)) := by refine Kept.setCell (Kept.refl _ _) ?_ _; intro _; rfl
  have cM := cell_at hM8 (i := 16) (v := .string mv.s) rfl
  have fM := free_at hM8 16
  go_upto_region 11 with fail
  generalize w8.setCell ⟨M, 16, none⟩ (.string t) = w9 at *
  have h9 : SideG f w T p B q N g6 w9 := h8.young k9 (fun k e => by show K0 ≤ k; omega) hl4
  have hK9 := k9.at hK8 (by show ¬ K0 = M; omega)
  clear cM fM hM8 hK8 h8 k9
  have k0 := cell_at hK9 (i := 0) rfl
  have k1 := cell_at hK9 (i := 1) rfl
  have hr := whole_range bM9
  have hts : t.size = 16 * x := by exact_mod_cast ht
  go_wp2_with (first | (refine list_wload rfl wide_V _ rfl M 0 rfl (vc (withS mv t)) hr rfl ?_))
  refine (sg_vput h9 12 0 (withS mv t) (by show t.size ≤ 200; omega)).mono ?_
  rintro e w10 ⟨rfl, h10, k10⟩
  have m10 : MemF f x (bl t) (20 - x) (vputT g6 (12, 0) (withS mv t)) := m6.put rfl (by rw [bl_len]; exact hts)
  have hK10 := k10.at hK9 (by show ¬ K0 = N; omega)
  have hM10 := k10.at bM9 (by show ¬ M = N; omega)
  clear h9 m6 hK9 bM9 k0 k1 hr k10
  generalize vputT g6 (12, 0) (withS mv t) = g10 at *
  obtain ⟨L, hL⟩ : ∃ L : Nat, 16 * y = L := ⟨_, rfl⟩
  obtain ⟨st, hst⟩ : ∃ st : ByteArray, bs (List.replicate L 0) = st := ⟨_, rfl⟩
  have hstl : bl st = List.replicate L 0 := by rw [← hst, bl_bs]
  have hss : st.size = L := by rw [size_bl, hstl, List.length_replicate]
  obtain ⟨e11, m11⟩ := m10.grow (n := y) (by omega) (by omega)
  have hsm := m10.small
  go_upto_region 12 with fail
  go_cut [65] from 48 to 65 (fun v wx => v = .bool false ∧ Hid (SideG f w T p B q N (vgetT (grT f g10 0 (y : Int)) (12, 0)) wx ∧ wx.heap[K0]? = some (.cells #[.int .i64 12, .int .i64 0] 54 (0, 0)) ∧ wx.heap[M]? = some (.cells (vc (withS mv t)).toArray 51 (0, 0))))
  case first =>
    have hy16 : (16 : Int) * (y : Int) = (L : Int) := by omega
    have hwL : IntKind.i64.wrap (L : Int) = (L : Int) := by rw [IntKind.wrap_i64]; omega
    have hLm : L ≤ 1000000 := by omega
    have hms : (vgetF f (grT f g10 0 (y : Int)) (12, 0)).s = t ++ st := by
      apply bl_inj
      rw [bl_app, hstl, ← hL]
      exact m11.m
    have hmk := fun W => makeZ hLm W
    have lNs : N < w10.heap.size := h10.v.map.lt
    have hss3 : 16 * x + L ≤ 9223372036854775807 := by omega
    have KS : ∀ w', Kept (fun n => n = N) w10 w' → (w'.cell? ⟨K0, 0, none⟩ = some (.int .i64 12) ∧ w'.cell? ⟨K0, 1, none⟩ = some (.int .i64 0) ∧ w'.cell? ⟨M, 16, none⟩ = some (.string t)) :=
      fun w' hk' => ⟨hk'.cell (cell_at hK10 rfl) (by show ¬ K0 = N; omega), hk'.cell (cell_at hK10 rfl) (by show ¬ K0 = N; omega), hk'.cell (cell_at hM10 rfl) (by show ¬ M = N; omega)⟩
    refine wp_region_held_drew (S := fun w' => Kept (fun n => n = N) w10 w') (by kernel_rfl) ((Kept.refl _ _).drew) (fun hHeld => ?_)
    refine h_take 0 (some 48) (Op.move (Operand.tmp 8)) 25 ?v1 rfl rfl (by kernel_rfl) (by kernel_rfl) (by kernel_rfl) (fun _ _ _ h => h) ?hy1 hHeld ?_
    case hy1 => (intro _ _ _ w hSw; have hcs := KS _ hSw; go_simp; try with_reducible rfl)
    simp only [Act.put, List.setIfInBounds_toArray, List.set_cons_zero, List.set_cons_succ]
    refine h_take 1 (some 49) (Op.move (Operand.tmp 10)) 3 ?v2 rfl rfl (by kernel_rfl) (by kernel_rfl) (by kernel_rfl) (fun _ _ _ h => h) ?hy2 hHeld ?_
    case hy2 => (intro _ _ _ w hSw; have hcs := KS _ hSw; go_simp; try with_reducible rfl)
    simp only [Act.put, List.setIfInBounds_toArray, List.set_cons_zero, List.set_cons_succ]
    refine h_step 2 (some 50) (Op.call { callee := Callee.value (Operand.func 9), args := #[Operand.tmp 48, Operand.const (Value.int IntKind.i64 0), Operand.tmp 49], argTypes := #[25, 3, 3] }) 4 rfl rfl (by kernel_rfl) (fun _ _ _ K hK => ?_)
    go_simp
    refine (S.grow (h10.still (Kept.refl _ _).drew) 0 (y : Int) hsm.1 hsm.2).mono ?_
    rintro e x2 ⟨rfl, hx2, kx2⟩
    rw [e11]
    have j2 : Kept (fun n => n = N) w10 x2 := (Kept.drew (Kept.refl _ w10)).trans kx2 (fun _ _ e => e)
    go_wp2_with fail
    refine hK.out _ _ (j2) (fun hHeld => ?_)
    clear hK K
    try simp only [Act.put, List.setIfInBounds_toArray, List.set_cons_zero, List.set_cons_succ]
    refine h_take 3 (some 51) (Op.unOp UnOp.not 4 (Operand.tmp 50)) 4 ?v3 rfl rfl (by kernel_rfl) (by kernel_rfl) (by kernel_rfl) (fun _ _ _ h => h) ?hy3 hHeld ?_
    case hy3 => (intro _ _ _ w hSw; have hcs := KS _ hSw; go_simp; try with_reducible rfl)
    simp only [Act.put, List.setIfInBounds_toArray, List.set_cons_zero, List.set_cons_succ]
    refine h_take 4 (some 52) (Op.move (Operand.tmp 51)) 4 ?v4 rfl rfl (by kernel_rfl) (by kernel_rfl) (by kernel_rfl) (fun _ _ _ h => h) ?hy4 hHeld ?_
    case hy4 => (intro _ _ _ w hSw; have hcs := KS _ hSw; go_simp; try with_reducible rfl)
    simp only [Act.put, List.setIfInBounds_toArray, List.set_cons_zero, List.set_cons_succ]
    refine h_take 5 (some 53) (Op.move (Operand.tmp 8)) 25 ?v5 rfl rfl (by kernel_rfl) (by kernel_rfl) (by kernel_rfl) (fun _ _ _ h => h) ?hy5 hHeld ?_
    case hy5 => (intro _ _ _ w hSw; have hcs := KS _ hSw; go_simp; try with_reducible rfl)
    simp only [Act.put, List.setIfInBounds_toArray, List.set_cons_zero, List.set_cons_succ]
    refine h_take 6 (some 54) (Op.load 54 (Operand.tmp 12)) 54 ?v6 rfl rfl (by kernel_rfl) (by kernel_rfl) (by kernel_rfl) (fun _ _ _ h => h) ?hy6 hHeld ?_
    case hy6 => (intro _ _ _ w hSw; have hcs := KS _ hSw; go_simp; try with_reducible rfl)
    simp only [Act.put, List.setIfInBounds_toArray, List.set_cons_zero, List.set_cons_succ]
    refine h_take 9 (some 57) (Op.fieldAddr 51 (Operand.tmp 13) 1) 0 ?v7 rfl rfl (by kernel_rfl) (by kernel_rfl) (by kernel_rfl) (fun _ _ _ h => h) ?hy7 hHeld ?_
    case hy7 => (intro _ _ _ w hSw; have hcs := KS _ hSw; go_simp; try with_reducible rfl)
    simp only [Act.put, List.setIfInBounds_toArray, List.set_cons_zero, List.set_cons_succ]
    refine h_take 10 (some 58) (Op.load 9 (Operand.tmp 57)) 9 ?v8 rfl rfl (by kernel_rfl) (by kernel_rfl) (by kernel_rfl) (fun _ _ _ h => h) ?hy8 hHeld ?_
    case hy8 => (intro _ _ _ w hSw; have hcs := KS _ hSw; go_simp; try with_reducible rfl)
    simp only [Act.put, List.setIfInBounds_toArray, List.set_cons_zero, List.set_cons_succ]
    refine h_take 11 (some 59) (Op.move (Operand.tmp 10)) 3 ?v9 rfl rfl (by kernel_rfl) (by kernel_rfl) (by kernel_rfl) (fun _ _ _ h => h) ?hy9 hHeld ?_
    case hy9 => (intro _ _ _ w hSw; have hcs := KS _ hSw; go_simp; try with_reducible rfl)
    simp only [Act.put, List.setIfInBounds_toArray, List.set_cons_zero, List.set_cons_succ]
    refine h_take 12 (some 60) (Op.binOp BinOp.mul 3 (Operand.const (Value.int IntKind.i64 16)) (Operand.tmp 59) 3) 3 (.int .i64 (L : Int)) rfl rfl (by kernel_rfl) (by kernel_rfl) (by kernel_rfl) (fun _ _ _ h => h) ?_ hHeld ?_
    · intro _ _ _ w hSw; have hcs := KS _ hSw; go_simp
    simp only [Act.put, List.setIfInBounds_toArray, List.set_cons_zero, List.set_cons_succ]
    obtain ⟨mv2, hmv⟩ : ∃ mv2, vgetF f (grT f g10 0 (y : Int)) (12, 0) = mv2 := ⟨_, rfl⟩
    rw [hmv] at hms
    have lN2 : N < x2.heap.size := hx2.v.map.lt
    refine h_two 7 (some 55) (Op.call { callee := Callee.value (Operand.func 23), args := #[Operand.tmp 53, Operand.tmp 54], argTypes := #[25, 54] }) 51 13 (some 61) (Op.makeSlice 59 (Operand.tmp 60) (Operand.tmp 60)) 59 rfl rfl rfl rfl (by kernel_rfl) (fun _ _ _ K hK => ?_) (fun _ _ _ K hK => ?_)
    · go_simp
      refine (sg_vget hx2 12 0).mono ?_
      rintro e x3 ⟨rfl, hx3, kx3⟩
      rw [hmv]
      have j3 : Kept (fun n => n = N) w10 x3 := j2.trans kx3 (fun _ _ e => e)
      go_wp2_with fail
      refine hK.out _ _ (j3) (fun hHeld => ?_)
      clear hK K
      try simp only [Act.put, List.setIfInBounds_toArray, List.set_cons_zero, List.set_cons_succ]
      refine h_take 8 (some 56) (Op.field 51 (Operand.tmp 55) 1) 9 (.string mv2.s) rfl rfl (by kernel_rfl) (by kernel_rfl) (by kernel_rfl) (fun _ _ _ h => h) (fun _ _ _ w hSw => exec_field rfl (field_s mv2 w)) hHeld ?_
      simp only [Act.put, List.setIfInBounds_toArray, List.set_cons_zero, List.set_cons_succ]
      rw [hms]
      refine h_step 13 (some 61) (Op.makeSlice 59 (Operand.tmp 60) (Operand.tmp 60)) 59 rfl rfl (by kernel_rfl) (fun _ _ _ K hK => ?_)
      go_simp
      have hrow := row_made L x3
      have hcv := conv_row hrow
      rw [hst] at hcv
      have j4 : Kept (fun n => n = N) w10 (x3.alloc (.cells (zrow L) 5)) := j3.alloc _
      refine hK.out _ _ (j4) (fun hHeld => ?_)
      clear hK K
      try simp only [Act.put, List.setIfInBounds_toArray, List.set_cons_zero, List.set_cons_succ]
      refine h_step 14 (some 62) (Op.convert 59 9 (Operand.tmp 61)) 9 rfl rfl (by kernel_rfl) (fun _ _ _ K hK => ?_)
      refine wp_yield (exec_convert rfl hcv) ?_
      refine hK.out _ _ (j4) (fun hHeld => ?_)
      clear hK K
      try simp only [Act.put, List.setIfInBounds_toArray, List.set_cons_zero, List.set_cons_succ]
      refine h_take 15 (some 63) (Op.binOp BinOp.add 9 (Operand.tmp 58) (Operand.tmp 62) 9) 9 (.string (t ++ st)) rfl rfl (by kernel_rfl) (by kernel_rfl) (by kernel_rfl) (fun _ _ _ h => h) ?_ hHeld ?_
      · intro _ _ _ w hSw; have hcs := KS _ hSw; go_simp
      simp only [Act.put, List.setIfInBounds_toArray, List.set_cons_zero, List.set_cons_succ]
      refine h_take 16 (some 64) (Op.binOp BinOp.neq 9 (Operand.tmp 56) (Operand.tmp 63) 9) 4 (.bool false) rfl rfl (by kernel_rfl) (by kernel_rfl) (by kernel_rfl) (fun _ _ _ h => h) ?_ hHeld ?_
      · intro _ _ _ w hSw; have hcs := KS _ hSw; go_simp
      simp only [Act.put, List.setIfInBounds_toArray, List.set_cons_zero, List.set_cons_succ]
      refine h_take 17 (some 65) (Op.pick (Operand.tmp 52) (Operand.const (Value.bool true)) (Operand.tmp 64)) 4 ?v10 rfl rfl (by kernel_rfl) (by kernel_rfl) (by kernel_rfl) (fun _ _ _ h => h) ?hy10 hHeld ?_
      case hy10 => (intro _ _ _ w hSw; have hcs := KS _ hSw; go_simp; try with_reducible rfl)
      simp only [Act.put, List.setIfInBounds_toArray, List.set_cons_zero, List.set_cons_succ]
      refine wpAnyH_done (by kernel_rfl) ?_ _
      have HZ : Hid (SideG f w T p B q N (vgetT (grT f g10 0 (y : Int)) (12, 0)) (x3.alloc (.cells (zrow L) 5)) ∧ (x3.alloc (.cells (zrow L) 5)).heap[K0]? = some (.cells #[.int .i64 12, .int .i64 0] 54 (0, 0)) ∧ (x3.alloc (.cells (zrow L) 5)).heap[M]? = some (.cells (vc (withS mv t)).toArray 51 (0, 0))) := ⟨hx3.still ((Kept.refl _ _).alloc _), j4.at hK10 (by show ¬ K0 = N; omega), j4.at hM10 (by show ¬ M = N; omega)⟩
      clear hHeld KS hrow hcv
      go_wp2
      go_meet
      case rel => exact ⟨rfl, HZ⟩
    · go_simp
      have hrow := row_made L x2
      have j3 : Kept (fun n => n = N) w10 (x2.alloc (.cells (zrow L) 5)) := j2.alloc _
      have kz : Kept (fun _ => False) x2 (x2.alloc (.cells (zrow L) 5)) := (Kept.refl _ _).alloc _
      refine hK.out _ _ (j3) (fun hHeld => ?_)
      clear hK K
      try simp only [Act.put, List.setIfInBounds_toArray, List.set_cons_zero, List.set_cons_succ]
      refine h_two 7 (some 55) (Op.call { callee := Callee.value (Operand.func 23), args := #[Operand.tmp 53, Operand.tmp 54], argTypes := #[25, 54] }) 51 14 (some 62) (Op.convert 59 9 (Operand.tmp 61)) 9 rfl rfl rfl rfl (by kernel_rfl) (fun _ _ _ K hK => ?_) (fun _ _ _ K hK => ?_)
      · go_simp
        refine (sg_vget (hx2.still kz) 12 0).mono ?_
        rintro e x3 ⟨rfl, hx3, kx3⟩
        rw [hmv]
        have j4 : Kept (fun n => n = N) w10 x3 := j3.trans kx3 (fun _ _ e => e)
        have hcv := conv_row (hrow.keep kx3 (by show ¬ x2.heap.size = N; omega))
        rw [hst] at hcv
        go_wp2_with fail
        refine hK.out _ _ (j4) (fun hHeld => ?_)
        clear hK K
        try simp only [Act.put, List.setIfInBounds_toArray, List.set_cons_zero, List.set_cons_succ]
        refine h_take 8 (some 56) (Op.field 51 (Operand.tmp 55) 1) 9 (.string mv2.s) rfl rfl (by kernel_rfl) (by kernel_rfl) (by kernel_rfl) (fun _ _ _ h => h) (fun _ _ _ w hSw => exec_field rfl (field_s mv2 w)) hHeld ?_
        simp only [Act.put, List.setIfInBounds_toArray, List.set_cons_zero, List.set_cons_succ]
        rw [hms]
        refine h_step 14 (some 62) (Op.convert 59 9 (Operand.tmp 61)) 9 rfl rfl (by kernel_rfl) (fun _ _ _ K hK => ?_)
        refine wp_yield (exec_convert rfl hcv) ?_
        refine hK.out _ _ (j4) (fun hHeld => ?_)
        clear hK K
        try simp only [Act.put, List.setIfInBounds_toArray, List.set_cons_zero, List.set_cons_succ]
        refine h_take 15 (some 63) (Op.binOp BinOp.add 9 (Operand.tmp 58) (Operand.tmp 62) 9) 9 (.string (t ++ st)) rfl rfl (by kernel_rfl) (by kernel_rfl) (by kernel_rfl) (fun _ _ _ h => h) ?_ hHeld ?_
        · intro _ _ _ w hSw; have hcs := KS _ hSw; go_simp
        simp only [Act.put, List.setIfInBounds_toArray, List.set_cons_zero, List.set_cons_succ]
        refine h_take 16 (some 64) (Op.binOp BinOp.neq 9 (Operand.tmp 56) (Operand.tmp 63) 9) 4 (.bool false) rfl rfl (by kernel_rfl) (by kernel_rfl) (by kernel_rfl) (fun _ _ _ h => h) ?_ hHeld ?_
        · intro _ _ _ w hSw; have hcs := KS _ hSw; go_simp
        simp only [Act.put, List.setIfInBounds_toArray, List.set_cons_zero, List.set_cons_succ]
        refine h_take 17 (some 65) (Op.pick (Operand.tmp 52) (Operand.const (Value.bool true)) (Operand.tmp 64)) 4 ?v11 rfl rfl (by kernel_rfl) (by kernel_rfl) (by kernel_rfl) (fun _ _ _ h => h) ?hy11 hHeld ?_
        case hy11 => (intro _ _ _ w hSw; have hcs := KS _ hSw; go_simp; try with_reducible rfl)
        simp only [Act.put, List.setIfInBounds_toArray, List.set_cons_zero, List.set_cons_succ]
        refine wpAnyH_done (by kernel_rfl) ?_ _
        have HZ : Hid (SideG f w T p B q N (vgetT (grT f g10 0 (y : Int)) (12, 0)) x3 ∧ x3.heap[K0]? = some (.cells #[.int .i64 12, .int .i64 0] 54 (0, 0)) ∧ x3.heap[M]? = some (.cells (vc (withS mv t)).toArray 51 (0, 0))) := ⟨hx3, j4.at hK10 (by show ¬ K0 = N; omega), j4.at hM10 (by show ¬ M = N; omega)⟩
        clear hHeld KS hrow hcv
        go_wp2
        go_meet
        case rel => exact ⟨rfl, HZ⟩
      · have hcv := conv_row hrow
        rw [hst] at hcv
        refine wp_yield (exec_convert rfl hcv) ?_
        refine hK.out _ _ (j3) (fun hHeld => ?_)
        clear hK K
        try simp only [Act.put, List.setIfInBounds_toArray, List.set_cons_zero, List.set_cons_succ]
        refine h_take 15 (some 63) (Op.binOp BinOp.add 9 (Operand.tmp 58) (Operand.tmp 62) 9) 9 (.string (t ++ st)) rfl rfl (by kernel_rfl) (by kernel_rfl) (by kernel_rfl) (fun _ _ _ h => h) ?_ hHeld ?_
        · intro _ _ _ w hSw; have hcs := KS _ hSw; go_simp
        simp only [Act.put, List.setIfInBounds_toArray, List.set_cons_zero, List.set_cons_succ]
        refine h_step 7 (some 55) (Op.call { callee := Callee.value (Operand.func 23), args := #[Operand.tmp 53, Operand.tmp 54], argTypes := #[25, 54] }) 51 rfl rfl (by kernel_rfl) (fun _ _ _ K hK => ?_)
        go_simp
        refine (sg_vget (hx2.still kz) 12 0).mono ?_
        rintro e x3 ⟨rfl, hx3, kx3⟩
        rw [hmv]
        have j4 : Kept (fun n => n = N) w10 x3 := j3.trans kx3 (fun _ _ e => e)
        go_wp2_with fail
        refine hK.out _ _ (j4) (fun hHeld => ?_)
        clear hK K
        try simp only [Act.put, List.setIfInBounds_toArray, List.set_cons_zero, List.set_cons_succ]
        refine h_take 8 (some 56) (Op.field 51 (Operand.tmp 55) 1) 9 (.string mv2.s) rfl rfl (by kernel_rfl) (by kernel_rfl) (by kernel_rfl) (fun _ _ _ h => h) (fun _ _ _ w hSw => exec_field rfl (field_s mv2 w)) hHeld ?_
        simp only [Act.put, List.setIfInBounds_toArray, List.set_cons_zero, List.set_cons_succ]
        rw [hms]
        refine h_take 16 (some 64) (Op.binOp BinOp.neq 9 (Operand.tmp 56) (Operand.tmp 63) 9) 4 (.bool false) rfl rfl (by kernel_rfl) (by kernel_rfl) (by kernel_rfl) (fun _ _ _ h => h) ?_ hHeld ?_
        · intro _ _ _ w hSw; have hcs := KS _ hSw; go_simp
        simp only [Act.put, List.setIfInBounds_toArray, List.set_cons_zero, List.set_cons_succ]
        refine h_take 17 (some 65) (Op.pick (Operand.tmp 52) (Operand.const (Value.bool true)) (Operand.tmp 64)) 4 ?v12 rfl rfl (by kernel_rfl) (by kernel_rfl) (by kernel_rfl) (fun _ _ _ h => h) ?hy12 hHeld ?_
        case hy12 => (intro _ _ _ w hSw; have hcs := KS _ hSw; go_simp; try with_reducible rfl)
        simp only [Act.put, List.setIfInBounds_toArray, List.set_cons_zero, List.set_cons_succ]
        refine wpAnyH_done (by kernel_rfl) ?_ _
        have HZ : Hid (SideG f w T p B q N (vgetT (grT f g10 0 (y : Int)) (12, 0)) x3 ∧ x3.heap[K0]? = some (.cells #[.int .i64 12, .int .i64 0] 54 (0, 0)) ∧ x3.heap[M]? = some (.cells (vc (withS mv t)).toArray 51 (0, 0))) := ⟨hx3, j4.at hK10 (by show ¬ K0 = N; omega), j4.at hM10 (by show ¬ M = N; omega)⟩
        clear hHeld KS hrow hcv
        go_wp2
        go_meet
        case rel => exact ⟨rfl, HZ⟩
  case rest =>
    obtain ⟨rfl, HH⟩ := hcut
    obtain ⟨h12, hK12, hM12⟩ := HH.out
    have m12 : MemF f (x + y) (bl t ++ List.replicate L 0) (20 - x - y) (vgetT (grT f g10 0 (y : Int)) (12, 0)) := by rw [← hL]; exact m11.same (fun j => get_get)
    clear HH h10 m10 hK10 hM10 e11 m11 hsm
    generalize vgetT (grT f g10 0 (y : Int)) (12, 0) = g12 at *
    obtain ⟨mn, hmn, hmn1⟩ : ∃ mn : Nat, (if (x : Int) + (y : Int) < (z : Int) then (x : Int) + (y : Int) else (z : Int)) = (mn : Int) ∧ mn ≤ x + y := ⟨min z (x + y), by split <;> omega, by omega⟩
    obtain ⟨lf, hlf⟩ : ∃ lf : Nat, x + y = mn + lf := ⟨x + y - mn, by omega⟩
    have hlf2 : (x : Int) + (y : Int) - (mn : Int) = (lf : Int) := by omega
    go_wp2_with fail
    refine (S.shrink h12 0 (mn : Int) (by omega)).mono ?_
    rintro e w13 ⟨v13, rfl, -, -, h13, k13⟩
    obtain ⟨e13, m13⟩ := m12.shrink (n := mn) hmn1
    rw [show x + y - mn = lf by omega] at m13
    rw [e13]
    have hK13 := k13.at hK12 (by show ¬ K0 = N; omega)
    have hM13 := k13.at hM12 (by show ¬ M = N; omega)
    have hl6 : lf ≤ 6 := m13.six
    clear h12 m12 hK12 hM12 e13 k13
    generalize shT f g12 0 (mn : Int) = g13 at *
    go_upto_region 18 with fail
    obtain ⟨wt, hwt⟩ : ∃ wt : ByteArray, (t ++ st).extract 0 (16 * lf) = wt := ⟨_, rfl⟩
    have hwb : bl wt = (bl t ++ List.replicate L 0).take (16 * lf) := by rw [← hwt, bl_extract, List.drop_zero, Nat.sub_zero, bl_app, hstl]
    have hws : wt.size = 16 * lf := by
      have := m13.len
      rw [size_bl, hwb]; exact this
    have hlfL : 16 * lf ≤ 16 * x + L := by omega
    go_cut [17] from 87 to 96 (fun v wx => v = .string wt ∧ Kept (fun _ => False) w13 wx)
    case first =>
      have hy16 : (16 : Int) * (y : Int) = (L : Int) := by omega
      have hwL : IntKind.i64.wrap (L : Int) = (L : Int) := by rw [IntKind.wrap_i64]; omega
      have hwF : IntKind.i64.wrap ((16 : Int) * (lf : Int)) = (16 : Int) * (lf : Int) := by rw [IntKind.wrap_i64]; omega
      have hLm : L ≤ 1000000 := by omega
      have hmk := fun W => makeZ hLm W
      have hss3 : 16 * x + L ≤ 9223372036854775807 := by omega
      have KS : ∀ w', Kept (fun _ => False) w13 w' → w'.cell? ⟨M, 16, none⟩ = some (.string t) := fun w' hk' => hk'.cell (cell_at hM13 rfl) (fun e => e)
      refine wp_region_held_drew (S := fun w' => Kept (fun _ => False) w13 w') (by kernel_rfl) ((Kept.refl _ _).drew) (fun hHeld => ?_)
      obtain ⟨x0, hx0⟩ : ∃ x0, w13.drew = x0 := ⟨_, rfl⟩
      have j0 : Kept (fun _ => False) w13 x0 := by rw [← hx0]; exact (Kept.refl _ _).drew
      rw [hx0] at hHeld ⊢
      clear hx0
      refine h_take 0 (some 87) (Op.fieldAddr 51 (Operand.tmp 13) 1) 0 ?v13 rfl rfl (by kernel_rfl) (by kernel_rfl) (by kernel_rfl) (fun _ _ _ h => h) ?hy13 hHeld ?_
      case hy13 => (intro _ _ _ w hSw; have hcs := KS _ hSw; go_simp; try with_reducible rfl)
      simp only [Act.put, List.setIfInBounds_toArray, List.set_cons_zero, List.set_cons_succ]
      refine h_take 1 (some 88) (Op.load 9 (Operand.tmp 87)) 9 ?v14 rfl rfl (by kernel_rfl) (by kernel_rfl) (by kernel_rfl) (fun _ _ _ h => h) ?hy14 hHeld ?_
      case hy14 => (intro _ _ _ w hSw; have hcs := KS _ hSw; go_simp; try with_reducible rfl)
      simp only [Act.put, List.setIfInBounds_toArray, List.set_cons_zero, List.set_cons_succ]
      refine h_take 2 (some 89) (Op.move (Operand.tmp 10)) 3 ?v15 rfl rfl (by kernel_rfl) (by kernel_rfl) (by kernel_rfl) (fun _ _ _ h => h) ?hy15 hHeld ?_
      case hy15 => (intro _ _ _ w hSw; have hcs := KS _ hSw; go_simp; try with_reducible rfl)
      simp only [Act.put, List.setIfInBounds_toArray, List.set_cons_zero, List.set_cons_succ]
      refine h_take 3 (some 90) (Op.binOp BinOp.mul 3 (Operand.const (Value.int IntKind.i64 16)) (Operand.tmp 89) 3) 3 (.int .i64 (L : Int)) rfl rfl (by kernel_rfl) (by kernel_rfl) (by kernel_rfl) (fun _ _ _ h => h) ?_ hHeld ?_
      · intro _ _ _ w hSw; have hcs := KS _ hSw; go_simp
      simp only [Act.put, List.setIfInBounds_toArray, List.set_cons_zero, List.set_cons_succ]
      refine h_take 7 (some 94) (Op.move (Operand.tmp 16)) 3 ?v16 rfl rfl (by kernel_rfl) (by kernel_rfl) (by kernel_rfl) (fun _ _ _ h => h) ?hy16 hHeld ?_
      case hy16 => (intro _ _ _ w hSw; have hcs := KS _ hSw; go_simp; try with_reducible rfl)
      simp only [Act.put, List.setIfInBounds_toArray, List.set_cons_zero, List.set_cons_succ]
      refine h_take 8 (some 95) (Op.binOp BinOp.mul 3 (Operand.const (Value.int IntKind.i64 16)) (Operand.tmp 94) 3) 3 (.int .i64 ((16 : Int) * (lf : Int))) rfl rfl (by kernel_rfl) (by kernel_rfl) (by kernel_rfl) (fun _ _ _ h => h) ?_ hHeld ?_
      · intro _ _ _ w hSw; have hcs := KS _ hSw; go_simp
      simp only [Act.put, List.setIfInBounds_toArray, List.set_cons_zero, List.set_cons_succ]
      refine h_step 4 (some 91) (Op.makeSlice 59 (Operand.tmp 90) (Operand.tmp 90)) 59 rfl rfl (by kernel_rfl) (fun _ _ _ K hK => ?_)
      go_simp
      have hrow := row_made L x0
      have hcv := conv_row hrow
      rw [hst] at hcv
      have j4 : Kept (fun _ => False) w13 (x0.alloc (.cells (zrow L) 5)) := j0.alloc _
      refine hK.out _ _ (j4) (fun hHeld => ?_)
      clear hK K
      try simp only [Act.put, List.setIfInBounds_toArray, List.set_cons_zero, List.set_cons_succ]
      refine h_step 5 (some 92) (Op.convert 59 9 (Operand.tmp 91)) 9 rfl rfl (by kernel_rfl) (fun _ _ _ K hK => ?_)
      refine wp_yield (exec_convert rfl hcv) ?_
      refine hK.out _ _ (j4) (fun hHeld => ?_)
      clear hK K
      try simp only [Act.put, List.setIfInBounds_toArray, List.set_cons_zero, List.set_cons_succ]
      refine h_take 6 (some 93) (Op.binOp BinOp.add 9 (Operand.tmp 88) (Operand.tmp 92) 9) 9 (.string (t ++ st)) rfl rfl (by kernel_rfl) (by kernel_rfl) (by kernel_rfl) (fun _ _ _ h => h) ?_ hHeld ?_
      · intro _ _ _ w hSw; have hcs := KS _ hSw; go_simp
      simp only [Act.put, List.setIfInBounds_toArray, List.set_cons_zero, List.set_cons_succ]
      have hsz : (t ++ st).size = 16 * x + L := by rw [size_bl, bl_app, List.length_append, bl_len, bl_len, hts, hss]
      have hlfI : (16 : Int) * (lf : Int) ≤ 16 * (x : Int) + (L : Int) := by omega
      have hlf0 : (0 : Int) ≤ (16 : Int) * (lf : Int) := by omega
      have htn : ((16 : Int) * (lf : Int)).toNat = 16 * lf := by omega
      refine h_take 9 (some 96) (Op.slice 9 (Operand.tmp 93) none (some (Operand.tmp 95)) none) 9 (.string wt) rfl rfl (by kernel_rfl) (by kernel_rfl) (by kernel_rfl) (fun _ _ _ h => h) ?_ hHeld ?_
      · intro _ _ _ w hSw; have hcs := KS _ hSw; go_simp
      simp only [Act.put, List.setIfInBounds_toArray, List.set_cons_zero, List.set_cons_succ]
      refine h_take 10 (some 17) (Op.assign (Operand.tmp 96)) 9 ?v17 rfl rfl (by kernel_rfl) (by kernel_rfl) (by kernel_rfl) (fun _ _ _ h => h) ?hy17 hHeld ?_
      case hy17 => (intro _ _ _ w hSw; have hcs := KS _ hSw; go_simp; try with_reducible rfl)
      simp only [Act.put, List.setIfInBounds_toArray, List.set_cons_zero, List.set_cons_succ]
      refine wpAnyH_done (by kernel_rfl) ?_ _
      clear hHeld KS hrow hcv
      go_wp2
      go_meet
      case rel => exact ⟨rfl, j4⟩
    case rest =>
      obtain ⟨rfl, k14⟩ := hcut
      have h14 := h13.still k14
      have hK14 := k14.at hK13 (fun e => e)
      clear h13 hK13 hM13 k14
      have k0 := cell_at hK14 (i := 0) rfl
      have k1 := cell_at hK14 (i := 1) rfl
      have hf1 : (vgetF f g13 (12, 0)).s = wt := by
        apply bl_inj
        rw [hwb]
        exact m13.m
      obtain ⟨mv3, hmv3⟩ : ∃ mv3, vgetF f g13 (12, 0) = mv3 := ⟨_, rfl⟩
      rw [hmv3] at hf1
      have hfs := fun W => field_s mv3 W
      rw [hf1] at hfs
      go_wp2_with fail
      refine (sg_vget h14 12 0).mono ?_
      rintro e w15 ⟨rfl, h15, k15⟩
      rw [hmv3]
      have m15 : MemF f lf (List.take (16 * lf) (bl t ++ List.replicate L 0)) (20 - x - y) (vgetT g13 (12, 0)) := m13.same (fun j => get_get)
      have hK15 := k15.at hK14 (by show ¬ K0 = N; omega)
      clear h14 m13 hK14 k15 k0 k1
      generalize vgetT g13 (12, 0) = g15 at *
      go_wp2_with fail
      have hwl : (bl wt).length = 16 * lf := by rw [bl_len]; exact hws
      obtain ⟨hg1, k2, s2, c2, m16, hs2⟩ : grOk f g15 0 1 = decide (lf < 6) ∧ ∃ k2 s2 c2, MemF f k2 s2 c2 (grT f g15 0 1) ∧ s2.take (16 * lf) = bl wt := by
        by_cases c : lf < 6
        · obtain ⟨e1, m1⟩ := m15.grow (n := 1) (by omega) (by omega)
          refine ⟨by rw [decide_eq_true c]; exact e1, _, _, _, m1, ?_⟩
          rw [← hwb, List.take_append_of_le_length (by omega), List.take_of_length_le (by omega)]
        · have e1 : grOk f g15 0 1 = false := by
            have := m15.may 1
            rw [decide_eq_false (by omega : ¬ 1 + lf ≤ 6)] at this
            exact this
          refine ⟨by rw [decide_eq_false c]; exact e1, _, _, _, m15.no e1, ?_⟩
          rw [← hwb, List.take_of_length_le (by omega)]
      have hsm15 := m15.small
      refine (S.grow h15 0 1 hsm15.1 hsm15.2).mono ?_
      rintro e w16 ⟨rfl, h16, k16⟩
      rw [hg1]
      have hK16 := k16.at hK15 (by show ¬ K0 = N; omega)
      clear h15 m15 hK15 k16 hg1 hsm15
      generalize grT f g15 0 1 = g16 at *
      have k0 := cell_at hK16 (i := 0) rfl
      have k1 := cell_at hK16 (i := 1) rfl
      obtain ⟨mv4, hmv4⟩ : ∃ mv4, vgetF f g16 (12, 0) = mv4 := ⟨_, rfl⟩
      have hm4 : bl mv4.s = s2 := by rw [← hmv4]; exact m16.m
      obtain ⟨sv, hsv⟩ : ∃ sv, mv4.s = sv := ⟨_, rfl⟩
      have hfs4 := fun W => field_s mv4 W
      rw [hsv] at hfs4 hm4
      have hle : 16 * lf ≤ sv.size := by
        have := congrArg List.length hs2
        rw [List.length_take, hwl] at this
        rw [size_bl, hm4]; omega
      have hex : sv.extract 0 (16 * lf) = wt := by
        apply bl_inj
        rw [bl_extract, List.drop_zero, Nat.sub_zero, hm4, hs2]
      have hleI : (16 : Int) * (lf : Int) ≤ (sv.size : Int) := by omega
      have hlf0 : (0 : Int) ≤ (16 : Int) * (lf : Int) := by omega
      have htn : ((16 : Int) * (lf : Int)).toNat = 16 * lf := by omega
      clear hs2 hm4 m16 hwl hwt hwb hfs hf1 hmv3 hsv
      by_cases c : lf < 6
      · rw [decide_eq_true c]
        have cI : (lf : Int) < 6 := by omega
        go_wp2_with fail
        refine (sg_vget h16 12 0).mono ?_
        rintro e w17 ⟨rfl, h17, -⟩
        rw [hmv4]
        have HK : Hid (Kept (fun _ => False) w w17) := h17.kept
        clear h16 h17 hK16 k0 k1 hmv4
        go_wp2_with fail
        refine (runs_of S w17 (HT.out.still HK.out)).mono ?_
        rintro e w18 ⟨rfl, k18⟩
        have HZ : Hid (Kept (fun _ => False) w w18) := HK.out.thru k18
        clear HK k18
        go_wp2_with fail
        go_ret
        exact ⟨rfl, HZ.out⟩
      · rw [decide_eq_false c]
        have cI : ¬ (lf : Int) < 6 := by omega
        go_wp2_with fail
        refine (sg_vget h16 12 0).mono ?_
        rintro e w17 ⟨rfl, h17, -⟩
        rw [hmv4]
        have HK : Hid (Kept (fun _ => False) w w17) := h17.kept
        clear h16 h17 hK16 k0 k1 hmv4
        go_wp2_with fail
        refine (runs_of S w17 (HT.out.still HK.out)).mono ?_
        rintro e w18 ⟨rfl, k18⟩
        have HZ : Hid (Kept (fun _ => False) w w18) := HK.out.thru k18
        clear HK k18
        go_wp2_with fail
        go_ret
        exact ⟨rfl, HZ.out⟩
end Go.Proofs.YtbhpkjedkccdpaaDoor
