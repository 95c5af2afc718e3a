/- What Roomy and Intact of the given book do when they are called on keys; no conditions but that a row has no more than a thousand keys. -/
import Derived.Test.YtheflmomomknbaaRuns
import Derived.Laws.CopyRow
namespace Go.Proofs.Ytheflmomomknbaa
open Go.RowKit

theorem kcells_rep (m : Nat) : (madeCells #[.int .i64 0, .int .i64 0] (m * 2)).toList = kcells (List.replicate m (0, 0)) := by
  apply List.ext_getElem?
  intro j
  by_cases hj : j < m * 2
  · obtain ⟨u, hu⟩ : ∃ u, (kcells (List.replicate m ((0 : Int), (0 : Int))))[j]? = some u := by
      rw [← Option.isSome_iff_exists]; simp [kcells_len, hj]
    rw [hu]
    obtain ⟨i, hi, e⟩ := kcells_get hu
    have e0 : kd (List.replicate m ((0 : Int), (0 : Int))) i = (0, 0) := by simp [kd, List.getD, List.getElem?_replicate]; split <;> rfl
    rw [e0] at e
    have h2 : j % 2 = 0 ∨ j % 2 = 1 := by omega
    rcases e with ⟨_, rfl⟩ | ⟨_, rfl⟩ <;> rcases h2 with h2 | h2 <;> simp [madeCells, hj, h2]
  · rw [List.getElem?_eq_none (by simp [madeCells]; omega), List.getElem?_eq_none (by rw [kcells_len]; simp; omega)]

theorem make_keys (m : Nat) (hm : m ≤ 2000) (w : World) : (Instr.makeSlice 29 (.int .i64 (m : Int)) (.int .i64 (m : Int))).run Try.prog w =
    .ok (.slice (some ⟨w.heap.size, 0, none⟩) m m) (w.alloc (.cells (kcells (List.replicate m (0, 0))).toArray 23)) := by
  obtain ⟨i0, hi, hz0, hz1, hz2⟩ := info_parts info_key
  have hr := run_make (P := Try.prog) w 29 23 i0 _ Try.underlying29 hi hz0 .i64 .i64 m m (by omega) (Int.le_refl _) (by rw [hz2]; omega) (by omega)
  simp only [Int.toNat_natCast] at hr
  rw [hr]
  congr 3
  rw [hz1]
  apply Array.toList_inj.1
  rw [show (Value.agg #[.int .i64 0, .int .i64 0]).cells = #[.int .i64 0, .int .i64 0] from rfl, kcells_rep]

theorem run_copy (ty : TypeId) (w : World) (E c : Nat) (z : Ks) (hE : w.heap[E]? = some (.cells (kcells z).toArray 23 (0, 0))) (x : Value) (l : Ks) (hx : SrcK x l w) (hl : l.length ≤ z.length) :
    ∃ w', (Builtin.copy_ #[29, 29] ty #[.slice (some ⟨E, 0, none⟩) z.length c, x]).run Try.prog w = .ok (goInt l.length) w' ∧ w'.heap[E]? = some (.cells (kcells (l ++ z.drop l.length)).toArray 23 (0, 0)) ∧ Kept (fun k => k = E) w w' := by
  obtain ⟨i0, hi, hz0, hz1, hz2⟩ := info_parts info_key
  obtain ⟨ao, b, o, c', rfl, hnc0, hao, hc⟩ := hx
  have hmin : Nat.min l.length z.length = l.length := Nat.min_eq_left hl
  have hst := run_storeCells_at Try.prog E 0 23 (kcells l) 0 (kcells z).toArray w hE (by simp [kcells_len]; omega) (kcells_one l)
  have hrow : (List.take (0 + 0) (kcells z).toArray.toList ++ kcells l ++ List.drop (0 + 0 + (kcells l).length) (kcells z).toArray.toList).toArray = (kcells (l ++ z.drop l.length)).toArray := by
    have e : kcells z = kcells (z.take l.length) ++ kcells (z.drop l.length) := by rw [← kcells_app, List.take_append_drop]
    have e2 : List.drop (kcells l).length (kcells z) = kcells (z.drop l.length) := by
      rw [e]
      exact List.drop_left' (by rw [kcells_len, kcells_len, List.length_take, Nat.min_eq_left hl])
    simp only [Nat.add_zero, Nat.zero_add, List.take_zero, List.nil_append, e2, kcells_app]
  rw [hrow] at hst
  have hfirst : (Builtin.firstCells 2 l.length (.slice ao l.length c')).run Try.prog w = .ok (kcells l).toArray w := by
    cases ao with
    | none =>
      obtain rfl : l = [] := List.eq_nil_of_length_eq_zero (by
        rcases Nat.eq_zero_or_pos l.length with h0 | h0
        · exact h0
        · have := hao h0; cases this)
      rfl
    | some a =>
      have := run_loadCells_list (P := Try.prog) w a (kcells l) (fun j v hv => by
        obtain ⟨i, hi, e⟩ := kcells_get hv
        obtain rfl : a = ⟨b, o, none⟩ := by simpa using hao (by omega)
        rw [Addr.add_lit]
        rcases e with ⟨rfl, rfl⟩ | ⟨rfl, rfl⟩
        · exact (hc i hi).1
        · exact (hc i hi).2)
      rw [kcells_len] at this
      exact this
  refine ⟨w.setRow E (kcells (l ++ z.drop l.length)).toArray, ?_, setRow_heap w E _ _ _ _ hE, ⟨rfl, rfl, rfl, by simp, fun k _ hk => setRow_other w E k _ hk⟩⟩
  simp [Builtin.copy_, run_underlying Try.underlying29, Builtin.lenOf, sizeOf, typeInfo, hi, hz1, hmin, hfirst, hst]

/-- copy, at the list of a plain region's operations. -/
theorem list_copy {ops : Array Oper} {rest : List Oper} {op : Oper} {a : Act} {w : World} {Q : Exit → Act → World → Prop}
    (hg : op.guard = none) (s x : Operand) (hop : op.op = Op.call { callee := Callee.builtin Builtin.copy, args := #[s, x], argTypes := #[29, 29] })
    (E c m : Nat) (z l : Ks) (hz : z.length = m) (hs : a.eval s = .slice (some ⟨E, 0, none⟩) m c) (hE : w.heap[E]? = some (.cells (kcells z).toArray 23 (0, 0))) (hx : SrcK (a.eval x) l w) (hl : l.length ≤ z.length)
    (hK : ∀ w', w'.heap[E]? = some (.cells (kcells (l ++ z.drop l.length)).toArray 23 (0, 0)) → Kept (fun k => k = E) w w' → wpList Try.prog ops Q rest (a.put op.dst (goInt l.length)) w') : wpList Try.prog ops Q (op :: rest) a w := by
  refine wpList_plain hg fun _ hK' => ?_
  subst hz
  obtain ⟨w', hr, h2, h3⟩ := run_copy op.type w E c z hE _ l hx hl
  unfold Oper.wp execOp
  simp only [hop, resolve, invoke, builtin, Sem.run_bind, Sem.run_pure, Result.andThen_ok, List.map_toArray, List.map_cons, List.map_nil, hs, hr]
  exact hK' _ _ (hK w' h2 h3)

theorem kcells_set (l : Ks) (i : Nat) (k : Int × Int) : ((kcells l).set (i * 2) (.int .i64 k.1)).set (i * 2 + 1) (.int .i64 k.2) = kcells (l.set i k) := by
  induction l generalizing i with
  | nil => rfl
  | cons a l ih =>
    cases i with
    | zero => rfl
    | succ i =>
      have := ih i
      rw [show (i + 1) * 2 = i * 2 + 1 + 1 by omega]
      simp only [kcells_cons, List.set_cons_succ, this]

/-- A row with j marks behind l, noughts behind them. -/
def fill (l : Ks) (j : Nat) : Ks := l ++ (List.replicate j (77, 0) ++ List.replicate (80 - j) (0, 0))

theorem fill_len (l : Ks) {j : Nat} (h : j ≤ 80) : (fill l j).length = l.length + 80 := by simp [fill]; omega

theorem fill_next (l : Ks) {j : Nat} (h : j < 80) : (fill l j).set (l.length + j) (77, 0) = fill l (j + 1) := by
  unfold fill
  rw [List.set_append_right _ _ (by omega), Nat.add_sub_cancel_left, List.set_append_right _ _ (by simp)]
  simp only [List.length_replicate, Nat.sub_self]
  obtain ⟨m, hm⟩ : ∃ m, 80 - j = m + 1 := ⟨80 - j - 1, by omega⟩
  rw [hm, List.replicate_succ, List.set_cons_zero, show 80 - (j + 1) = m by omega, List.replicate_succ']
  simp

/-- A row of keys in a new block. -/
structure FullIn (E : Nat) (l : Ks) (w0 w : World) : Prop where
  row : w.heap[E]? = some (.cells (kcells l).toArray 23 (0, 0))
  kept : Kept (fun _ => False) w0 w
  new : w0.heap.size ≤ E

theorem FullIn.still {E : Nat} {l : Ks} {w0 w w' : World} (h : FullIn E l w0 w) (hk : Kept (fun _ => False) w w') : FullIn E l w0 w' :=
  ⟨hk.at h.row (fun x => x), h.kept.trans hk (fun _ _ e => e), h.new⟩

theorem FullIn.put {E : Nat} {l l' : Ks} {w0 w : World} (h : FullIn E l w0 w) (i : Nat) (x y : Int) (e : l' = l.set i (x, y)) : FullIn E l' w0 ((w.setCell ⟨E, i * 2, none⟩ (.int .i64 x)).setCell ⟨E, i * 2 + 1, none⟩ (.int .i64 y)) := by
  subst e
  refine ⟨?_, Kept.setCell (Kept.setCell h.kept ?_ _) ?_ _, h.new⟩
  · rw [set_at (set_at h.row _ _), List.setIfInBounds_toArray, List.setIfInBounds_toArray]
    have := kcells_set l i (x, y)
    simp only at this
    rw [this]
  · intro hb; have := h.new; exact absurd hb (by simp; omega)
  · intro hb; have := h.new; exact absurd hb (by simp; omega)

set_option maxHeartbeats 800000 in
theorem roomy_w (x : Value) (l : Ks) (hl : l.length ≤ 1000) (w : World) (h : SrcK x l w) :
    Calls Try.prog 17 #[x, .agg #[.int .i64 77, .int .i64 0]] w fun e w' => ∃ E, e = .returned (.slice (some ⟨E, 0, none⟩) (l.length + 80) (l.length + 80)) ∧ FullIn E (fill l 80) w w' := by
  obtain ⟨B, hB⟩ : ∃ B : Nat, w.heap.size = B := ⟨_, rfl⟩
  obtain ⟨n, hn⟩ : ∃ n : Nat, l.length = n := ⟨_, rfl⟩
  have hmk := make_keys (n + 80) (by omega) (w.alloc (.cells #[.int .i64 77, .int .i64 0] 23))
  rw [show (w.alloc (.cells #[.int .i64 77, .int .i64 0] 23)).heap.size = B + 1 by simp [hB], show (((n + 80 : Nat) : Nat) : Int) = (n : Int) + 80 by omega] at hmk
  obtain ⟨z, hz⟩ : ∃ z : Ks, List.replicate (n + 80) ((0 : Int), (0 : Int)) = z := ⟨_, rfl⟩
  rw [hz] at hmk
  have HX : Hid (SrcK x l ((w.alloc (.cells #[.int .i64 77, .int .i64 0] 23)).alloc (.cells (kcells z).toArray 23))) := h.kept (((Kept.refl _ _).alloc (.cells #[.int .i64 77, .int .i64 0] 23)).alloc (.cells (kcells z).toArray 23))
  have HE : Hid (((w.alloc (.cells #[.int .i64 77, .int .i64 0] 23)).alloc (.cells (kcells z).toArray 23)).heap[B + 1]? = some (.cells (kcells z).toArray 23 (0, 0))) := alloc_at' _ (by simp [hB])
  have HF : Hid (l ++ z.drop l.length = fill l 0) := by
    show l ++ z.drop l.length = fill l 0
    subst hz; simp [fill, hn]
  have HZ : Hid (z.length = n + 80) := by show z.length = n + 80; subst hz; simp
  obtain ⟨ao, b, o, c, hx, -, -, -⟩ := h
  rw [hn] at hx
  subst hx
  have HL : Hid (l.length = n) := hn
  rw [hn] at hl ⊢
  clear hz hn
  obtain ⟨w2, hcp, h2, hk2⟩ := run_copy 3 _ (B + 1) (n + 80) z HE.out _ l HX.out (by rw [HZ.out, HL.out]; omega)
  rw [HZ.out, HL.out] at hcp
  rw [HF.out] at h2
  have HM : Hid (w2.heap[B]? = some (.cells #[.int .i64 77, .int .i64 0] 23 (0, 0)) ∧ FullIn (B + 1) (fill l 0) w w2) :=
    ⟨hk2.at (alloc_off (alloc_at' _ hB)) (by omega), h2, Kept.trans (((Kept.refl _ w).alloc _).alloc _) hk2 (fun k hk e => by omega), by omega⟩
  clear HE HX HF HZ h2 hk2
  go_enter Try.func17, Try.ntmps17
  go_wp2
  clear hcp hmk
  go_loopw [6] (fun s wr => ∃ j : Nat, s = .int .i64 ((n : Int) + (j : Int)) ∧ j ≤ 80 ∧ Hid (wr.heap[B]? = some (.cells #[.int .i64 77, .int .i64 0] 23 (0, 0)) ∧ FullIn (B + 1) (fill l j) w wr)) (fun s _ => (n + 80) - (intOf s).toNat)
  case atStart => exact ⟨0, by simp, by omega, HM.out⟩
  case round =>
    obtain ⟨j, rfl, hj, HR⟩ := hrel
    clear HM
    have m0 := cell_at HR.out.1 (i := 0) rfl
    have m1 := cell_at HR.out.1 (i := 1) rfl
    by_cases hlt : j < 80
    · have hfl := fill_len l hj
      rw [HL.out] at hfl
      obtain ⟨k0, k1⟩ := kcells_at (l := fill l j) (i := n + j) (by omega)
      have c0 := cell_at HR.out.2.row (by simpa using k0)
      have c1 := cell_at HR.out.2.row (by simpa using k1)
      have f0 := free_at HR.out.2.row ((n + j) * 2)
      have f1 := free_at HR.out.2.row ((n + j) * 2 + 1)
      have HN : Hid (FullIn (B + 1) (fill l (j + 1)) w _) := HR.out.2.put (n + j) 77 0 (by rw [← fill_next l hlt, HL.out])
      have HM : Hid (((wr.setCell ⟨B + 1, (n + j) * 2, none⟩ (.int .i64 77)).setCell ⟨B + 1, (n + j) * 2 + 1, none⟩ (.int .i64 0)).heap[B]? = some (.cells #[.int .i64 77, .int .i64 0] 23 (0, 0))) := by
        show _ = _
        rw [set_off _ (by simp), set_off _ (by simp)]; exact HR.out.1
      generalize kd (fill l j) (n + j) = kk at *
      clear HR k0 k1 hfl
      have t1 : (n : Int) + (j : Int) < (n : Int) + 80 := by omega
      go_wp2
      refine ⟨⟨j + 1, ?_, by omega, HM.out, HN.out⟩, ?_⟩
      · rw [show ((n : Int) + (j : Int) + 1) = (n : Int) + ((j + 1 : Nat) : Int) by omega]
      · simp [intOf]; omega
    · obtain rfl : j = 80 := by omega
      have HF : Hid _ := HR.out.2
      clear HR m0 m1
      go_wp2
      go_ret
      exact ⟨B + 1, rfl, HF.out⟩

theorem fill_mark (l : Ks) {i : Nat} (h : l.length ≤ i) (h' : i < l.length + 80) : kd (fill l 80) i = (77, 0) := by
  unfold fill kd List.getD
  rw [List.getElem?_append_right h, List.getElem?_append_left (by simp; omega), List.getElem?_replicate, if_pos (by omega)]
  rfl

set_option maxHeartbeats 800000 in
theorem intact_w (E : Nat) (y : Value) (l : Ks) (hl : l.length ≤ 1000) (w : World) (hE : w.heap[E]? = some (.cells (kcells (fill l 80)).toArray 23 (0, 0))) (h : SrcK y l w) :
    Calls Try.prog 19 #[.slice (some ⟨E, 0, none⟩) (l.length + 80) (l.length + 80), y, .agg #[.int .i64 77, .int .i64 0]] w fun e w' => e = .returned (.bool true) ∧ Kept (fun _ => False) w w' := by
  obtain ⟨B, hB⟩ : ∃ B : Nat, w.heap.size = B := ⟨_, rfl⟩
  have hK1 : Kept (fun _ => False) w (w.alloc (.cells #[.int .i64 77, .int .i64 0] 23)) := (Kept.refl _ _).alloc _
  have S := same_w (.slice (some ⟨E, 0, none⟩) l.length (l.length + 80)) y l (by omega) (w.alloc (.cells #[.int .i64 77, .int .i64 0] 23)) (SrcK.row (l' := List.replicate 80 (77, 0)) (hK1.at hE (fun x => x)) (by simp [fill]) _) (h.kept hK1)
  have HE : Hid _ := hK1.at hE (fun x => x)
  have HM : Hid ((w.alloc (.cells #[.int .i64 77, .int .i64 0] 23)).heap[B]? = some (.cells #[.int .i64 77, .int .i64 0] 23 (0, 0))) := alloc_at' _ hB
  have HK1 : Hid _ := hK1
  have HF : Hid (∀ i, l.length ≤ i → i < l.length + 80 → kd (fill l 80) i = (77, 0)) := fun i h1 h2 => fill_mark l h1 h2
  obtain ⟨ao, b, o, c, hy, -, -, -⟩ := h
  obtain ⟨n, hn⟩ : ∃ n : Nat, l.length = n := ⟨_, rfl⟩
  rw [hn] at hy hl S HF ⊢
  subst hy
  have HL : Hid (l.length = n) := hn
  clear hE hK1 hn
  go_enter Try.func19, Try.ntmps19
  go_wp2_with fail
  refine S.mono ?_
  rintro e w1 ⟨rfl, hk1⟩
  clear S
  have HE : Hid _ := hk1.at HE.out (fun x => x)
  have HM : Hid _ := hk1.at HM.out (fun x => x)
  have HK : Hid (Kept (fun _ => False) w w1) := HK1.out.thru hk1
  clear hk1 HK1
  go_wp2
  go_loopw [7] (fun s wr => ∃ i m : Nat, s = .int .i64 i ∧ n ≤ i ∧ i ≤ n + 80 ∧ wr = w1.drewN m) (fun s _ => (n + 80) - (intOf s).toNat)
  case atStart => exact ⟨n, 0, rfl, Nat.le_refl _, by omega, rfl⟩
  case round =>
    obtain ⟨i, m, rfl, hi1, hi2, rfl⟩ := hrel
    by_cases hlt : i < n + 80
    · have t1 : (i : Int) < (n : Int) + 80 := by omega
      have hfl := fill_len l (j := 80) (by omega)
      rw [HL.out] at hfl
      obtain ⟨k0, k1⟩ := kcells_at (l := fill l 80) (i := i) (by omega)
      rw [HF.out i hi1 hlt] at k0 k1
      have c0 := cell_at HE.out (by simpa using k0)
      have c1 := cell_at HE.out (by simpa using k1)
      have m0 := cell_at HM.out (i := 0) rfl
      have m1 := cell_at HM.out (i := 1) rfl
      clear HE HM HF k0 k1 hfl
      go_wp2_with fail
      go_quiet (fail)
      go_wp2
      go_roundw
      case rel => exact ⟨i + 1, _, by go_num, by omega, by omega, rfl⟩
      case measure => simp [intOf]; omega
    · obtain rfl : i = n + 80 := by omega
      clear HE HM HF
      go_wp2
      go_ret
      exact ⟨rfl, HK.out.thru (kept_drewN _ _)⟩
end Go.Proofs.Ytheflmomomknbaa
