/- What the reference's inodes do when they are called: Is, Alloc; no conditions. -/
import Derived.Test.YtghgnapogomnlaaAlloc
import Derived.Test.YtghgnapogomnlaaGameF
import Derived.Deep.CutBlock
namespace Go.Proofs.Ytghgnapogomnlaa
open Go.RowKit
set_option maxRecDepth 100000
set_option linter.unusedSimpArgs false

/-- The reference's view and its store. -/
structure RBoth (q R W p B : Nat) (f : StF) (g : VwF) (w : World) : Prop where
  v : RViewIn q R W p g w
  s : RStoreIn p B f w
  a1 : R ≠ B
  a2 : W ≠ B
def RW (R W : Nat) : Nat → Prop := fun n => n = R ∨ n = W

section
variable {q R W p B : Nat} {f : StF} {g : VwF} {w w' : World}
theorem RBoth.still (h : RBoth q R W p B f g w) (hk : Kept (fun _ => False) w w') : RBoth q R W p B f g w' := { h with v := h.v.still hk, s := h.s.still hk }
theorem RBoth.kept {X : Nat → Prop} (h : RBoth q R W p B f g w) (hk : Kept X w w') (x1 : ¬ X q) (x2 : ¬ X R) (x3 : ¬ X W) (x4 : ¬ X p) (x5 : ¬ X B) : RBoth q R W p B f g w' := { h with v := h.v.kept hk x1 x2 x3, s := h.s.kept hk x4 x5 }
theorem RBoth.lt (h : RBoth q R W p B f g w) : q < w.heap.size ∧ R < w.heap.size ∧ W < w.heap.size ∧ p < w.heap.size ∧ B < w.heap.size := ⟨lt_at h.v.cell, h.v.r.lt, h.v.w.lt, lt_at h.s.cell, h.s.map.lt⟩
end

theorem rg_w {q R W p B : Nat} {f : StF} {g : VwF} {w : World} (h : RBoth q R W p B f g w) (x y : Int) : Calls Try.prog 24 #[.pointer (some ⟨q, 0, none⟩), .agg #[.int .i64 x, .int .i64 y]] w
    fun e w' => e = .returned (vv (vgetF f g (x, y))) ∧ RBoth q R W p B f (vgetT g (x, y)) w' ∧ Kept (RW R W) w w' := by
  refine (rvget_w q R W p B f g x y w h.v h.s h.a1).mono ?_
  rintro e w1 ⟨rfl, hv, hk⟩
  exact ⟨rfl, { h with v := hv, s := h.s.kept hk (fun e => h.v.r.off h.s.cell e) (fun e => h.a1 e.symm) }, hk.mono (fun _ _ e => .inl e)⟩
theorem rp_w {q R W p B : Nat} {f : StF} {g : VwF} {w : World} (h : RBoth q R W p B f g w) (x y : Int) (v : V) : Calls Try.prog 41 #[.pointer (some ⟨q, 0, none⟩), .agg #[.int .i64 x, .int .i64 y], vv v] w
    fun e w' => e = .returned (.tuple #[]) ∧ RBoth q R W p B f (vputT g (x, y) v) w' ∧ Kept (RW R W) w w' := by
  refine (rvput_w q R W p g x y v w h.v).mono ?_
  rintro e w1 ⟨rfl, hv, hk⟩
  exact ⟨rfl, { h with v := hv, s := h.s.kept hk (fun e => h.v.w.off h.s.cell e) (fun e => h.a2 e.symm) }, hk.mono (fun _ _ e => .inr e)⟩

def av (x : V) : Value := .agg ((vc x).toArray.extract 0 16)
theorem field_arr (x : V) (w : World) : (Instr.field 51 (vv x) 0).run Try.prog w = .ok (av x) w := by kernel_rfl
theorem field_str (x : V) (w : World) : (Instr.field 51 (vv x) 1).run Try.prog w = .ok (.string x.s) w := by kernel_rfl
theorem index_n0 (x : V) (w : World) : (Instr.index 49 (av x) (.int .i64 0)).run Try.prog w = .ok (.int .i64 x.n0) w := by kernel_rfl

theorem get_twice {f : StF} {g : VwF} {k : K2} : vgetF f (vgetT g k) k = vgetF f g k ∧ vgetT (vgetT g k) k = vgetT g k := by
  unfold vgetF vgetT
  by_cases h : 0 ≤ plc k
  · simp only [if_pos h]
    constructor
    · rw [note_upd, if_pos rfl]
    · rw [note_upd, if_pos rfl]
      funext j
      unfold upd
      split <;> rfl
  · simp only [if_neg h]
    exact ⟨trivial, trivial⟩

theorem ris_w {q R W p B : Nat} {f : StF} {g : VwF} {w : World} (h : RBoth q R W p B f g w) (i : Int) : Calls Try.prog 23 #[.pointer (some ⟨q, 0, none⟩), .int .i64 i] w
    fun e w' => e = .returned (.bool (isI f g i)) ∧ RBoth q R W p B f (findT g i) w' ∧ Kept (RW R W) w w' := by
  by_cases hr : 1 ≤ i ∧ i < 16
  · have HT : Hid (findT g i = vgetT g (10, i)) := by show _ = _; unfold findT; rw [if_pos hr]
    have HI : Hid (isI f g i = ((vgetF f g (10, i)).n0 != 0)) := by
      show _ = _
      unfold isI findV
      rw [if_pos hr]
      by_cases h0 : (vgetF f g (10, i)).n0 = 0
      · rw [if_pos h0, h0]; rfl
      · rw [if_neg h0]; simp [h0]
    obtain ⟨r1, r2⟩ := hr
    go_enter Try.func23, Try.ntmps23
    go_wp2_with fail
    refine (rkey_w i _).mono ?_
    rintro e w1 ⟨rfl, hk1⟩
    go_wp2_with fail
    refine (rg_w (h.still hk1) 10 i).mono ?_
    rintro e w2 ⟨rfl, hv2, hk2⟩
    have HZ : Hid (RBoth q R W p B f (findT g i) w2 ∧ Kept (RW R W) w w2) := ⟨by rw [HT.out]; exact hv2, (hk1.mono (fun _ _ e => e.elim)).trans hk2 (fun _ _ e => e)⟩
    have hf := field_arr (vgetF f g (10, i)) w2
    have hx := index_n0 (vgetF f g (10, i)) w2
    clear hv2 hk2 hk1 h
    generalize vgetF f g (10, i) = x at *
    go_wp2
    go_ret
    exact ⟨by rw [HI.out]; rfl, HZ.out⟩
  · have HT : Hid (findT g i = g ∧ isI f g i = false) := by
      refine ⟨by unfold findT; rw [if_neg hr], ?_⟩
      unfold isI findV
      rw [if_neg hr]; rfl
    have HZ : Hid (RBoth q R W p B f (findT g i) w ∧ Kept (RW R W) w w) := ⟨by rw [HT.out.1]; exact h, Kept.refl _ _⟩
    clear h
    by_cases r1 : 1 ≤ i
    · have r2 : ¬ i < 16 := by omega
      clear hr
      go_enter Try.func23, Try.ntmps23
      go_wp2
      go_ret
      exact ⟨by rw [HT.out.2]; rfl, HZ.out⟩
    · clear hr
      go_enter Try.func23, Try.ntmps23
      go_wp2
      go_ret
      exact ⟨by rw [HT.out.2]; rfl, HZ.out⟩

set_option maxHeartbeats 2000000 in
theorem ralloc_w {q R W p B : Nat} {f : StF} {g : VwF} {w : World} (h : RBoth q R W p B f g w) (typ : Int) : Calls Try.prog 16 #[.pointer (some ⟨q, 0, none⟩), .int .i64 typ] w
    fun e w' => e = .returned (allocV (allocA f g)) ∧ RBoth q R W p B f (allocT f g typ) w' ∧ Kept (RW R W) w w' := by
  obtain ⟨lq, lR, lW, lp, lB⟩ := h.lt
  obtain ⟨K0, hK0⟩ : ∃ K0 : Nat, w.heap.size = K0 := ⟨_, rfl⟩
  have hkk : ∀ w', Kept (fun _ => False) w w' → Kept (RW R W) w w' := fun w' hk => hk.mono (fun _ _ e => e.elim)
  go_enter Try.func16, Try.ntmps16
  go_wp2_with fail
  obtain ⟨w1, h1⟩ : ∃ w1, w.alloc (.cells #[.int .i64 9, .int .i64 0] 55) = w1 := ⟨_, rfl⟩
  have hk1 : Kept (fun _ => False) w w1 := by subst h1; exact (Kept.refl _ _).alloc _
  have hKy : w1.heap[K0]? = some (.cells #[.int .i64 9, .int .i64 0] 55 (0, 0)) := by subst h1; exact alloc_at' _ hK0
  rw [h1]
  clear h1
  refine (rg_w (h.still hk1) 9 0).mono ?_
  rintro e w2 ⟨rfl, hv2, hk2⟩
  have k2 : Kept (RW R W) w w2 := (hkk _ hk1).trans hk2 (fun _ _ e => e)
  have hKy2 := hk2.at hKy (by unfold RW; omega)
  have HA : Hid (allocA f g = freeN (vgetF f g (9, 0)).n0 ∧ allocT f g typ = if allocA f g < 16 then vputT (vputT (vgetT g (9, 0)) (9, 0) (withN (vgetF f g (9, 0)) (orN (vgetF f g (9, 0)).n0 (allocA f g)))) (10, allocA f g) (numV typ) else vgetT g (9, 0)) := ⟨rfl, rfl⟩
  generalize vgetF f g (9, 0) = x at *
  obtain ⟨F, hF⟩ : ∃ F : Nat, w2.heap.size = F := ⟨_, rfl⟩
  have lF : K0 < F := by have := lt_at hKy2; omega
  have hv3 : RBoth q R W p B f (vgetT g (9, 0)) (w2.alloc (.cells (vc x).toArray 51)) := hv2.still ((Kept.refl _ _).alloc _)
  have k3 : Kept (RW R W) w (w2.alloc (.cells (vc x).toArray 51)) := k2.alloc _
  have hF3 : (w2.alloc (.cells (vc x).toArray 51)).heap[F]? = some (.cells (vc x).toArray 51 (0, 0)) := alloc_at' _ hF
  have hKy3 : (w2.alloc (.cells (vc x).toArray 51)).heap[K0]? = some (.cells #[.int .i64 9, .int .i64 0] 55 (0, 0)) := alloc_off hKy2
  clear h hk1 hk2 hv2 k2 hKy hKy2
  go_wp2_with (first | (refine list_wnew rfl wide_V _ _ rfl F rfl (vc x) rfl _ rfl hF rfl (vc_one _) ?_))
  generalize w2.alloc (.cells (vc x).toArray 51) = w3 at *
  clear hF
  have c0 : w3.cell? ⟨F, 0, none⟩ = some (.int .i64 x.n0) := cell_at hF3 rfl
  go_loopw [8] (fun v wr => ∃ i : Int, v = .int .i64 i ∧ 1 ≤ i ∧ i ≤ 16 ∧ wr = w3 ∧ Hid (∀ j, 1 ≤ j → j < i → hasB x.n0 j = true)) (fun v _ => (16 - intOf v).toNat)
  case atStart => exact ⟨1, rfl, by omega, by omega, rfl, fun j h1 h2 => by omega⟩
  case round =>
    obtain ⟨i, rfl, hi1, hi2, hwr, HB⟩ := hrel
    subst hwr
    by_cases hlt : i < 16
    · have i0 : 0 ≤ i := by omega
      have i64 : i ≤ 64 := by omega
      have hb := and_one (x.n0 / 2 ^ i.toNat)
      cases hbit : hasB x.n0 i with
      | true =>
        have h1 : x.n0 / 2 ^ i.toNat % 2 = 1 := by simpa [hasB] using hbit
        rw [h1] at hb
        have HB2 : Hid (∀ j, 1 ≤ j → j < i + 1 → hasB x.n0 j = true) := fun j h1 h2 => by
          by_cases e : j = i
          · rw [e]; exact hbit
          · exact HB.out j h1 (by omega)
        clear hbit h1
        go_wp2_with fail
        go_roundw
        case rel => exact ⟨i + 1, rfl, by omega, by omega, trivial, HB2.out⟩
        case measure => simp [intOf]; omega
      | false =>
        have h1 : x.n0 / 2 ^ i.toNat % 2 = 0 := by
          have : ¬ x.n0 / 2 ^ i.toNat % 2 = 1 := by simpa [hasB] using hbit
          omega
        rw [h1] at hb
        have HE : Hid (allocA f g = i) := by show _ = _; rw [HA.out.1]; exact freeN_at hi1 hlt HB.out hbit
        have hpw := pw_wrap i0 hlt
        have f0 := free_at hF3 0
        clear hbit h1
        go_wp2_with fail
        go_cut [7] from 25 to 32 (fun v wc => v = .pointer (some ⟨F, 0, none⟩) ∧ Hid (Kept (fun n => n = F) wr wc ∧ wc.heap[F]? = some (.cells (vc (withN x (orN x.n0 i))).toArray 51 (0, 0))))
        case first =>
          go_region
          all_goals
            go_wp2
            go_meet
            case rel => exact And.intro rfl (And.intro (by refine Kept.drew (Kept.setCell (Kept.refl _ _) ?_ _); intro _; rfl) (by show (wr.setCell _ _).heap[F]? = _; rw [set_at hF3]; rfl))
        case rest =>
          obtain ⟨rfl, HC⟩ := hcut
          have hFy := HC.out.2
          have hvw : RBoth q R W p B f (vgetT g (9, 0)) wc := hv3.kept HC.out.1 (by omega) (by omega) (by omega) (by omega) (by omega)
          have hKw : Kept (RW R W) w wc := k3.trans HC.out.1 (fun k h1 h2 => by omega)
          have hKyw := HC.out.1.at hKy3 (show ¬ K0 = F by omega)
          clear hF3 c0 f0 HC k3 hv3 hb hpw HB hKy3
          obtain ⟨y, hy⟩ : ∃ y, withN x (orN x.n0 i) = y := ⟨_, rfl⟩
          rw [hy] at hFy
          have HY : Hid (allocT f g typ = vputT (vputT (vgetT g (9, 0)) (9, 0) y) (10, i) (numV typ)) := by
            show _ = _
            rw [HA.out.2, HE.out, if_pos hlt, hy]
          clear hy HA
          have k0 := cell_at hKyw (i := 0) rfl
          have k1 := cell_at hKyw (i := 1) rfl
          have hr := whole_range hFy
          go_wp2_with (first | (refine list_wload rfl wide_V _ rfl F 0 rfl (vc y) hr rfl ?_))
          refine (rp_w hvw 9 0 y).mono ?_
          rintro e w6 ⟨rfl, hv6, hk6⟩
          have hK6 : Kept (RW R W) w w6 := hKw.trans hk6 (fun _ _ e => e)
          clear hvw hKw hk6 hFy hKyw k0 k1 hr
          obtain ⟨G, hG⟩ : ∃ G : Nat, w6.heap.size = G := ⟨_, rfl⟩
          have lw : w.heap.size ≤ G := by have := hK6.size; omega
          obtain ⟨w7, h7⟩ : ∃ w7, w6.alloc (.cells (vc zeroV).toArray 51) = w7 := ⟨_, rfl⟩
          have b7 : w7.heap[G]? = some (.cells (vc zeroV).toArray 51 (0, 0)) := by subst h7; exact alloc_at' _ hG
          have k7 : Kept (fun _ => False) w6 w7 := by subst h7; exact (Kept.refl _ _).alloc _
          have c0 : w7.cell? ⟨G, 0, none⟩ = some (.int .i64 0) := cell_at b7 rfl
          have f0 := free_at b7 0
          have b8 : (w7.setCell ⟨G, 0, none⟩ (.int .i64 typ)).heap[G]? = some (.cells (vc (numV typ)).toArray 51 (0, 0)) := by rw [set_at b7]; rfl
          have k8 : Kept (fun _ => False) w6 (w7.setCell ⟨G, 0, none⟩ (.int .i64 typ)) := Kept.setCell k7 (fun e => by simp at e; omega) _
          go_wp2_with (first | (refine list_wnew rfl wide_V _ _ rfl G rfl (vc zeroV) rfl _ rfl hG rfl (vc_one _) ?_))
          generalize w7.setCell ⟨G, 0, none⟩ (.int .i64 typ) = w8 at *
          clear c0 f0 b7 k7 h7 hG
          have hv8 := hv6.still k8
          have hK8 := hK6.trans k8 (fun _ _ e => e.elim)
          clear hv6 hK6 k8
          have gR : G ≠ R ∧ G ≠ W := by omega
          have KS : ∀ w', Kept (RW R W) w8 w' → True := fun _ _ => trivial
          have KV : ∀ w', Kept (RW R W) w8 w' → w'.rangeAt G 0 (vc (numV typ)) := fun w' hk' => range_kept (whole_range b8) hk' (by unfold RW; omega)
          refine wp_region_held_drew (S := fun w' => Kept (RW R W) w8 w') (by kernel_rfl) ((Kept.refl _ _).drew) (fun hHeld => ?_)
          refine h_take 0 (some 41) (Op.move (Operand.tmp 0)) 40 ?v1 rfl rfl (by kernel_rfl) (by kernel_rfl) (by kernel_rfl) (fun _ _ _ h => h) ?hy1 hHeld ?_
          case hy1 => (intro _ _ _ w hSw; have hcs := KS _ hSw; go_simp; try with_reducible rfl)
          simp only [Act.put, List.setIfInBounds_toArray, List.set_cons_zero, List.set_cons_succ]
          refine h_take 1 (some 42) (Op.move (Operand.tmp 8)) 3 ?v2 rfl rfl (by kernel_rfl) (by kernel_rfl) (by kernel_rfl) (fun _ _ _ h => h) ?hy2 hHeld ?_
          case hy2 => (intro _ _ _ w hSw; have hcs := KS _ hSw; go_simp; try with_reducible rfl)
          simp only [Act.put, List.setIfInBounds_toArray, List.set_cons_zero, List.set_cons_succ]
          refine h_take 3 (some 44) (Op.load 51 (Operand.tmp 9)) 51 (vv (numV typ)) rfl rfl (by kernel_rfl) (by kernel_rfl) (by kernel_rfl) (fun _ _ _ h => h) (fun _ _ _ w hSw => exec_load rfl (load_wide wide_V (KV w hSw) rfl)) hHeld ?_
          simp only [Act.put, List.setIfInBounds_toArray, List.set_cons_zero, List.set_cons_succ]
          refine h_step 2 (some 43) (Op.call { callee := Callee.value (Operand.func 42), args := #[Operand.tmp 42], argTypes := #[3] }) 55 rfl rfl (by kernel_rfl) (fun _ _ _ K hK => ?_)
          go_simp
          refine (rkey_w i _).mono ?_
          rintro e w9 ⟨rfl, hk9⟩
          replace hk9 : Kept (fun _ => False) w8 w9 := (Kept.refl _ w8).drew.thru hk9
          go_wp2_with fail
          refine hK.out _ _ (hk9.mono (fun _ _ e => e.elim)) (fun hHeld => ?_)
          clear hK K
          try simp only [Act.put, List.setIfInBounds_toArray, List.set_cons_zero, List.set_cons_succ]
          refine h_step 4 (some 45) (Op.call { callee := Callee.value (Operand.func 41), args := #[Operand.tmp 41, Operand.tmp 43, Operand.tmp 44], argTypes := #[40, 55, 51] }) 0 rfl rfl (by kernel_rfl) (fun _ _ _ K hK => ?_)
          go_simp
          refine (rp_w (hv8.still hk9) 10 i (numV typ)).mono ?_
          rintro e wz ⟨rfl, hvz, hkz⟩
          replace hkz : Kept (RW R W) w8 wz := (hk9.mono (fun _ _ e => e.elim)).trans hkz (fun _ _ e => e)
          go_wp2_with fail
          refine hK.out _ _ (hkz) (fun hHeld => ?_)
          clear hK K
          try simp only [Act.put, List.setIfInBounds_toArray, List.set_cons_zero, List.set_cons_succ]
          refine wpAnyH_done (by kernel_rfl) ?_ _
          have hKz : Kept (RW R W) w wz := hK8.trans hkz (fun _ _ e => e)
          have HZ : Hid (RBoth q R W p B f (allocT f g typ) wz) := by show RBoth _ _ _ _ _ _ _ _; rw [HY.out]; exact hvz
          have HR : Hid (allocV (allocA f g) = .tuple #[.int .i64 i, .bool true]) := by
            show _ = _
            rw [HE.out]; unfold allocV; rw [if_pos hlt]; simp [hlt]
          clear hHeld KS KV hk9 hv8 hK8 hkz hvz b8 HE
          go_wp2_with fail
          exact bodyPost_ret (v := .tuple #[.int .i64 i, .bool true]) (by simp [results, Try.results16, go_sem]) rfl ⟨by rw [HR.out], HZ.out, hKz⟩
    · obtain rfl : i = 16 := by omega
      have HE : Hid (allocA f g = 16) := by show _ = _; rw [HA.out.1]; exact freeN_none HB.out
      have HR : Hid (allocV (allocA f g) = .tuple #[.int .i64 0, .bool false]) := by show _ = _; rw [HE.out]; rfl
      have HZ : Hid (RBoth q R W p B f (allocT f g typ) wr ∧ Kept (RW R W) w wr) := by
        refine ⟨?_, k3⟩
        rw [HA.out.2, HE.out]
        exact hv3
      clear HA HE HB k3 hv3
      go_wp2_with fail
      exact bodyPost_ret (v := .tuple #[.int .i64 0, .bool false]) (by simp [results, Try.results16, go_sem]) rfl ⟨by rw [HR.out], HZ.out⟩
end Go.Proofs.Ytghgnapogomnlaa
