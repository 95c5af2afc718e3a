/- What Change does when it is called; no conditions. -/
import Derived.Test.YtghgnapogomnlaaAlloc
namespace Go.Proofs.Ytghgnapogomnlaa
open Go.RowKit
set_option maxRecDepth 100000
set_option linter.unusedSimpArgs false

def chgV (x : V) (a b : Int) : V := { x with n1 := wrap64 (x.n1 + a), n2 := wrap64 (x.n2 + b) }
/-- What is left when inode i goes. -/
def goneT (f : StF) (g : VwF) (i : Int) : VwF := vputT (vgetT (vputT g (10, i) zeroV) (9, 0)) (9, 0) (withN (vgetF f (vputT g (10, i) zeroV) (9, 0)) (clrN (vgetF f (vputT g (10, i) zeroV) (9, 0)).n0 i))
def changeT (f : StF) (g : VwF) (i a b : Int) : VwF :=
  if isI f g i = true then (if 0 < (chgV (findV f g i) a b).n1 ∨ 0 < (chgV (findV f g i) a b).n2 then vputT (findT g i) (10, i) (chgV (findV f g i) a b) else goneT f (findT g i) i) else findT g i

theorem is_range {f : StF} {g : VwF} {i : Int} (h : isI f g i = true) : 1 ≤ i ∧ i < 16 := by
  unfold isI findV at h
  split at h
  · assumption
  · simp [zeroV] at h

set_option maxHeartbeats 1000000 in
theorem change_w (q N p B : Nat) (f : StF) (g : VwF) (i a b : Int) (w : World) (h : ViewIn q N p g w) (hs : StoreIn p B f w) (hNB : N ≠ B) : Calls Try.prog 13 #[.pointer (some ⟨q, 0, none⟩), .int .i64 i, .int .i64 a, .int .i64 b] w
    fun e w' => e = .returned (.bool (isI f g i)) ∧ ViewIn q N p (changeT f g i a b) w' ∧ Kept (fun n => n = N) w w' := by
  have hN : N < w.heap.size := h.map.lt
  have hq : q < w.heap.size := lt_at h.cell
  have hp : p < w.heap.size := lt_at hs.cell
  have hB : B < w.heap.size := hs.map.lt
  have hpN : p ≠ N := h.map.off hs.cell
  have hsk : ∀ w', Kept (fun n => n = N) w w' → StoreIn p B f w' := fun w' hk => hs.kept hk hpN (fun e => hNB e.symm)
  go_enter Try.func13, Try.ntmps13
  go_wp2_with fail
  refine (find_w q N p B f g i w h hs hNB).mono ?_
  rintro e w1 ⟨rfl, hv1, hk1⟩
  obtain ⟨F, hF⟩ : ∃ F : Nat, w1.heap.size = F := ⟨_, rfl⟩
  have lF : w.heap.size ≤ F := by have := hk1.size; omega
  obtain ⟨x, hx⟩ : ∃ x, findV f g i = x := ⟨_, rfl⟩
  have HT : Hid (changeT f g i a b = if isI f g i = true then (if 0 < (chgV x a b).n1 ∨ 0 < (chgV x a b).n2 then vputT (findT g i) (10, i) (chgV x a b) else goneT f (findT g i) i) else findT g i) := by show _ = _; unfold changeT; rw [hx]
  have hr := is_range (f := f) (g := g) (i := i)
  rw [hx]
  clear hx h hs
  obtain ⟨ib, hib⟩ : ∃ ib, isI f g i = ib := ⟨_, rfl⟩
  have HI : Hid (isI f g i = ib) := hib
  rw [hib] at HT hr ⊢
  clear hib
  cases ib with
  | false =>
    have hv2 : ViewIn q N p (findT g i) (w1.alloc (.cells (vc x).toArray 51)) := hv1.still ((Kept.refl _ _).alloc _)
    have HZ : Hid (ViewIn q N p (changeT f g i a b) (w1.alloc (.cells (vc x).toArray 51))) := by show ViewIn _ _ _ _ _; rw [HT.out, if_neg (by simp)]; exact hv2
    have hK : Kept (fun n => n = N) w (w1.alloc (.cells (vc x).toArray 51)) := hk1.alloc _
    clear HT hr hv2 hv1
    go_wp2_with (first | (refine list_wnew rfl wide_V _ _ rfl F rfl (vc x) rfl _ rfl hF rfl (vc_one _) ?_))
    exact bodyPost_ret (v := .bool false) (by simp [results, Try.results13, go_sem]) rfl ⟨by rw [HI.out], HZ.out, hK⟩
  | true =>
    obtain ⟨hi1, hi2⟩ := hr rfl
    have HT1 : Hid (changeT f g i a b = if 0 < (chgV x a b).n1 ∨ 0 < (chgV x a b).n2 then vputT (findT g i) (10, i) (chgV x a b) else goneT f (findT g i) i) := by show _ = _; rw [HT.out, if_pos rfl]
    clear HT
    clear hr
    have hb1 : (w1.alloc (.cells (vc x).toArray 51)).heap[F]? = some (.cells (vc x).toArray 51 (0, 0)) := alloc_at' _ hF
    obtain ⟨w2, h2⟩ : ∃ w2, w1.alloc (.cells (vc x).toArray 51) = w2 := ⟨_, rfl⟩
    have k2 : Kept (fun n => n = N) w w2 := by subst h2; exact hk1.alloc _
    have k12 : Kept (fun _ => False) w1 w2 := by subst h2; exact (Kept.refl _ _).alloc _
    rw [h2] at hb1
    obtain ⟨y1, hy1⟩ : ∃ y1, wrap64 (x.n1 + a) = y1 := ⟨_, rfl⟩
    obtain ⟨y2, hy2⟩ : ∃ y2, wrap64 (x.n2 + b) = y2 := ⟨_, rfl⟩
    obtain ⟨y, hy⟩ : ∃ y, chgV x a b = y := ⟨_, rfl⟩
    have hyy : y = { x with n1 := y1, n2 := y2 } := by rw [← hy, ← hy1, ← hy2]; rfl
    have hyn1 : y.n1 = y1 := by rw [hyy]
    have hyn2 : y.n2 = y2 := by rw [hyy]
    have c1 : w2.cell? ⟨F, 1, none⟩ = some (.int .i64 x.n1) := cell_at hb1 rfl
    have f1 := free_at hb1 1
    have hb2 := set_at hb1 1 (.int .i64 y1)
    have c2 : (w2.setCell ⟨F, 1, none⟩ (.int .i64 y1)).cell? ⟨F, 2, none⟩ = some (.int .i64 x.n2) := cell_at hb2 rfl
    have f2 := free_at hb2 2
    have hb4 : ((w2.setCell ⟨F, 1, none⟩ (.int .i64 y1)).setCell ⟨F, 2, none⟩ (.int .i64 y2)).heap[F]? = some (.cells (vc y).toArray 51 (0, 0)) := by rw [set_at hb2, hyy]; rfl
    have hk24 : Kept (fun n => n = F) w2 ((w2.setCell ⟨F, 1, none⟩ (.int .i64 y1)).setCell ⟨F, 2, none⟩ (.int .i64 y2)) := by
      refine Kept.setCell (Kept.setCell (Kept.refl _ _) ?_ _) ?_ _ <;> (intro _; rfl)
    have e1 : ((w2.setCell ⟨F, 1, none⟩ (.int .i64 y1)).setCell ⟨F, 2, none⟩ (.int .i64 y2)).cell? ⟨F, 1, none⟩ = some (.int .i64 y1) := by have := cell_at hb4 (i := 1) (v := .int .i64 y.n1) rfl; rwa [hyn1] at this
    have e2 : ((w2.setCell ⟨F, 1, none⟩ (.int .i64 y1)).setCell ⟨F, 2, none⟩ (.int .i64 y2)).cell? ⟨F, 2, none⟩ = some (.int .i64 y2) := by have := cell_at hb4 (i := 2) (v := .int .i64 y.n2) rfl; rwa [hyn2] at this
    have k4 : Kept (fun n => n = N) w ((w2.setCell ⟨F, 1, none⟩ (.int .i64 y1)).setCell ⟨F, 2, none⟩ (.int .i64 y2)) := k2.trans hk24 (fun k h1 h2 => by omega)
    have hv4 : ViewIn q N p (findT g i) ((w2.setCell ⟨F, 1, none⟩ (.int .i64 y1)).setCell ⟨F, 2, none⟩ (.int .i64 y2)) := (hv1.still k12).kept hk24 (by omega) (by omega)
    clear hb1 hb2 k12 hyy
    by_cases p1 : 0 < y1
    · have HS : Hid (0 < y.n1 ∨ 0 < y.n2) := .inl (by omega)
      clear hyn1 hyn2
      go_wp2_with (first | (refine list_wnew rfl wide_V _ _ rfl F rfl (vc x) rfl _ rfl hF rfl (vc_one _) ?_))
      clear f1 f2 c1 c2 e1 e2
      generalize (w2.setCell ⟨F, 1, none⟩ (.int .i64 y1)).setCell ⟨F, 2, none⟩ (.int .i64 y2) = w4 at *
      have KS : ∀ w', Kept (fun n => n = N) w4 w' → True := fun _ _ => trivial
      have KV : ∀ w', Kept (fun n => n = N) w4 w' → w'.rangeAt F 0 (vc y) := fun w' hk' => range_kept (whole_range hb4) hk' (by omega)
      refine wp_region_held_drew (S := fun w' => Kept (fun n => n = N) w4 w') (by kernel_rfl) ((Kept.refl _ _).drew) (fun hHeld => ?_)
      refine h_take 0 (some 44) (Op.move (Operand.tmp 0)) 24 ?v1 rfl rfl (by kernel_rfl) (by kernel_rfl) (by kernel_rfl) (fun _ _ _ h => h) ?hy1 hHeld ?_
      case hy1 => (intro _ _ _ w hSw; have hcs := KS _ hSw; go_simp; try with_reducible rfl)
      simp only [Act.put, List.setIfInBounds_toArray, List.set_cons_zero, List.set_cons_succ]
      refine h_take 1 (some 45) (Op.move (Operand.tmp 1)) 3 ?v2 rfl rfl (by kernel_rfl) (by kernel_rfl) (by kernel_rfl) (fun _ _ _ h => h) ?hy2 hHeld ?_
      case hy2 => (intro _ _ _ w hSw; have hcs := KS _ hSw; go_simp; try with_reducible rfl)
      simp only [Act.put, List.setIfInBounds_toArray, List.set_cons_zero, List.set_cons_succ]
      refine h_take 3 (some 47) (Op.load 51 (Operand.tmp 9)) 51 (vv y) rfl rfl (by kernel_rfl) (by kernel_rfl) (by kernel_rfl) (fun _ _ _ h => h) (fun _ _ _ w hSw => exec_load rfl (load_wide wide_V (KV w hSw) rfl)) hHeld ?_
      simp only [Act.put, List.setIfInBounds_toArray, List.set_cons_zero, List.set_cons_succ]
      refine h_step 2 (some 46) (Op.call { callee := Callee.value (Operand.func 34), args := #[Operand.tmp 45], argTypes := #[3] }) 55 rfl rfl (by kernel_rfl) (fun _ _ _ K hK => ?_)
      go_simp
      refine (object_w i _).mono ?_
      rintro e w5 ⟨rfl, hk5⟩
      replace hk5 : Kept (fun _ => False) w4 w5 := (Kept.refl _ w4).drew.thru hk5
      go_wp2_with fail
      refine hK.out _ _ (hk5.mono (fun _ _ e => e.elim)) (fun hHeld => ?_)
      clear hK K
      try simp only [Act.put, List.setIfInBounds_toArray, List.set_cons_zero, List.set_cons_succ]
      refine h_step 4 (some 48) (Op.call { callee := Callee.value (Operand.func 33), args := #[Operand.tmp 44, Operand.tmp 46, Operand.tmp 47], argTypes := #[24, 55, 51] }) 0 rfl rfl (by kernel_rfl) (fun _ _ _ K hK => ?_)
      go_simp
      refine (vput_w q N p (findT g i) 10 i y w5 (hv4.still hk5)).mono ?_
      rintro e w6 ⟨rfl, hv6, hk6⟩
      replace hk6 : Kept (fun n => n = N) w4 w6 := (hk5.mono (fun _ _ e => e.elim)).trans hk6 (fun _ _ e => e)
      go_wp2_with fail
      refine hK.out _ _ (hk6) (fun hHeld => ?_)
      clear hK K
      try simp only [Act.put, List.setIfInBounds_toArray, List.set_cons_zero, List.set_cons_succ]
      refine wpAnyH_done (by kernel_rfl) ?_ _
      have hK6 : Kept (fun n => n = N) w w6 := k4.trans hk6 (fun _ _ e => e)
      have HZ : Hid (ViewIn q N p (changeT f g i a b) w6) := by show ViewIn _ _ _ _ _; rw [HT1.out, hy, if_pos HS.out]; exact hv6
      clear hHeld KS KV hk5 hv4 hk6 hv6 hb4 k4 hk24
      go_wp2_with fail
      exact bodyPost_ret (v := .bool true) (by simp [results, Try.results13, go_sem]) rfl ⟨by rw [HI.out], HZ.out, hK6⟩
    by_cases p2 : 0 < y2
    · have HS : Hid (0 < y.n1 ∨ 0 < y.n2) := .inr (by omega)
      clear hyn1 hyn2
      go_wp2_with (first | (refine list_wnew rfl wide_V _ _ rfl F rfl (vc x) rfl _ rfl hF rfl (vc_one _) ?_))
      clear f1 f2 c1 c2 e1 e2
      generalize (w2.setCell ⟨F, 1, none⟩ (.int .i64 y1)).setCell ⟨F, 2, none⟩ (.int .i64 y2) = w4 at *
      have KS : ∀ w', Kept (fun n => n = N) w4 w' → True := fun _ _ => trivial
      have KV : ∀ w', Kept (fun n => n = N) w4 w' → w'.rangeAt F 0 (vc y) := fun w' hk' => range_kept (whole_range hb4) hk' (by omega)
      refine wp_region_held_drew (S := fun w' => Kept (fun n => n = N) w4 w') (by kernel_rfl) ((Kept.refl _ _).drew) (fun hHeld => ?_)
      refine h_take 0 (some 44) (Op.move (Operand.tmp 0)) 24 ?v3 rfl rfl (by kernel_rfl) (by kernel_rfl) (by kernel_rfl) (fun _ _ _ h => h) ?hy3 hHeld ?_
      case hy3 => (intro _ _ _ w hSw; have hcs := KS _ hSw; go_simp; try with_reducible rfl)
      simp only [Act.put, List.setIfInBounds_toArray, List.set_cons_zero, List.set_cons_succ]
      refine h_take 1 (some 45) (Op.move (Operand.tmp 1)) 3 ?v4 rfl rfl (by kernel_rfl) (by kernel_rfl) (by kernel_rfl) (fun _ _ _ h => h) ?hy4 hHeld ?_
      case hy4 => (intro _ _ _ w hSw; have hcs := KS _ hSw; go_simp; try with_reducible rfl)
      simp only [Act.put, List.setIfInBounds_toArray, List.set_cons_zero, List.set_cons_succ]
      refine h_take 3 (some 47) (Op.load 51 (Operand.tmp 9)) 51 (vv y) rfl rfl (by kernel_rfl) (by kernel_rfl) (by kernel_rfl) (fun _ _ _ h => h) (fun _ _ _ w hSw => exec_load rfl (load_wide wide_V (KV w hSw) rfl)) hHeld ?_
      simp only [Act.put, List.setIfInBounds_toArray, List.set_cons_zero, List.set_cons_succ]
      refine h_step 2 (some 46) (Op.call { callee := Callee.value (Operand.func 34), args := #[Operand.tmp 45], argTypes := #[3] }) 55 rfl rfl (by kernel_rfl) (fun _ _ _ K hK => ?_)
      go_simp
      refine (object_w i _).mono ?_
      rintro e w5 ⟨rfl, hk5⟩
      replace hk5 : Kept (fun _ => False) w4 w5 := (Kept.refl _ w4).drew.thru hk5
      go_wp2_with fail
      refine hK.out _ _ (hk5.mono (fun _ _ e => e.elim)) (fun hHeld => ?_)
      clear hK K
      try simp only [Act.put, List.setIfInBounds_toArray, List.set_cons_zero, List.set_cons_succ]
      refine h_step 4 (some 48) (Op.call { callee := Callee.value (Operand.func 33), args := #[Operand.tmp 44, Operand.tmp 46, Operand.tmp 47], argTypes := #[24, 55, 51] }) 0 rfl rfl (by kernel_rfl) (fun _ _ _ K hK => ?_)
      go_simp
      refine (vput_w q N p (findT g i) 10 i y w5 (hv4.still hk5)).mono ?_
      rintro e w6 ⟨rfl, hv6, hk6⟩
      replace hk6 : Kept (fun n => n = N) w4 w6 := (hk5.mono (fun _ _ e => e.elim)).trans hk6 (fun _ _ e => e)
      go_wp2_with fail
      refine hK.out _ _ (hk6) (fun hHeld => ?_)
      clear hK K
      try simp only [Act.put, List.setIfInBounds_toArray, List.set_cons_zero, List.set_cons_succ]
      refine wpAnyH_done (by kernel_rfl) ?_ _
      have hK6 : Kept (fun n => n = N) w w6 := k4.trans hk6 (fun _ _ e => e)
      have HZ : Hid (ViewIn q N p (changeT f g i a b) w6) := by show ViewIn _ _ _ _ _; rw [HT1.out, hy, if_pos HS.out]; exact hv6
      clear hHeld KS KV hk5 hv4 hk6 hv6 hb4 k4 hk24
      go_wp2_with fail
      exact bodyPost_ret (v := .bool true) (by simp [results, Try.results13, go_sem]) rfl ⟨by rw [HI.out], HZ.out, hK6⟩
    · have HS : Hid (¬ (0 < y.n1 ∨ 0 < y.n2)) := by show ¬ _; omega
      clear hyn1 hyn2
      go_wp2_with (first | (refine list_wnew rfl wide_V _ _ rfl F rfl (vc x) rfl _ rfl hF rfl (vc_one _) ?_))
      clear f1 f2 c1 c2 e1 e2
      generalize (w2.setCell ⟨F, 1, none⟩ (.int .i64 y1)).setCell ⟨F, 2, none⟩ (.int .i64 y2) = w4 at *
      have HT2 : Hid (changeT f g i a b = goneT f (findT g i) i) := by show _ = _; rw [HT1.out, hy, if_neg HS.out]
      clear HT1 HS hb4 hk24
      refine (object_w i _).mono ?_
      rintro e w5 ⟨rfl, hk5⟩
      go_wp2_with fail
      refine (vput_w q N p (findT g i) 10 i zeroV w5 (hv4.still hk5)).mono ?_
      rintro e w6 ⟨rfl, hv6, hk6⟩
      have K6 : Kept (fun n => n = N) w w6 := (k4.trans hk5 (fun _ _ e => e.elim)).trans hk6 (fun _ _ e => e)
      clear hk5 hk6 hv4 k4
      go_wp2_with fail
      refine (table_w _).mono ?_
      rintro e w7 ⟨rfl, hk7⟩
      go_wp2_with fail
      have K7 := K6.trans hk7 (fun _ _ e => e.elim)
      refine (vget_w q N p B f _ 9 0 w7 (hv6.still hk7) (hsk _ K7) hNB).mono ?_
      rintro e w8 ⟨rfl, hv8, hk8⟩
      have K8 : Kept (fun n => n = N) w w8 := K7.trans hk8 (fun _ _ e => e)
      clear hk7 hk8 hv6 K6 K7
      have HG : Hid (goneT f (findT g i) i = vputT (vgetT (vputT (findT g i) (10, i) zeroV) (9, 0)) (9, 0) (withN (vgetF f (vputT (findT g i) (10, i) zeroV) (9, 0)) (clrN (vgetF f (vputT (findT g i) (10, i) zeroV) (9, 0)).n0 i))) := rfl
      obtain ⟨z, hz⟩ : ∃ z, vgetF f (vputT (findT g i) (10, i) zeroV) (9, 0) = z := ⟨_, rfl⟩
      rw [hz] at HG ⊢
      clear hz
      obtain ⟨G, hG⟩ : ∃ G : Nat, w8.heap.size = G := ⟨_, rfl⟩
      have lG : w.heap.size ≤ G := by have := K8.size; omega
      have hz9 : (w8.alloc (.cells (vc z).toArray 51)).heap[G]? = some (.cells (vc z).toArray 51 (0, 0)) := alloc_at' _ hG
      have hv9 := hv8.still ((Kept.refl _ w8).alloc (.cells (vc z).toArray 51))
      have K9 : Kept (fun n => n = N) w (w8.alloc (.cells (vc z).toArray 51)) := K8.alloc _
      clear hv8 K8
      go_wp2_with (first | (refine list_wnew rfl wide_V _ _ rfl G rfl (vc z) rfl _ rfl hG rfl (vc_one _) ?_))
      generalize w8.alloc (.cells (vc z).toArray 51) = w9 at *
      have c0 : w9.cell? ⟨G, 0, none⟩ = some (.int .i64 z.n0) := cell_at hz9 rfl
      have f0 := free_at hz9 0
      go_wp2_with fail
      simp only [Act.put]
      go_cut [11] from 57 to 64 (fun v wc => v = .pointer (some ⟨G, 0, none⟩) ∧ Hid (Kept (fun n => n = G) w9 wc ∧ wc.heap[G]? = some (.cells (vc (withN z (clrN z.n0 i))).toArray 51 (0, 0))))
      case first =>
        go_region_with (refine (bit_w i _ (by omega) hi2).mono ?_; rintro e wd ⟨rfl, hwd⟩; subst hwd)
        all_goals
          go_wp2
          go_meet
          case rel => exact And.intro rfl (And.intro (by refine Kept.drew (Kept.setCell (Kept.refl _ _) ?_ _); intro _; rfl) (by show (w9.setCell _ _).heap[G]? = _; rw [set_at hz9]; rfl))
      case rest =>
        obtain ⟨rfl, HC⟩ := hcut
        have hFy := HC.out.2
        have hvw : ViewIn q N p _ wc := hv9.kept HC.out.1 (by omega) (by omega)
        have hKw : Kept (fun n => n = N) w wc := K9.trans HC.out.1 (fun k h1 h2 => by omega)
        clear c0 f0 HC K9 hv9 hz9
        obtain ⟨y0, hy0⟩ : ∃ y0, withN z (clrN z.n0 i) = y0 := ⟨_, rfl⟩
        rw [hy0] at hFy HG
        clear hy0
        have KS : ∀ w', Kept (fun n => n = N) wc w' → True := fun _ _ => trivial
        have KV : ∀ w', Kept (fun n => n = N) wc w' → w'.rangeAt G 0 (vc y0) := fun w' hk' => range_kept (whole_range hFy) hk' (by omega)
        go_wp2_with fail
        refine wp_region_held_drew (S := fun w' => Kept (fun n => n = N) wc w') (by kernel_rfl) ((Kept.refl _ _).drew) (fun hHeld => ?_)
        refine h_take 0 (some 65) (Op.move (Operand.tmp 0)) 24 ?v5 rfl rfl (by kernel_rfl) (by kernel_rfl) (by kernel_rfl) (fun _ _ _ h => h) ?hy5 hHeld ?_
        case hy5 => (intro _ _ _ w hSw; have hcs := KS _ hSw; go_simp; try with_reducible rfl)
        simp only [Act.put, List.setIfInBounds_toArray, List.set_cons_zero, List.set_cons_succ]
        refine h_take 2 (some 67) (Op.load 51 (Operand.tmp 11)) 51 (vv y0) rfl rfl (by kernel_rfl) (by kernel_rfl) (by kernel_rfl) (fun _ _ _ h => h) (fun _ _ _ w hSw => exec_load rfl (load_wide wide_V (KV w hSw) rfl)) hHeld ?_
        simp only [Act.put, List.setIfInBounds_toArray, List.set_cons_zero, List.set_cons_succ]
        refine h_step 1 (some 66) (Op.call { callee := Callee.value (Operand.func 31), args := #[], argTypes := #[] }) 55 rfl rfl (by kernel_rfl) (fun _ _ _ K hK => ?_)
        go_simp
        refine (table_w _).mono ?_
        rintro e w5 ⟨rfl, hk5⟩
        replace hk5 : Kept (fun _ => False) wc w5 := (Kept.refl _ wc).drew.thru hk5
        go_wp2_with fail
        refine hK.out _ _ (hk5.mono (fun _ _ e => e.elim)) (fun hHeld => ?_)
        clear hK K
        try simp only [Act.put, List.setIfInBounds_toArray, List.set_cons_zero, List.set_cons_succ]
        refine h_step 3 (some 68) (Op.call { callee := Callee.value (Operand.func 33), args := #[Operand.tmp 65, Operand.tmp 66, Operand.tmp 67], argTypes := #[24, 55, 51] }) 0 rfl rfl (by kernel_rfl) (fun _ _ _ K hK => ?_)
        go_simp
        refine (vput_w q N p _ 9 0 y0 w5 (hvw.still hk5)).mono ?_
        rintro e wz ⟨rfl, hvz, hkz⟩
        replace hkz : Kept (fun n => n = N) wc wz := (hk5.mono (fun _ _ e => e.elim)).trans hkz (fun _ _ e => e)
        go_wp2_with fail
        refine hK.out _ _ (hkz) (fun hHeld => ?_)
        clear hK K
        try simp only [Act.put, List.setIfInBounds_toArray, List.set_cons_zero, List.set_cons_succ]
        refine wpAnyH_done (by kernel_rfl) ?_ _
        have hKz : Kept (fun n => n = N) w wz := hKw.trans hkz (fun _ _ e => e)
        have HZ : Hid (ViewIn q N p (changeT f g i a b) wz) := by show ViewIn _ _ _ _ _; rw [HT2.out, HG.out]; exact hvz
        clear hHeld KS KV hk5 hvw hKw hkz hvz hFy
        go_wp2_with fail
        exact bodyPost_ret (v := .bool true) (by simp [results, Try.results13, go_sem]) rfl ⟨by rw [HI.out], HZ.out, hKz⟩
end Go.Proofs.Ytghgnapogomnlaa
