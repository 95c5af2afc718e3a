
/- What the code's open files do when they are called, second part: Dup, Close; no conditions but lengths. -/
import Derived.Test.YtdgkhfhlbjpaoaaFiA
namespace Go.Proofs.Ytdgkhfhlbjpaoaa
open Go.RowKit
set_option maxRecDepth 100000
set_option linter.unusedSimpArgs false

set_option maxHeartbeats 1000000 in
theorem dup_w (q N p B : Nat) (f : StF) (g : VwF) (i : Int) (w : World) (h : ViewIn q N p g w) (hs : StoreIn p B f w) (hNB : N ≠ B) : Calls Try.prog 13 #[.pointer (some ⟨q, 0, none⟩), .int .i64 i] w
    fun e w' => e = .returned (.bool (isO f g i)) ∧ ViewIn q N p (dupT f g i) w' ∧ Kept (fun n => n = N) w w' := by
  have hN : N < w.heap.size := h.map.lt
  have hq : q < w.heap.size := lt_at h.cell
  have hpN : p ≠ N := h.map.off hs.cell
  have hsk : ∀ w', Kept (fun n => n = N) w w' → StoreIn p B f w' := fun w' hk => hs.kept hk hpN (fun e => hNB e.symm)
  cases hP : isO f g i with
  | false =>
    have HE : Hid (dupT f g i = isOT g i) := dup_no hP
    go_enter Try.func13, Try.ntmps13
    go_wp2_with fail
    refine (fis_w q N p B f g i w h hs hNB).mono ?_
    rintro e w1 ⟨rfl, hv1, hk1⟩
    rw [hP]
    clear h hs
    go_wp2_with fail
    exact bodyPost_ret (v := .bool false) (by simp [results, Try.results13, go_sem]) rfl ⟨rfl, by rw [HE.out]; exact hv1, hk1⟩
  | true =>
    have HT : Hid (dupT f g i = vputT (lkT g i) (6, i) (dup1 (filV f g i))) := by unfold dupT; rw [hP, if_pos rfl]; exact rfl
    have hpv : vgetF f (isOT g i) (6, i) = filV f g i := get_isOT (f := f) (g := g) i (6, i)
    go_enter Try.func13, Try.ntmps13
    go_wp2_with fail
    refine (fis_w q N p B f g i w h hs hNB).mono ?_
    rintro e w1 ⟨rfl, hv1, hk1⟩
    rw [hP]
    clear h hs
    go_wp2_with fail
    refine (fobject_w i _).mono ?_
    rintro e w2 ⟨rfl, hk2⟩
    have K2 : Kept (fun n => n = N) w w2 := hk1.trans hk2 (fun _ _ e => e.elim)
    go_wp2_with fail
    refine (vget_w q N p B f (isOT g i) 6 i w2 (hv1.still hk2) (hsk _ K2) hNB).mono ?_
    rintro e w3 ⟨rfl, hv3, hk3⟩
    rw [hpv]
    clear hpv hk1 hk2 hv1 hP
    generalize filV f g i = x at *
    have K3 : Kept (fun n => n = N) w w3 := K2.trans hk3 (fun _ _ e => e)
    have hv3 : ViewIn q N p (lkT g i) w3 := hv3
    clear K2 hk3
    obtain ⟨F, hF⟩ : ∃ F : Nat, w3.heap.size = F := ⟨_, rfl⟩
    have lF : w.heap.size ≤ F := by have := K3.size; omega
    obtain ⟨w4, h4⟩ : ∃ w4, w3.alloc (.cells (vc x).toArray 51) = w4 := ⟨_, rfl⟩
    have hF4 : w4.heap[F]? = some (.cells (vc x).toArray 51 (0, 0)) := by subst h4; exact alloc_at' _ hF
    have k34 : Kept (fun _ => False) w3 w4 := by subst h4; exact (Kept.refl _ _).alloc _
    have hv4 := hv3.still k34
    have K4 : Kept (fun n => n = N) w w4 := K3.trans k34 (fun _ _ e => e.elim)
    clear hv3 K3 k34
    have c1 : w4.cell? ⟨F, 1, none⟩ = some (.int .i64 x.n1) := cell_at hF4 rfl
    have f1 := free_at hF4 1
    have hFy : (w4.setCell ⟨F, 1, none⟩ (.int .i64 (wrap64 (x.n1 + 1)))).heap[F]? = some (.cells (vc (dup1 x)).toArray 51 (0, 0)) := by rw [set_at hF4]; rfl
    have k6 : Kept (fun n => n = F) w4 (w4.setCell ⟨F, 1, none⟩ (.int .i64 (wrap64 (x.n1 + 1)))) := by refine Kept.setCell (Kept.refl _ _) ?_ _; intro _; rfl
    have hv6 := hv4.kept k6 (by omega) (by omega)
    have K6 := K4.trans k6 (fun k h1 h2 => by omega)
    clear hF4 hv4 K4 k6
    go_wp2_with (first | (refine list_wnew rfl wide_V _ _ rfl F rfl (vc x) rfl _ rfl hF rfl (vc_one _) ?_))
    generalize w4.setCell ⟨F, 1, none⟩ (.int .i64 (wrap64 (x.n1 + 1))) = w6 at *
    clear c1 f1 hF h4
    generalize dup1 x = y at *
    have KS : ∀ w', Kept (fun n => n = N) w6 w' → True := fun _ _ => trivial
    have KV : ∀ w', Kept (fun n => n = N) w6 w' → w'.rangeAt F 0 (vc y) := fun w' hk' => range_kept (whole_range hFy) hk' (by omega)
    refine wp_region_held_drew (S := fun w' => Kept (fun n => n = N) w6 w') (by kernel_rfl) ((Kept.refl _ _).drew) (fun hHeld => ?_)
    refine h_take 0 (some 20) (Op.move (Operand.tmp 0)) 25 ?v1 rfl rfl (by kernel_rfl) (by kernel_rfl) (by kernel_rfl) (fun _ _ _ h => h) ?hy1 hHeld ?_
    case hy1 => (intro _ _ _ w hSw; have hcs := KS _ hSw; go_simp; try with_reducible rfl)
    simp only [Act.put, List.setIfInBounds_toArray, List.set_cons_zero, List.set_cons_succ]
    refine h_take 1 (some 21) (Op.move (Operand.tmp 1)) 3 ?v2 rfl rfl (by kernel_rfl) (by kernel_rfl) (by kernel_rfl) (fun _ _ _ h => h) ?hy2 hHeld ?_
    case hy2 => (intro _ _ _ w hSw; have hcs := KS _ hSw; go_simp; try with_reducible rfl)
    simp only [Act.put, List.setIfInBounds_toArray, List.set_cons_zero, List.set_cons_succ]
    refine h_take 3 (some 23) (Op.load 51 (Operand.tmp 5)) 51 (vv y) rfl rfl (by kernel_rfl) (by kernel_rfl) (by kernel_rfl) (fun _ _ _ h => h) (fun _ _ _ w hSw => exec_load rfl (load_wide wide_V (KV w hSw) rfl)) hHeld ?_
    simp only [Act.put, List.setIfInBounds_toArray, List.set_cons_zero, List.set_cons_succ]
    refine h_step 2 (some 22) (Op.call { callee := Callee.value (Operand.func 37), args := #[Operand.tmp 21], argTypes := #[3] }) 54 rfl rfl (by kernel_rfl) (fun _ _ _ K hK => ?_)
    go_simp
    refine (fobject_w i _).mono ?_
    rintro e w7 ⟨rfl, hk7⟩
    replace hk7 : Kept (fun _ => False) w6 w7 := (Kept.refl _ w6).drew.thru hk7
    go_wp2_with fail
    refine hK.out _ _ (hk7.mono (fun _ _ e => e.elim)) (fun hHeld => ?_)
    clear hK K
    try simp only [Act.put, List.setIfInBounds_toArray, List.set_cons_zero, List.set_cons_succ]
    refine h_step 4 (some 24) (Op.call { callee := Callee.value (Operand.func 24), args := #[Operand.tmp 20, Operand.tmp 22, Operand.tmp 23], argTypes := #[25, 54, 51] }) 0 rfl rfl (by kernel_rfl) (fun _ _ _ K hK => ?_)
    go_simp
    refine (vput_w q N p (lkT g i) 6 i y w7 (hv6.still hk7)).mono ?_
    rintro e w8 ⟨rfl, hv8, hk8⟩
    replace hk8 : Kept (fun n => n = N) w6 w8 := (hk7.mono (fun _ _ e => e.elim)).trans hk8 (fun _ _ e => e)
    go_wp2_with fail
    refine hK.out _ _ (hk8) (fun hHeld => ?_)
    clear hK K
    try simp only [Act.put, List.setIfInBounds_toArray, List.set_cons_zero, List.set_cons_succ]
    refine wpAnyH_done (by kernel_rfl) ?_ _
    have HZ : Hid (ViewIn q N p (dupT f g i) w8 ∧ Kept (fun n => n = N) w w8) := ⟨by rw [HT.out]; exact hv8, K6.trans hk8 (fun _ _ e => e)⟩
    clear hHeld KS KV hk7 hv6 hk8 hv8 hFy K6
    go_wp2_with fail
    exact bodyPost_ret (v := .bool true) (by simp [results, Try.results13, go_sem]) rfl ⟨rfl, HZ.out⟩

/-- An operation that runs to its end, said by its run. -/
theorem list_exec {ops : Array Oper} {rest : List Oper} {o : Oper} {a : Act} {w w' : World} {Q : Exit → Act → World → Prop} {v : Value} {r : Option Tmp} (hg : o.guard = none) (hr : o.dst = r)
    (he : (execOp a.eval o).run Try.prog w = .ok (.value v) w') (h : wpList Try.prog ops Q rest (a.put r v) w') : wpList Try.prog ops Q (o :: rest) a w := by
  subst hr
  refine wpList_plain hg fun K hK => ?_
  unfold Oper.wp
  rw [he]
  exact hK _ _ h
/-- A parameter that has an address. -/
theorem exec_box {ev : Operand → Value} {w : World} {F : Nat} {d : Option Tmp} {t p af g} {ty : TypeId} {x : Operand} {cs : Array Value} (hF : w.heap.size = F) (hx : (ev x).cells = cs) :
    (execOp ev ⟨d, .box ty x, t, p, af, g⟩).run Try.prog w = .ok (.value (.pointer (some ⟨F, 0, none⟩))) (w.alloc (.cells cs ty)) := by
  subst hF; subst hx
  simp [execOp, Instr.box, newVar, newRow]

set_option maxHeartbeats 1000000 in
theorem rel_w (q N p B : Nat) (f : StF) (g : VwF) (x : V) (w : World) (h : ViewIn q N p g w) (hs : StoreIn p B f w) (hNB : N ≠ B) : Calls Try.prog 40 #[.pointer (some ⟨q, 0, none⟩), vv x] w
    fun e w' => e = .returned (.tuple #[]) ∧ ViewIn q N p (relT f g x) w' ∧ Kept (fun n => n = N) w w' := by
  have hN : N < w.heap.size := h.map.lt
  obtain ⟨F, hF⟩ : ∃ F : Nat, w.heap.size = F := ⟨_, rfl⟩
  obtain ⟨w1, h1⟩ : ∃ w1, w.alloc (.cells (vc x).toArray 51) = w1 := ⟨_, rfl⟩
  have hF4 : w1.heap[F]? = some (.cells (vc x).toArray 51 (0, 0)) := by subst h1; exact alloc_at' _ hF
  have hk1 : Kept (fun _ => False) w w1 := by subst h1; exact (Kept.refl _ _).alloc _
  have c0 : w1.cell? ⟨F, 0, none⟩ = some (.int .i64 x.n0) := cell_at hF4 rfl
  have c2 : w1.cell? ⟨F, 2, none⟩ = some (.int .i64 x.n2) := cell_at hF4 rfl
  have hv1 := h.still hk1
  have hs1 := hs.still hk1
  have K1 : Kept (fun n => n = N) w w1 := hk1.mono (fun _ _ e => e.elim)
  clear h hs hF4
  by_cases q1 : x.n0 = 1
  · have HR : Hid (relT f g x = changeT f g x.n2 0 (-1)) := by show _ = _; unfold relT; rw [if_pos q1]
    have t1 : (x.n0 == 1) = true := by simpa using q1
    clear q1
    go_enter Try.func40, Try.ntmps40
    go_wp2_with (first | (refine list_exec rfl rfl (exec_box (cs := (vc x).toArray) hF rfl) ?_))
    refine (change_w q N p B f g x.n2 0 (-1) w1 hv1 hs1 hNB).mono ?_
    rintro e w2 ⟨rfl, hv2, hk2⟩
    have HZ : Hid (ViewIn q N p (relT f g x) w2 ∧ Kept (fun n => n = N) w w2) := ⟨by rw [HR.out]; exact hv2, K1.trans hk2 (fun _ _ e => e)⟩
    clear hv2 hk2 hv1 hs1
    go_wp2_with fail
    go_end0
    exact ⟨rfl, HZ.out⟩
  have t1 : (x.n0 == 1) = false := by simpa using q1
  by_cases q2 : x.n0 = 2
  · have HR : Hid (relT f g x = endT f g x.n2 false (-1)) := by show _ = _; unfold relT; rw [if_neg q1, if_pos q2]
    have t2 : (x.n0 == 2) = true := by simpa using q2
    clear q1 q2
    go_enter Try.func40, Try.ntmps40
    go_wp2_with (first | (refine list_exec rfl rfl (exec_box (cs := (vc x).toArray) hF rfl) ?_))
    refine (pend_w q N p B f g x.n2 false (-1) w1 hv1 hs1 hNB).mono ?_
    rintro e w2 ⟨rfl, hv2, hk2⟩
    have HZ : Hid (ViewIn q N p (relT f g x) w2 ∧ Kept (fun n => n = N) w w2) := ⟨by rw [HR.out]; exact hv2, K1.trans hk2 (fun _ _ e => e)⟩
    clear hv2 hk2 hv1 hs1
    go_wp2_with fail
    go_end0
    exact ⟨rfl, HZ.out⟩
  have t2 : (x.n0 == 2) = false := by simpa using q2
  by_cases q3 : x.n0 = 3
  · have HR : Hid (relT f g x = endT f g x.n2 true (-1)) := by show _ = _; unfold relT; rw [if_neg q1, if_neg q2, if_pos q3]
    have t3 : (x.n0 == 3) = true := by simpa using q3
    clear q1 q2 q3
    go_enter Try.func40, Try.ntmps40
    go_wp2_with (first | (refine list_exec rfl rfl (exec_box (cs := (vc x).toArray) hF rfl) ?_))
    refine (pend_w q N p B f g x.n2 true (-1) w1 hv1 hs1 hNB).mono ?_
    rintro e w2 ⟨rfl, hv2, hk2⟩
    have HZ : Hid (ViewIn q N p (relT f g x) w2 ∧ Kept (fun n => n = N) w w2) := ⟨by rw [HR.out]; exact hv2, K1.trans hk2 (fun _ _ e => e)⟩
    clear hv2 hk2 hv1 hs1
    go_wp2_with fail
    go_end0
    exact ⟨rfl, HZ.out⟩
  · have HR : Hid (relT f g x = g) := by show _ = _; unfold relT; rw [if_neg q1, if_neg q2, if_neg q3]
    have t3 : (x.n0 == 3) = false := by simpa using q3
    clear q1 q2 q3
    have HZ : Hid (ViewIn q N p (relT f g x) w1 ∧ Kept (fun n => n = N) w w1) := ⟨by rw [HR.out]; exact hv1, K1⟩
    clear hv1 hs1
    go_enter Try.func40, Try.ntmps40
    go_wp2_with (first | (refine list_exec rfl rfl (exec_box (cs := (vc x).toArray) hF rfl) ?_))
    go_end0
    exact ⟨rfl, HZ.out⟩

set_option maxHeartbeats 1000000 in
theorem cls_w (q N p B : Nat) (f : StF) (g : VwF) (i : Int) (w : World) (h : ViewIn q N p g w) (hs : StoreIn p B f w) (hNB : N ≠ B) : Calls Try.prog 14 #[.pointer (some ⟨q, 0, none⟩), .int .i64 i] w
    fun e w' => e = .returned (.bool (isO f g i)) ∧ ViewIn q N p (clsT f g i) w' ∧ Kept (fun n => n = N) w w' := by
  have hN : N < w.heap.size := h.map.lt
  have hq : q < w.heap.size := lt_at h.cell
  have hpN : p ≠ N := h.map.off hs.cell
  have hsk : ∀ w', Kept (fun n => n = N) w w' → StoreIn p B f w' := fun w' hk => hs.kept hk hpN (fun e => hNB e.symm)
  cases hP : isO f g i with
  | false =>
    have HE : Hid (clsT f g i = isOT g i) := cls_no hP
    go_enter Try.func14, Try.ntmps14
    go_wp2_with fail
    refine (fis_w q N p B f g i w h hs hNB).mono ?_
    rintro e w1 ⟨rfl, hv1, hk1⟩
    rw [hP]
    clear h hs
    go_wp2_with fail
    exact bodyPost_ret (v := .bool false) (by simp [results, Try.results14, go_sem]) rfl ⟨rfl, by rw [HE.out]; exact hv1, hk1⟩
  | true =>
    obtain ⟨hi1, hi2⟩ := isO_range hP
    have HT : Hid (clsT f g i = if 0 < (cls1 (filV f g i)).n1 then vputT (lkT g i) (6, i) (cls1 (filV f g i)) else relT f (shutT f (lkT g i) i) (cls1 (filV f g i))) := by unfold clsT; rw [hP, if_pos rfl]; exact rfl
    have hpv : vgetF f (isOT g i) (6, i) = filV f g i := get_isOT (f := f) (g := g) i (6, i)
    go_enter Try.func14, Try.ntmps14
    go_wp2_with fail
    refine (fis_w q N p B f g i w h hs hNB).mono ?_
    rintro e w1 ⟨rfl, hv1, hk1⟩
    rw [hP]
    clear h hs
    go_wp2_with fail
    refine (fobject_w i _).mono ?_
    rintro e w2 ⟨rfl, hk2⟩
    have K2 : Kept (fun n => n = N) w w2 := hk1.trans hk2 (fun _ _ e => e.elim)
    go_wp2_with fail
    refine (vget_w q N p B f (isOT g i) 6 i w2 (hv1.still hk2) (hsk _ K2) hNB).mono ?_
    rintro e w3 ⟨rfl, hv3, hk3⟩
    rw [hpv]
    clear hpv hk1 hk2 hv1 hP
    generalize filV f g i = x at *
    have K3 : Kept (fun n => n = N) w w3 := K2.trans hk3 (fun _ _ e => e)
    have hv3 : ViewIn q N p (lkT g i) w3 := hv3
    clear K2 hk3
    obtain ⟨F, hF⟩ : ∃ F : Nat, w3.heap.size = F := ⟨_, rfl⟩
    have lF : w.heap.size ≤ F := by have := K3.size; omega
    obtain ⟨w4, h4⟩ : ∃ w4, w3.alloc (.cells (vc x).toArray 51) = w4 := ⟨_, rfl⟩
    have hF4 : w4.heap[F]? = some (.cells (vc x).toArray 51 (0, 0)) := by subst h4; exact alloc_at' _ hF
    have k34 : Kept (fun _ => False) w3 w4 := by subst h4; exact (Kept.refl _ _).alloc _
    have hv4 := hv3.still k34
    have K4 : Kept (fun n => n = N) w w4 := K3.trans k34 (fun _ _ e => e.elim)
    clear hv3 K3 k34
    have c1 : w4.cell? ⟨F, 1, none⟩ = some (.int .i64 x.n1) := cell_at hF4 rfl
    have f1 := free_at hF4 1
    have hFy : (w4.setCell ⟨F, 1, none⟩ (.int .i64 (wrap64 (x.n1 - 1)))).heap[F]? = some (.cells (vc (cls1 x)).toArray 51 (0, 0)) := by rw [set_at hF4]; rfl
    have k6 : Kept (fun n => n = F) w4 (w4.setCell ⟨F, 1, none⟩ (.int .i64 (wrap64 (x.n1 - 1)))) := by refine Kept.setCell (Kept.refl _ _) ?_ _; intro _; rfl
    have hv6 := hv4.kept k6 (by omega) (by omega)
    have K6 := K4.trans k6 (fun k h1 h2 => by omega)
    clear hF4 hv4 K4 k6
    obtain ⟨y, hy⟩ : ∃ y, cls1 x = y := ⟨_, rfl⟩
    rw [hy] at hFy HT
    obtain ⟨y1, hy1⟩ : ∃ y1, wrap64 (x.n1 - 1) = y1 := ⟨_, rfl⟩
    have hyn : y.n1 = y1 := by rw [← hy, ← hy1]; rfl
    rw [hy1] at hFy hv6 K6
    have e1 : (w4.setCell ⟨F, 1, none⟩ (.int .i64 y1)).cell? ⟨F, 1, none⟩ = some (.int .i64 y1) := by have := cell_at hFy (i := 1) (v := .int .i64 y.n1) rfl; rwa [hyn] at this
    clear hy
    by_cases p1 : 0 < y1
    · have HS : Hid (0 < y.n1) := by show _ < _; omega
      go_wp2_with (first | (refine list_wnew rfl wide_V _ _ rfl F rfl (vc x) rfl _ rfl hF rfl (vc_one _) ?_))
      generalize w4.setCell ⟨F, 1, none⟩ (.int .i64 y1) = w6 at *
      clear c1 f1 hF h4 e1 hy1
      have KS : ∀ w', Kept (fun n => n = N) w6 w' → True := fun _ _ => trivial
      have KV : ∀ w', Kept (fun n => n = N) w6 w' → w'.rangeAt F 0 (vc y) := fun w' hk' => range_kept (whole_range hFy) hk' (by omega)
      refine wp_region_held_drew (S := fun w' => Kept (fun n => n = N) w6 w') (by kernel_rfl) ((Kept.refl _ _).drew) (fun hHeld => ?_)
      refine h_take 0 (some 25) (Op.move (Operand.tmp 0)) 25 ?v3 rfl rfl (by kernel_rfl) (by kernel_rfl) (by kernel_rfl) (fun _ _ _ h => h) ?hy3 hHeld ?_
      case hy3 => (intro _ _ _ w hSw; have hcs := KS _ hSw; go_simp; try with_reducible rfl)
      simp only [Act.put, List.setIfInBounds_toArray, List.set_cons_zero, List.set_cons_succ]
      refine h_take 1 (some 26) (Op.move (Operand.tmp 1)) 3 ?v4 rfl rfl (by kernel_rfl) (by kernel_rfl) (by kernel_rfl) (fun _ _ _ h => h) ?hy4 hHeld ?_
      case hy4 => (intro _ _ _ w hSw; have hcs := KS _ hSw; go_simp; try with_reducible rfl)
      simp only [Act.put, List.setIfInBounds_toArray, List.set_cons_zero, List.set_cons_succ]
      refine h_take 3 (some 28) (Op.load 51 (Operand.tmp 5)) 51 (vv y) rfl rfl (by kernel_rfl) (by kernel_rfl) (by kernel_rfl) (fun _ _ _ h => h) (fun _ _ _ w hSw => exec_load rfl (load_wide wide_V (KV w hSw) rfl)) hHeld ?_
      simp only [Act.put, List.setIfInBounds_toArray, List.set_cons_zero, List.set_cons_succ]
      refine h_step 2 (some 27) (Op.call { callee := Callee.value (Operand.func 37), args := #[Operand.tmp 26], argTypes := #[3] }) 54 rfl rfl (by kernel_rfl) (fun _ _ _ K hK => ?_)
      go_simp
      refine (fobject_w i _).mono ?_
      rintro e w7 ⟨rfl, hk7⟩
      replace hk7 : Kept (fun _ => False) w6 w7 := (Kept.refl _ w6).drew.thru hk7
      go_wp2_with fail
      refine hK.out _ _ (hk7.mono (fun _ _ e => e.elim)) (fun hHeld => ?_)
      clear hK K
      try simp only [Act.put, List.setIfInBounds_toArray, List.set_cons_zero, List.set_cons_succ]
      refine h_step 4 (some 29) (Op.call { callee := Callee.value (Operand.func 24), args := #[Operand.tmp 25, Operand.tmp 27, Operand.tmp 28], argTypes := #[25, 54, 51] }) 0 rfl rfl (by kernel_rfl) (fun _ _ _ K hK => ?_)
      go_simp
      refine (vput_w q N p (lkT g i) 6 i y w7 (hv6.still hk7)).mono ?_
      rintro e w8 ⟨rfl, hv8, hk8⟩
      replace hk8 : Kept (fun n => n = N) w6 w8 := (hk7.mono (fun _ _ e => e.elim)).trans hk8 (fun _ _ e => e)
      go_wp2_with fail
      refine hK.out _ _ (hk8) (fun hHeld => ?_)
      clear hK K
      try simp only [Act.put, List.setIfInBounds_toArray, List.set_cons_zero, List.set_cons_succ]
      refine wpAnyH_done (by kernel_rfl) ?_ _
      have HZ : Hid (ViewIn q N p (clsT f g i) w8 ∧ Kept (fun n => n = N) w w8) := ⟨by rw [HT.out, if_pos HS.out]; exact hv8, K6.trans hk8 (fun _ _ e => e)⟩
      clear hHeld KS KV hk7 hv6 hk8 hv8 hFy K6
      go_wp2_with fail
      exact bodyPost_ret (v := .bool true) (by simp [results, Try.results14, go_sem]) rfl ⟨rfl, HZ.out⟩
    · have HS : Hid (¬ 0 < y.n1) := by show ¬ _; omega
      have HT2 : Hid (clsT f g i = relT f (shutT f (lkT g i) i) y) := by show _ = _; rw [HT.out, if_neg HS.out]
      go_wp2_with (first | (refine list_wnew rfl wide_V _ _ rfl F rfl (vc x) rfl _ rfl hF rfl (vc_one _) ?_))
      generalize w4.setCell ⟨F, 1, none⟩ (.int .i64 y1) = w6 at *
      clear c1 f1 hF h4 e1 hy1 HT HS p1
      have lF6 : F < w6.heap.size := lt_at hFy
      refine (fobject_w i _).mono ?_
      rintro e w7 ⟨rfl, hk7⟩
      go_wp2_with fail
      refine (vput_w q N p (lkT g i) 6 i zeroV w7 (hv6.still hk7)).mono ?_
      rintro e w8 ⟨rfl, hv8, hk8⟩
      have K68 : Kept (fun n => n = N) w6 w8 := (hk7.mono (fun _ _ e => e.elim)).trans hk8 (fun _ _ e => e)
      clear hk7 hk8 hv6
      go_wp2_with fail
      refine (ftable_w _).mono ?_
      rintro e w9 ⟨rfl, hk9⟩
      go_wp2_with fail
      have K69 := K68.trans hk9 (fun _ _ e => e.elim)
      refine (vget_w q N p B f _ 5 0 w9 (hv8.still hk9) (hsk _ (K6.trans K69 (fun _ _ e => e))) hNB).mono ?_
      rintro e w10 ⟨rfl, hv10, hk10⟩
      have K610 : Kept (fun n => n = N) w6 w10 := K69.trans hk10 (fun _ _ e => e)
      clear hk9 hk10 hv8 K68 K69
      have ez : vgetF f (vputT (lkT g i) (6, i) zeroV) (5, 0) = ftV f (lkT g i) := get_put_other (plc_f6 hi1 hi2) (key_ne (by decide) _ _)
      rw [ez]
      have HG : Hid (shutT f (lkT g i) i = vputT (vgetT (vputT (lkT g i) (6, i) zeroV) (5, 0)) (5, 0) (withN (ftV f (lkT g i)) (clrN (ftV f (lkT g i)).n0 i))) := rfl
      generalize ftV f (lkT g i) = z at *
      clear ez
      obtain ⟨G, hG⟩ : ∃ G : Nat, w10.heap.size = G := ⟨_, rfl⟩
      have lG : w.heap.size ≤ G := by have := K610.size; have := K6.size; omega
      have lFG : F < G := by have := K610.size; omega
      obtain ⟨w11, h11⟩ : ∃ w11, w10.alloc (.cells (vc z).toArray 51) = w11 := ⟨_, rfl⟩
      have hz11 : w11.heap[G]? = some (.cells (vc z).toArray 51 (0, 0)) := by subst h11; exact alloc_at' _ hG
      have k11 : Kept (fun _ => False) w10 w11 := by subst h11; exact (Kept.refl _ _).alloc _
      have hv11 := hv10.still k11
      have K611 : Kept (fun n => n = N) w6 w11 := K610.trans k11 (fun _ _ e => e.elim)
      clear hv10 K610 k11
      go_wp2_with (first | (refine list_wnew rfl wide_V _ _ rfl G rfl (vc z) rfl _ rfl hG rfl (vc_one _) ?_))
      rw [h11]
      have c0 : w11.cell? ⟨G, 0, none⟩ = some (.int .i64 z.n0) := cell_at hz11 rfl
      have f0 := free_at hz11 0
      go_wp2_with fail
      clear hG h11
      try simp only [Act.put]
      go_cut [6] from 38 to 45 (fun v wc => v = .pointer (some ⟨G, 0, none⟩) ∧ Hid (Kept (fun n => n = G) w11 wc ∧ wc.heap[G]? = some (.cells (vc (withN z (clrN z.n0 i))).toArray 51 (0, 0))))
      case first =>
        have hfb := fun w => fbit_w i w hi1 (by omega)
        clear hv3 hyn HT2 K6 hFy HG hv11 K611 hsk
        go_region_with (refine (hfb _).mono ?_; rintro e wd ⟨rfl, hwd⟩; subst hwd)
        all_goals
          go_wp2
          go_meet
          case rel => exact And.intro rfl (And.intro (by refine Kept.drew (Kept.setCell (Kept.refl _ _) ?_ _); intro _; rfl) (by show (w11.setCell _ _).heap[G]? = _; rw [set_at hz11]; rfl))
      case rest =>
        obtain ⟨rfl, HC⟩ := hcut
        have hFu := HC.out.2
        have hvw : ViewIn q N p _ wc := hv11.kept HC.out.1 (by omega) (by omega)
        have hK6w : Kept (fun n => n = N ∨ n = G) w6 wc := (K611.mono (fun _ _ e => .inl e)).trans HC.out.1 (fun k h1 h2 => .inr h2)
        have hFw := hK6w.at hFy (fun e => by rcases e with e | e <;> omega)
        have hKw : Kept (fun n => n = N) w wc := (K6.trans K611 (fun _ _ e => e)).trans HC.out.1 (fun k h1 h2 => by omega)
        clear c0 f0 HC K6 K611 hv11 hz11 hK6w hFy
        obtain ⟨u, hu⟩ : ∃ u, withN z (clrN z.n0 i) = u := ⟨_, rfl⟩
        rw [hu] at hFu HG
        clear hu
        have KS : ∀ w', Kept (fun n => n = N) wc w' → True := fun _ _ => trivial
        have KV : ∀ w', Kept (fun n => n = N) wc w' → w'.rangeAt G 0 (vc u) := fun w' hk' => range_kept (whole_range hFu) hk' (by omega)
        go_wp2_with fail
        refine wp_region_held_drew (S := fun w' => Kept (fun n => n = N) wc w') (by kernel_rfl) ((Kept.refl _ _).drew) (fun hHeld => ?_)
        refine h_take 0 (some 46) (Op.move (Operand.tmp 0)) 25 ?v5 rfl rfl (by kernel_rfl) (by kernel_rfl) (by kernel_rfl) (fun _ _ _ h => h) ?hy5 hHeld ?_
        case hy5 => (intro _ _ _ w hSw; have hcs := KS _ hSw; go_simp; try with_reducible rfl)
        simp only [Act.put, List.setIfInBounds_toArray, List.set_cons_zero, List.set_cons_succ]
        refine h_take 2 (some 48) (Op.load 51 (Operand.tmp 6)) 51 (vv u) rfl rfl (by kernel_rfl) (by kernel_rfl) (by kernel_rfl) (fun _ _ _ h => h) (fun _ _ _ w hSw => exec_load rfl (load_wide wide_V (KV w hSw) rfl)) hHeld ?_
        simp only [Act.put, List.setIfInBounds_toArray, List.set_cons_zero, List.set_cons_succ]
        refine h_step 1 (some 47) (Op.call { callee := Callee.value (Operand.func 35), args := #[], argTypes := #[] }) 54 rfl rfl (by kernel_rfl) (fun _ _ _ K hK => ?_)
        go_simp
        refine (ftable_w _).mono ?_
        rintro e w5 ⟨rfl, hk5⟩
        replace hk5 : Kept (fun _ => False) wc w5 := (Kept.refl _ wc).drew.thru hk5
        go_wp2_with fail
        refine hK.out _ _ (hk5.mono (fun _ _ e => e.elim)) (fun hHeld => ?_)
        clear hK K
        try simp only [Act.put, List.setIfInBounds_toArray, List.set_cons_zero, List.set_cons_succ]
        refine h_step 3 (some 49) (Op.call { callee := Callee.value (Operand.func 24), args := #[Operand.tmp 46, Operand.tmp 47, Operand.tmp 48], argTypes := #[25, 54, 51] }) 0 rfl rfl (by kernel_rfl) (fun _ _ _ K hK => ?_)
        go_simp
        refine (vput_w q N p _ 5 0 u w5 (hvw.still hk5)).mono ?_
        rintro e wz ⟨rfl, hvz, hkz⟩
        replace hkz : Kept (fun n => n = N) wc wz := (hk5.mono (fun _ _ e => e.elim)).trans hkz (fun _ _ e => e)
        go_wp2_with fail
        refine hK.out _ _ (hkz) (fun hHeld => ?_)
        clear hK K
        try simp only [Act.put, List.setIfInBounds_toArray, List.set_cons_zero, List.set_cons_succ]
        refine wpAnyH_done (by kernel_rfl) ?_ _
        have hvz : ViewIn q N p (shutT f (lkT g i) i) wz := by rw [HG.out]; exact hvz
        have hKz := hKw.trans hkz (fun _ _ e => e)
        have hrF : wz.rangeAt F 0 (vc y) := range_kept (whole_range hFw) hkz (by omega)
        clear hHeld KS KV hk5 hvw hKw hkz hFw hFu HG
        go_wp2_with (first | (refine list_wload rfl wide_V _ rfl F 0 rfl (vc y) hrF rfl ?_))
        refine (rel_w q N p B f _ y wz hvz (hsk _ hKz) hNB).mono ?_
        rintro e wy ⟨rfl, hvy, hky⟩
        have HZ : Hid (ViewIn q N p (clsT f g i) wy ∧ Kept (fun n => n = N) w wy) := ⟨by rw [HT2.out]; exact hvy, hKz.trans hky (fun _ _ e => e)⟩
        clear hrF hvz hvy hky hKz hsk
        go_wp2_with fail
        exact bodyPost_ret (v := .bool true) (by simp [results, Try.results14, go_sem]) rfl ⟨rfl, HZ.out⟩
end Go.Proofs.Ytdgkhfhlbjpaoaa
