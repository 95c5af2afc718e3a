
/- Stores and views side by side: Look, Put; no conditions but that each object's bytes are few. -/
import Derived.Test.YtkpcillgoeidaaaKeep
namespace Go.Proofs.Ytkpcillgoeidaaa
open Go.RowKit
set_option maxRecDepth 100000
set_option linter.unusedSimpArgs false

def tc (p : Nat) (a : Value) (rp : Nat) (b : Value) : Array Value := #[.pointer (some ⟨p, 0, none⟩), a, .pointer (some ⟨rp, 0, none⟩), b]
def ptr (p : Nat) : Value := .pointer (some ⟨p, 0, none⟩)

set_option maxHeartbeats 1000000 in
theorem two_look (T p rp : Nat) (a b : Value) (w : World) (h : w.heap[T]? = some (.cells (tc p a rp b) 31 (0, 0))) : Calls Try.prog 33 #[.pointer (some ⟨T, 0, none⟩)] w
    fun e w' => e = .returned (.tuple #[]) ∧ ∃ q N rq R W, w'.heap[T]? = some (.cells (tc p (ptr q) rp (ptr rq)) 31 (0, 0)) ∧ ViewIn q N p (fun _ => none) w' ∧ RViewIn rq R W rp (fun _ => none) w' ∧ Kept (fun n => n = T) w w' ∧
      w.heap.size ≤ q ∧ w.heap.size ≤ N ∧ w.heap.size ≤ rq ∧ w.heap.size ≤ R ∧ w.heap.size ≤ W ∧ N ≠ R ∧ N ≠ W := by
  have lT := lt_at h
  have KC : ∀ w', Kept (fun _ => False) w w' → w'.heap[T]? = some (.cells (tc p a rp b) 31 (0, 0)) := fun w' hk => hk.at h (fun x => x)
  have KS : ∀ w', (Kept (fun n => n = T) w w' ∧ w'.cell? ⟨T, 0, none⟩ = some (.pointer (some ⟨p, 0, none⟩)) ∧ w'.cell? ⟨T, 2, none⟩ = some (.pointer (some ⟨rp, 0, none⟩))) → (w'.cell? ⟨T, 0, none⟩ = some (.pointer (some ⟨p, 0, none⟩)) ∧ w'.cell? ⟨T, 2, none⟩ = some (.pointer (some ⟨rp, 0, none⟩))) := fun w' hk => hk.2
  have KF : ∀ w', Kept (fun _ => False) w w' → (Kept (fun n => n = T) w w' ∧ w'.cell? ⟨T, 0, none⟩ = some (.pointer (some ⟨p, 0, none⟩)) ∧ w'.cell? ⟨T, 2, none⟩ = some (.pointer (some ⟨rp, 0, none⟩))) := fun w' hk => ⟨hk.mono (fun _ _ e => e.elim), cell_at (KC w' hk) rfl, cell_at (KC w' hk) rfl⟩
  go_enter Try.func33, Try.ntmps33
  go_wp2_with fail
  refine wp_region_held_drew (S := fun w' => Kept (fun n => n = T) w w' ∧ w'.cell? ⟨T, 0, none⟩ = some (.pointer (some ⟨p, 0, none⟩)) ∧ w'.cell? ⟨T, 2, none⟩ = some (.pointer (some ⟨rp, 0, none⟩))) (by kernel_rfl) (KF _ (Kept.refl _ _).drew) (fun hHeld => ?_)
  refine h_take 0 (some 2) (Op.move (Operand.tmp 0)) 22 ?v1 rfl rfl (by kernel_rfl) (by kernel_rfl) (by kernel_rfl) (fun _ _ _ h => h) ?hy1 hHeld ?_
  case hy1 => (intro _ _ _ w hSw; have hcs := KS _ hSw; go_simp; try with_reducible rfl)
  simp only [Act.put, List.setIfInBounds_toArray, List.set_cons_zero, List.set_cons_succ]
  refine h_take 1 (some 3) (Op.move (Operand.tmp 0)) 22 ?v2 rfl rfl (by kernel_rfl) (by kernel_rfl) (by kernel_rfl) (fun _ _ _ h => h) ?hy2 hHeld ?_
  case hy2 => (intro _ _ _ w hSw; have hcs := KS _ hSw; go_simp; try with_reducible rfl)
  simp only [Act.put, List.setIfInBounds_toArray, List.set_cons_zero, List.set_cons_succ]
  refine h_take 2 (some 4) (Op.move (Operand.tmp 0)) 22 ?v3 rfl rfl (by kernel_rfl) (by kernel_rfl) (by kernel_rfl) (fun _ _ _ h => h) ?hy3 hHeld ?_
  case hy3 => (intro _ _ _ w hSw; have hcs := KS _ hSw; go_simp; try with_reducible rfl)
  simp only [Act.put, List.setIfInBounds_toArray, List.set_cons_zero, List.set_cons_succ]
  refine h_take 3 (some 5) (Op.nilCheck (Operand.tmp 4)) 0 ?v4 rfl rfl (by kernel_rfl) (by kernel_rfl) (by kernel_rfl) (fun _ _ _ h => h) ?hy4 hHeld ?_
  case hy4 => (intro _ _ _ w hSw; have hcs := KS _ hSw; go_simp; try with_reducible rfl)
  simp only [Act.put, List.setIfInBounds_toArray, List.set_cons_zero, List.set_cons_succ]
  refine h_take 4 (some 6) (Op.fieldAddr 31 (Operand.tmp 5) 0) 0 ?v5 rfl rfl (by kernel_rfl) (by kernel_rfl) (by kernel_rfl) (fun _ _ _ h => h) ?hy5 hHeld ?_
  case hy5 => (intro _ _ _ w hSw; have hcs := KS _ hSw; go_simp; try with_reducible rfl)
  simp only [Act.put, List.setIfInBounds_toArray, List.set_cons_zero, List.set_cons_succ]
  refine h_take 5 (some 7) (Op.load 26 (Operand.tmp 6)) 26 ?v6 rfl rfl (by kernel_rfl) (by kernel_rfl) (by kernel_rfl) (fun _ _ _ h => h) ?hy6 hHeld ?_
  case hy6 => (intro _ _ _ w hSw; have hcs := KS _ hSw; go_simp; try with_reducible rfl)
  simp only [Act.put, List.setIfInBounds_toArray, List.set_cons_zero, List.set_cons_succ]
  refine h_take 7 (some 9) (Op.move (Operand.tmp 0)) 22 ?v7 rfl rfl (by kernel_rfl) (by kernel_rfl) (by kernel_rfl) (fun _ _ _ h => h) ?hy7 hHeld ?_
  case hy7 => (intro _ _ _ w hSw; have hcs := KS _ hSw; go_simp; try with_reducible rfl)
  simp only [Act.put, List.setIfInBounds_toArray, List.set_cons_zero, List.set_cons_succ]
  refine h_take 8 (some 10) (Op.nilCheck (Operand.tmp 9)) 0 ?v8 rfl rfl (by kernel_rfl) (by kernel_rfl) (by kernel_rfl) (fun _ _ _ h => h) ?hy8 hHeld ?_
  case hy8 => (intro _ _ _ w hSw; have hcs := KS _ hSw; go_simp; try with_reducible rfl)
  simp only [Act.put, List.setIfInBounds_toArray, List.set_cons_zero, List.set_cons_succ]
  refine h_take 9 (some 11) (Op.fieldAddr 31 (Operand.tmp 10) 2) 0 ?v9 rfl rfl (by kernel_rfl) (by kernel_rfl) (by kernel_rfl) (fun _ _ _ h => h) ?hy9 hHeld ?_
  case hy9 => (intro _ _ _ w hSw; have hcs := KS _ hSw; go_simp; try with_reducible rfl)
  simp only [Act.put, List.setIfInBounds_toArray, List.set_cons_zero, List.set_cons_succ]
  refine h_take 10 (some 12) (Op.load 28 (Operand.tmp 11)) 28 ?v10 rfl rfl (by kernel_rfl) (by kernel_rfl) (by kernel_rfl) (fun _ _ _ h => h) ?hy10 hHeld ?_
  case hy10 => (intro _ _ _ w hSw; have hcs := KS _ hSw; go_simp; try with_reducible rfl)
  simp only [Act.put, List.setIfInBounds_toArray, List.set_cons_zero, List.set_cons_succ]
  refine h_step 6 (some 8) (Op.call { callee := Callee.value (Operand.func 63), args := #[Operand.tmp 7], argTypes := #[26] }) 27 rfl rfl (by kernel_rfl) (fun _ _ _ K hK => ?_)
  go_simp
  refine (look_w p _).mono ?_
  rintro e w1 ⟨q, N, rfl, hv1, hk1, hq, hN⟩
  replace hk1 : Kept (fun _ => False) w w1 := ((Kept.refl _ w).drew).thru hk1
  replace hq : w.heap.size ≤ q := hq
  replace hN : w.heap.size ≤ N := hN
  go_wp2_with fail
  refine hK.out _ _ (KF _ hk1) (fun hHeld => ?_)
  clear hK K
  try simp only [Act.put, List.setIfInBounds_toArray, List.set_cons_zero, List.set_cons_succ]
  refine h_step 11 (some 13) (Op.call { callee := Callee.value (Operand.func 64), args := #[Operand.tmp 12], argTypes := #[28] }) 29 rfl rfl (by kernel_rfl) (fun _ _ _ K hK => ?_)
  go_simp
  refine (rview_w rp w1).mono ?_
  rintro e w2 ⟨rq, R, W, rfl, hx2, hk2, hrq, hR, hW⟩
  have K2 : Kept (fun _ => False) w w2 := hk1.thru hk2
  have hv2 := hv1.still hk2
  have l1 := hv1.map.lt
  have l2 := hk1.size
  have lq := lt_at hv1.cell
  have g1 : N ≠ R ∧ N ≠ W := by omega
  have g2 : w.heap.size ≤ rq ∧ w.heap.size ≤ R ∧ w.heap.size ≤ W := by omega
  have hT2 := KC _ K2
  have f1 := free_at hT2 1
  clear hk2 hv1 hk1 hrq hR hW l1 l2 KF KC
  go_wp2_with fail
  refine hK.out _ _ ((⟨K2.mono (fun _ _ e => e.elim), cell_at hT2 rfl, cell_at hT2 rfl⟩ : _ ∧ _ ∧ _)) (fun hHeld => ?_)
  clear hK K
  try simp only [Act.put, List.setIfInBounds_toArray, List.set_cons_zero, List.set_cons_succ]
  refine h_take 12 (some 14) (Op.nilCheck (Operand.tmp 2)) 0 ?v11 rfl rfl (by kernel_rfl) (by kernel_rfl) (by kernel_rfl) (fun _ _ _ h => h) ?hy11 hHeld ?_
  case hy11 => (intro _ _ _ w hSw; have hcs := KS _ hSw; go_simp; try with_reducible rfl)
  simp only [Act.put, List.setIfInBounds_toArray, List.set_cons_zero, List.set_cons_succ]
  refine h_take 13 (some 15) (Op.fieldAddr 31 (Operand.tmp 14) 1) 0 ?v12 rfl rfl (by kernel_rfl) (by kernel_rfl) (by kernel_rfl) (fun _ _ _ h => h) ?hy12 hHeld ?_
  case hy12 => (intro _ _ _ w hSw; have hcs := KS _ hSw; go_simp; try with_reducible rfl)
  simp only [Act.put, List.setIfInBounds_toArray, List.set_cons_zero, List.set_cons_succ]
  have hT3 : (w2.setCell ⟨T, 1, none⟩ (ptr q)).heap[T]? = some (.cells (tc p (ptr q) rp b) 31 (0, 0)) := by rw [set_at hT2]; rfl
  have k3 : Kept (fun n => n = T) w2 (w2.setCell ⟨T, 1, none⟩ (ptr q)) := by refine Kept.setCell (Kept.refl _ _) ?_ _; intro _; rfl
  have f3 := free_at hT3 3
  have hT4 : ((w2.setCell ⟨T, 1, none⟩ (ptr q)).setCell ⟨T, 3, none⟩ (ptr rq)).heap[T]? = some (.cells (tc p (ptr q) rp (ptr rq)) 31 (0, 0)) := by rw [set_at hT3]; rfl
  have k4 : Kept (fun n => n = T) w2 ((w2.setCell ⟨T, 1, none⟩ (ptr q)).setCell ⟨T, 3, none⟩ (ptr rq)) := by refine Kept.setCell k3 ?_ _; intro _; rfl
  refine h_step 14 (none) (Op.store 27 (Operand.tmp 15) (Operand.tmp 8)) 0 rfl rfl (by kernel_rfl) (fun _ _ _ K hK => ?_)
  have x1 : w2.cell? ⟨T, 1, none⟩ = some a := cell_at hT2 rfl
  have x3 : (w2.setCell ⟨T, 1, none⟩ (ptr q)).cell? ⟨T, 3, none⟩ = some b := cell_at hT3 rfl
  unfold ptr at f3 x3
  go_wp2_with fail
  refine hK.out _ _ ((⟨(K2.mono (fun _ _ e => e.elim)).trans k3 (fun _ _ e => e), cell_at hT3 rfl, cell_at hT3 rfl⟩ : _ ∧ _ ∧ _)) (fun hHeld => ?_)
  clear hK K
  try simp only [Act.put, List.setIfInBounds_toArray, List.set_cons_zero, List.set_cons_succ]
  refine h_take 15 (some 16) (Op.nilCheck (Operand.tmp 3)) 0 ?v13 rfl rfl (by kernel_rfl) (by kernel_rfl) (by kernel_rfl) (fun _ _ _ h => h) ?hy13 hHeld ?_
  case hy13 => (intro _ _ _ w hSw; have hcs := KS _ hSw; go_simp; try with_reducible rfl)
  simp only [Act.put, List.setIfInBounds_toArray, List.set_cons_zero, List.set_cons_succ]
  refine h_take 16 (some 17) (Op.fieldAddr 31 (Operand.tmp 16) 3) 0 ?v14 rfl rfl (by kernel_rfl) (by kernel_rfl) (by kernel_rfl) (fun _ _ _ h => h) ?hy14 hHeld ?_
  case hy14 => (intro _ _ _ w hSw; have hcs := KS _ hSw; go_simp; try with_reducible rfl)
  simp only [Act.put, List.setIfInBounds_toArray, List.set_cons_zero, List.set_cons_succ]
  refine h_step 17 (none) (Op.store 29 (Operand.tmp 17) (Operand.tmp 13)) 0 rfl rfl (by kernel_rfl) (fun _ _ _ K hK => ?_)
  go_wp2_with fail
  refine hK.out _ _ ((⟨(K2.mono (fun _ _ e => e.elim)).trans k4 (fun _ _ e => e), cell_at hT4 rfl, cell_at hT4 rfl⟩ : _ ∧ _ ∧ _)) (fun hHeld => ?_)
  clear hK K
  try simp only [Act.put, List.setIfInBounds_toArray, List.set_cons_zero, List.set_cons_succ]
  refine wpAnyH_done (by kernel_rfl) ?_ _
  have HZ : Hid (∃ q N rq R W, ((w2.setCell ⟨T, 1, none⟩ (ptr q)).setCell ⟨T, 3, none⟩ (ptr rq)).heap[T]? = some (.cells (tc p (ptr q) rp (ptr rq)) 31 (0, 0)) ∧ True) := ⟨q, N, rq, R, W, hT4, trivial⟩
  have HV := hv2.kept k4 (show ¬ q = T by omega) (show ¬ N = T by omega)
  have HX := hx2.kept k4 (show ¬ rq = T by omega) (show ¬ R = T by omega) (show ¬ W = T by omega)
  have HK : Kept (fun n => n = T) w ((w2.setCell ⟨T, 1, none⟩ (ptr q)).setCell ⟨T, 3, none⟩ (ptr rq)) := (K2.mono (fun _ _ e => e.elim)).trans k4 (fun _ _ e => e)
  clear hHeld KS HZ
  go_wp2_with fail
  go_end0
  exact ⟨rfl, q, N, rq, R, W, hT4, HV, HX, HK, hq, hN, g2.1, g2.2.1, g2.2.2, g1.1, g1.2⟩
def putAll (f : StF) (l : Ws) : StF := l.foldl (fun f t => putF f t.1 t.2) f
theorem putAll_app (f : StF) (a b : Ws) : putAll f (a ++ b) = putAll (putAll f a) b := by unfold putAll; rw [List.foldl_append]
theorem SrcR.keptM {α : Type} {cs : α → List Value} {n : Nat} (hn : ∀ a, 0 < (cs a).length) {x : Value} {l : List α} {w w' : World} {κ ν : Type} {enc : κ → Value} {encv : ν → Value} {B : Nat} {f : κ → Option ν} (h : SrcR cs n x l w) (hm : MapIn enc encv B f w) (hk : Kept (fun n => n = B) w w') : SrcR cs n x l w' := by
  obtain ⟨ao, b, o, c, e, h0, h1, hc, h2⟩ := h
  refine ⟨ao, b, o, c, e, h0, h1, hc, fun j a ha => ?_⟩
  have hr := h2 j a ha
  refine range_kept hr hk (fun eb => ?_)
  have hv := List.getElem?_eq_getElem (hn a)
  have hcell := hr 0 _ hv
  obtain ⟨es, clock, hb, _⟩ := hm
  rw [eb] at hcell
  simp [World.cell?, hb] at hcell
theorem wc_pos (t : K2 × V) : 0 < (wc t).length := by rw [wc_length]; omega
theorem take_putAll (f : StF) {l : Ws} {i : Nat} (h : i < l.length) : putAll f (l.take (i + 1)) = putF (putAll f (l.take i)) l[i].1 l[i].2 := by
  rw [List.take_succ_eq_append_getElem h, putAll_app]; rfl
theorem write_cells {w : World} {b o : Nat} {t : K2 × V} (h : w.rangeAt b o (wc t)) : w.cell? ⟨b, o, none⟩ = some (.int .i64 t.1.1) ∧ w.cell? ⟨b, o + 1, none⟩ = some (.int .i64 t.1.2) ∧ w.rangeAt b (o + 2) (vc t.2) := by
  refine ⟨h 0 _ rfl, h 1 _ rfl, fun j u hu => ?_⟩
  have : (wc t)[2 + j]? = some u := by rw [Nat.add_comm]; exact hu
  have := h _ _ this
  rw [show o + (2 + j) = o + 2 + j by omega] at this
  exact this

set_option maxHeartbeats 2000000 in
theorem two_put {w0 : World} {T p B q N rp rB rq R W : Nat} {f : StF} {g : VwF} {w : World} (h : KeepIn w0 T p B q N rp rB rq R W f f g g w) (hT0 : w0.heap.size ≤ T) : Calls Try.prog 17 #[.pointer (some ⟨T, 0, none⟩)] w
    fun e w' => e = .returned (.tuple #[]) ∧ (∃ q' N' rq' R' W', KeepIn w0 T p B q' N' rp rB rq' R' W' (putAll f (redoF g)) (putAll f (redoF g)) (fun _ => none) (fun _ => none) w') ∧ Kept (fun n => n = T ∨ n = B ∨ n = rB) w w' := by
  obtain ⟨c0, c1, c2, c3⟩ := h.cells
  have hlen := redo_le g
  go_enter Try.func17, Try.ntmps17
  go_wp2_with fail
  refine (redo_w q N p g w h.game.v).mono ?_
  rintro e w1 ⟨v, rfl, ho⟩
  have h1 := h.still ho.kept
  obtain ⟨ao, b, o, c, rfl, hn0, hao, hcl, hc⟩ := OwnR.src wc_length ho
  have HS : Hid (∀ j a, (redoF g)[j]? = some a → w1.rangeAt b (o + j * 19) (wc a)) := hc
  have hk01 : Kept (fun n => n = T ∨ n = B ∨ n = rB) w w1 := ho.kept.mono (fun _ _ e => e.elim)
  have H0 : Hid (KeepIn w0 T p B q N rp rB rq R W (putAll f ((redoF g).take 0)) f g g w1 ∧ Kept (fun n => n = B) w1 w1) := ⟨h1, Kept.refl _ _⟩
  have HK1 : Hid (Kept (fun n => n = T ∨ n = B ∨ n = rB) w w1) := hk01
  have hRB : w1.heap.size ≤ w1.heap.size := Nat.le_refl _
  clear hc hk01 ho h h1 c0 c1 c2 c3
  have HL : Hid (∃ l, redoF g = l) := ⟨_, rfl⟩
  obtain ⟨l, hl⟩ : ∃ l, redoF g = l := ⟨_, rfl⟩
  have HLE : Hid (redoF g = l) := hl
  rw [hl] at hlen hao hcl HS H0
  rw [hl]
  clear hl HL
  obtain ⟨n, hn⟩ : ∃ n : Nat, l.length = n := ⟨_, rfl⟩
  rw [hn] at hao hcl hlen
  simp only [hn]
  have HNL : Hid (l.length = n) := hn
  clear hn
  have nomap : ∀ {t : K2 × V} {B' : Nat} {κ ν : Type} {enc : κ → Value} {encv : ν → Value} {f' : κ → Option ν} {x : World}, l[0]? = some t → MapIn enc encv B' f' x → x.rangeAt b (o + 0 * 19) (wc t) → b ≠ B' := fun _ hm hr e => by
    have hcell := (write_cells hr).1
    obtain ⟨es, clock, hb, _⟩ := hm
    rw [e] at hcell
    simp [World.cell?, hb] at hcell
  have hbB : 0 < n → b ≠ B := fun h0 => by
    have hil : 0 < l.length := by rw [HNL.out]; exact h0
    exact nomap (List.getElem?_eq_getElem hil) H0.out.1.game.s.map (HS.out 0 _ (List.getElem?_eq_getElem hil))
  clear nomap
  go_wp2_with fail
  go_loopw [3, 12] (fun _ v wr => ∃ i : Nat, v = .int .i64 i ∧ i ≤ n ∧ Hid (KeepIn w0 T p B q N rp rB rq R W (putAll f (l.take i)) f g g wr ∧ Kept (fun n => n = B) w1 wr)) (fun _ v _ => n - (intOf v).toNat)
  case atStart => exact ⟨0, rfl, Nat.zero_le _, H0.out⟩
  case round =>
    obtain ⟨i, rfl, hi, HH⟩ := hrel
    clear H0
    by_cases hlt : i < n
    · have t1 : (i : Int) < (n : Int) := by omega
      have hil : i < l.length := by rw [HNL.out]; exact hlt
      obtain ⟨⟨⟨kx, ky⟩, v⟩, ht⟩ : ∃ t, l[i] = t := ⟨_, rfl⟩
      have r1 := HS.out i ((kx, ky), v) (by rw [List.getElem?_eq_getElem hil, ht])
      have r2 : wr.rangeAt b (o + i * 19) (wc ((kx, ky), v)) := range_kept r1 HH.out.2 (hbB (by omega))
      have h0 := hao (by omega)
      subst h0
      obtain ⟨X, hX⟩ : ∃ X : Nat, wr.heap.size = X := ⟨_, rfl⟩
      have hX2 : (wr.alloc (.cells (wc ((kx, ky), v)).toArray 66)).heap[X]? = some (.cells (wc ((kx, ky), v)).toArray 66 (0, 0)) := alloc_at' _ hX
      have kX : Kept (fun _ => False) wr (wr.alloc (.cells (wc ((kx, ky), v)).toArray 66)) := (Kept.refl _ _).alloc _
      have HG : Hid (KeepIn w0 T p B q N rp rB rq R W (putAll f (l.take i)) f g g (wr.alloc (.cells (wc ((kx, ky), v)).toArray 66)) ∧ Kept (fun n => n = B) w1 (wr.alloc (.cells (wc ((kx, ky), v)).toArray 66))) := ⟨HH.out.1.still kX, HH.out.2.trans kX (fun _ _ e => e.elim)⟩
      clear r1 kX HH
      go_wp2_with (first | (refine list_wload rfl wide_W _ rfl b (o + i * 19) rfl (wc ((kx, ky), v)) r2 rfl ?_) | (refine list_wnew rfl wide_W _ _ rfl X rfl (wc ((kx, ky), v)) rfl _ rfl hX rfl (wc_one _) ?_))
      generalize wr.alloc (.cells (wc ((kx, ky), v)).toArray 66) = w2 at *
      have hg := HG.out.1
      have hTB : ¬ T = B := hg.game.s.map.off hg.cell
      have hXB : ¬ X = B := hg.game.s.map.off hX2
      obtain ⟨d0, d1, d2⟩ := write_cells (whole_range hX2)
      rw [Nat.zero_add] at d1 d2
      simp only at d0 d1 d2
      have KS : ∀ w', Kept (fun n => n = B) w2 w' → (w'.cell? ⟨X, 0, none⟩ = some (.int .i64 kx) ∧ w'.cell? ⟨X, 1, none⟩ = some (.int .i64 ky) ∧ w'.cell? ⟨T, 0, none⟩ = some (.pointer (some ⟨p, 0, none⟩))) :=
        fun w' hk' => ⟨hk'.cell d0 hXB, hk'.cell d1 hXB, hk'.cell hg.cells.1 hTB⟩
      have KV : ∀ w', Kept (fun n => n = B) w2 w' → w'.rangeAt X 2 (vc v) := fun w' hk' => range_kept d2 hk' hXB
      refine wp_region_held_drew (S := fun w' => Kept (fun n => n = B) w2 w') (by kernel_rfl) ((Kept.refl _ _).drew) (fun hHeld => ?_)
      refine h_take 0 (some 16) (Op.move (Operand.tmp 0)) 22 ?v15 rfl rfl (by kernel_rfl) (by kernel_rfl) (by kernel_rfl) (fun _ _ _ h => h) ?hy15 hHeld ?_
      case hy15 => (intro _ _ _ w hSw; have hcs := KS _ hSw; go_simp; try with_reducible rfl)
      simp only [Act.put, List.setIfInBounds_toArray, List.set_cons_zero, List.set_cons_succ]
      refine h_take 1 (some 17) (Op.nilCheck (Operand.tmp 16)) 0 ?v16 rfl rfl (by kernel_rfl) (by kernel_rfl) (by kernel_rfl) (fun _ _ _ h => h) ?hy16 hHeld ?_
      case hy16 => (intro _ _ _ w hSw; have hcs := KS _ hSw; go_simp; try with_reducible rfl)
      simp only [Act.put, List.setIfInBounds_toArray, List.set_cons_zero, List.set_cons_succ]
      refine h_take 2 (some 18) (Op.fieldAddr 31 (Operand.tmp 17) 0) 0 ?v17 rfl rfl (by kernel_rfl) (by kernel_rfl) (by kernel_rfl) (fun _ _ _ h => h) ?hy17 hHeld ?_
      case hy17 => (intro _ _ _ w hSw; have hcs := KS _ hSw; go_simp; try with_reducible rfl)
      simp only [Act.put, List.setIfInBounds_toArray, List.set_cons_zero, List.set_cons_succ]
      refine h_take 3 (some 19) (Op.load 26 (Operand.tmp 18)) 26 ?v18 rfl rfl (by kernel_rfl) (by kernel_rfl) (by kernel_rfl) (fun _ _ _ h => h) ?hy18 hHeld ?_
      case hy18 => (intro _ _ _ w hSw; have hcs := KS _ hSw; go_simp; try with_reducible rfl)
      simp only [Act.put, List.setIfInBounds_toArray, List.set_cons_zero, List.set_cons_succ]
      refine h_take 4 (some 20) (Op.fieldAddr 66 (Operand.tmp 3) 0) 0 ?v19 rfl rfl (by kernel_rfl) (by kernel_rfl) (by kernel_rfl) (fun _ _ _ h => h) ?hy19 hHeld ?_
      case hy19 => (intro _ _ _ w hSw; have hcs := KS _ hSw; go_simp; try with_reducible rfl)
      simp only [Act.put, List.setIfInBounds_toArray, List.set_cons_zero, List.set_cons_succ]
      refine h_take 5 (some 21) (Op.load 61 (Operand.tmp 20)) 61 ?v20 rfl rfl (by kernel_rfl) (by kernel_rfl) (by kernel_rfl) (fun _ _ _ h => h) ?hy20 hHeld ?_
      case hy20 => (intro _ _ _ w hSw; have hcs := KS _ hSw; go_simp; try with_reducible rfl)
      simp only [Act.put, List.setIfInBounds_toArray, List.set_cons_zero, List.set_cons_succ]
      refine h_take 6 (some 22) (Op.fieldAddr 66 (Operand.tmp 3) 1) 0 ?v21 rfl rfl (by kernel_rfl) (by kernel_rfl) (by kernel_rfl) (fun _ _ _ h => h) ?hy21 hHeld ?_
      case hy21 => (intro _ _ _ w hSw; have hcs := KS _ hSw; go_simp; try with_reducible rfl)
      simp only [Act.put, List.setIfInBounds_toArray, List.set_cons_zero, List.set_cons_succ]
      refine h_take 7 (some 23) (Op.load 64 (Operand.tmp 22)) 64 (vv v) rfl rfl (by kernel_rfl) (by kernel_rfl) (by kernel_rfl) (fun _ _ _ h => h) (fun _ _ _ w hSw => exec_load rfl (load_wide wide_V (KV w hSw) rfl)) hHeld ?_
      simp only [Act.put, List.setIfInBounds_toArray, List.set_cons_zero, List.set_cons_succ]
      refine h_step 8 (some 24) (Op.call { callee := Callee.value (Operand.func 31), args := #[Operand.tmp 19, Operand.tmp 21, Operand.tmp 23], argTypes := #[26, 61, 64] }) 4 rfl rfl (by kernel_rfl) (fun _ _ _ K hK => ?_)
      go_simp
      refine (put_w p B _ kx ky v w2.drew (hg.game.s.still (Kept.refl _ _).drew)).mono ?_
      rintro e w3 ⟨rfl, hs3, hk3⟩
      replace hk3 : Kept (fun n => n = B) w2 w3 := (Kept.refl _ w2).drew.trans hk3 (fun _ _ e => e)
      go_wp2_with fail
      refine hK.out _ _ (hk3) (fun hHeld => ?_)
      clear hK K
      try simp only [Act.put, List.setIfInBounds_toArray, List.set_cons_zero, List.set_cons_succ]
      refine wpAnyH_done (by kernel_rfl) ?_ _
      have HZ : Hid (KeepIn w0 T p B q N rp rB rq R W (putAll f (l.take (i + 1))) f g g w3 ∧ Kept (fun n => n = B) w1 w3) := by
        refine ⟨?_, HG.out.2.trans hk3 (fun _ _ e => e)⟩
        rw [take_putAll f hil, ht]
        exact hg.putS hs3 hk3
      clear hHeld KS KV HG hg hs3 hk3 d0 d1 d2 hX2 hX r2 ht hao hbB
      go_wp2
      go_roundw
      case rel => exact ⟨i + 1, by go_num, by omega, HZ.out⟩
      case measure => simp [intOf]; omega
    · obtain rfl : i = n := by omega
      have HG : Hid (KeepIn w0 T p B q N rp rB rq R W (putAll f l) f g g wr ∧ Kept (fun n => n = T ∨ n = B ∨ n = rB) w wr) := by
        have := HH.out.1
        rw [List.take_of_length_le (by rw [HNL.out]; exact Nat.le_refl _)] at this
        exact ⟨this, HK1.out.trans HH.out.2 (fun _ _ e => .inr (.inl e))⟩
      clear HH HS HK1 hao hbB hn0
      obtain ⟨c0, c1, c2, c3⟩ := HG.out.1.cells
      go_wp2_with fail
      refine (rredo_w rq R W rp g wr HG.out.1.game.rv).mono ?_
      rintro e w1 ⟨v, rfl, ho⟩
      rw [HLE.out] at ho
      clear c0 c1 c2 c3 hi hlt hcl hRB
      have h1 := HG.out.1.still ho.kept
      have HK1 : Hid (Kept (fun n => n = T ∨ n = B ∨ n = rB) w w1) := HG.out.2.trans ho.kept (fun _ _ e => e.elim)
      obtain ⟨ao, b, o, c, rfl, hn0, hao, hcl, hc⟩ := OwnR.src wc_length ho
      have HS : Hid (∀ j a, l[j]? = some a → w1.rangeAt b (o + j * 19) (wc a)) := hc
      have H0 : Hid (KeepIn w0 T p B q N rp rB rq R W (putAll f l) (putAll f (l.take 0)) g g w1 ∧ Kept (fun n => n = rB) w1 w1) := ⟨h1, Kept.refl _ _⟩
      clear hc ho h1 HG
      obtain ⟨n, hn⟩ : ∃ n : Nat, l.length = n := ⟨_, rfl⟩
      have hlen2 : n ≤ 55 := by rw [← hn, HNL.out]; exact hlen
      clear HNL
      rw [hn] at hao hcl
      try simp only [hn]
      have HNL : Hid (l.length = n) := hn
      clear hn
      have nomap : ∀ {t : K2 × V} {B' : Nat} {κ ν : Type} {enc : κ → Value} {encv : ν → Value} {f' : κ → Option ν} {x : World}, l[0]? = some t → MapIn enc encv B' f' x → x.rangeAt b (o + 0 * 19) (wc t) → b ≠ B' := fun _ hm hr e => by
        have hcell := (write_cells hr).1
        obtain ⟨es, clock, hb, _⟩ := hm
        rw [e] at hcell
        simp [World.cell?, hb] at hcell
      have hbB : 0 < n → b ≠ rB := fun h0 => by
        have hil : 0 < l.length := by rw [HNL.out]; exact h0
        exact nomap (List.getElem?_eq_getElem hil) H0.out.1.game.rs.map (HS.out 0 _ (List.getElem?_eq_getElem hil))
      clear nomap
      go_wp2_with fail
      go_loopw [5, 32] (fun _ v wr => ∃ i : Nat, v = .int .i64 i ∧ i ≤ n ∧ Hid (KeepIn w0 T p B q N rp rB rq R W (putAll f l) (putAll f (l.take i)) g g wr ∧ Kept (fun n => n = rB) w1 wr)) (fun _ v _ => n - (intOf v).toNat)
      case atStart => exact ⟨0, rfl, Nat.zero_le _, H0.out⟩
      case round =>
        obtain ⟨i, rfl, hi, HH⟩ := hrel
        clear H0
        by_cases hlt : i < n
        · have t1 : (i : Int) < (n : Int) := by omega
          have hil : i < l.length := by rw [HNL.out]; exact hlt
          obtain ⟨⟨⟨kx, ky⟩, v⟩, ht⟩ : ∃ t, l[i] = t := ⟨_, rfl⟩
          have r1 := HS.out i ((kx, ky), v) (by rw [List.getElem?_eq_getElem hil, ht])
          have r2 : wr.rangeAt b (o + i * 19) (wc ((kx, ky), v)) := range_kept r1 HH.out.2 (hbB (by omega))
          have h0 := hao (by omega)
          subst h0
          obtain ⟨X, hX⟩ : ∃ X : Nat, wr.heap.size = X := ⟨_, rfl⟩
          have hX2 : (wr.alloc (.cells (wc ((kx, ky), v)).toArray 66)).heap[X]? = some (.cells (wc ((kx, ky), v)).toArray 66 (0, 0)) := alloc_at' _ hX
          have kX : Kept (fun _ => False) wr (wr.alloc (.cells (wc ((kx, ky), v)).toArray 66)) := (Kept.refl _ _).alloc _
          have HG : Hid (KeepIn w0 T p B q N rp rB rq R W (putAll f l) (putAll f (l.take i)) g g (wr.alloc (.cells (wc ((kx, ky), v)).toArray 66)) ∧ Kept (fun n => n = rB) w1 (wr.alloc (.cells (wc ((kx, ky), v)).toArray 66))) := ⟨HH.out.1.still kX, HH.out.2.trans kX (fun _ _ e => e.elim)⟩
          clear r1 kX HH
          go_wp2_with (first | (refine list_wload rfl wide_W _ rfl b (o + i * 19) rfl (wc ((kx, ky), v)) r2 rfl ?_) | (refine list_wnew rfl wide_W _ _ rfl X rfl (wc ((kx, ky), v)) rfl _ rfl hX rfl (wc_one _) ?_))
          generalize wr.alloc (.cells (wc ((kx, ky), v)).toArray 66) = w2 at *
          have hg := HG.out.1
          have hTB : ¬ T = rB := hg.game.rs.map.off hg.cell
          have hXB : ¬ X = rB := hg.game.rs.map.off hX2
          obtain ⟨d0, d1, d2⟩ := write_cells (whole_range hX2)
          rw [Nat.zero_add] at d1 d2
          simp only at d0 d1 d2
          have KS : ∀ w', Kept (fun n => n = rB) w2 w' → (w'.cell? ⟨X, 0, none⟩ = some (.int .i64 kx) ∧ w'.cell? ⟨X, 1, none⟩ = some (.int .i64 ky) ∧ w'.cell? ⟨T, 2, none⟩ = some (.pointer (some ⟨rp, 0, none⟩))) :=
            fun w' hk' => ⟨hk'.cell d0 hXB, hk'.cell d1 hXB, hk'.cell hg.cells.2.2.1 hTB⟩
          have KV : ∀ w', Kept (fun n => n = rB) w2 w' → w'.rangeAt X 2 (vc v) := fun w' hk' => range_kept d2 hk' hXB
          refine wp_region_held_drew (S := fun w' => Kept (fun n => n = rB) w2 w') (by kernel_rfl) ((Kept.refl _ _).drew) (fun hHeld => ?_)
          refine h_take 0 (some 36) (Op.move (Operand.tmp 0)) 22 ?v22 rfl rfl (by kernel_rfl) (by kernel_rfl) (by kernel_rfl) (fun _ _ _ h => h) ?hy22 hHeld ?_
          case hy22 => (intro _ _ _ w hSw; have hcs := KS _ hSw; go_simp; try with_reducible rfl)
          simp only [Act.put, List.setIfInBounds_toArray, List.set_cons_zero, List.set_cons_succ]
          refine h_take 1 (some 37) (Op.nilCheck (Operand.tmp 36)) 0 ?v23 rfl rfl (by kernel_rfl) (by kernel_rfl) (by kernel_rfl) (fun _ _ _ h => h) ?hy23 hHeld ?_
          case hy23 => (intro _ _ _ w hSw; have hcs := KS _ hSw; go_simp; try with_reducible rfl)
          simp only [Act.put, List.setIfInBounds_toArray, List.set_cons_zero, List.set_cons_succ]
          refine h_take 2 (some 38) (Op.fieldAddr 31 (Operand.tmp 37) 2) 0 ?v24 rfl rfl (by kernel_rfl) (by kernel_rfl) (by kernel_rfl) (fun _ _ _ h => h) ?hy24 hHeld ?_
          case hy24 => (intro _ _ _ w hSw; have hcs := KS _ hSw; go_simp; try with_reducible rfl)
          simp only [Act.put, List.setIfInBounds_toArray, List.set_cons_zero, List.set_cons_succ]
          refine h_take 3 (some 39) (Op.load 28 (Operand.tmp 38)) 28 ?v25 rfl rfl (by kernel_rfl) (by kernel_rfl) (by kernel_rfl) (fun _ _ _ h => h) ?hy25 hHeld ?_
          case hy25 => (intro _ _ _ w hSw; have hcs := KS _ hSw; go_simp; try with_reducible rfl)
          simp only [Act.put, List.setIfInBounds_toArray, List.set_cons_zero, List.set_cons_succ]
          refine h_take 4 (some 40) (Op.fieldAddr 66 (Operand.tmp 5) 0) 0 ?v26 rfl rfl (by kernel_rfl) (by kernel_rfl) (by kernel_rfl) (fun _ _ _ h => h) ?hy26 hHeld ?_
          case hy26 => (intro _ _ _ w hSw; have hcs := KS _ hSw; go_simp; try with_reducible rfl)
          simp only [Act.put, List.setIfInBounds_toArray, List.set_cons_zero, List.set_cons_succ]
          refine h_take 5 (some 41) (Op.load 61 (Operand.tmp 40)) 61 ?v27 rfl rfl (by kernel_rfl) (by kernel_rfl) (by kernel_rfl) (fun _ _ _ h => h) ?hy27 hHeld ?_
          case hy27 => (intro _ _ _ w hSw; have hcs := KS _ hSw; go_simp; try with_reducible rfl)
          simp only [Act.put, List.setIfInBounds_toArray, List.set_cons_zero, List.set_cons_succ]
          refine h_take 6 (some 42) (Op.fieldAddr 66 (Operand.tmp 5) 1) 0 ?v28 rfl rfl (by kernel_rfl) (by kernel_rfl) (by kernel_rfl) (fun _ _ _ h => h) ?hy28 hHeld ?_
          case hy28 => (intro _ _ _ w hSw; have hcs := KS _ hSw; go_simp; try with_reducible rfl)
          simp only [Act.put, List.setIfInBounds_toArray, List.set_cons_zero, List.set_cons_succ]
          refine h_take 7 (some 43) (Op.load 64 (Operand.tmp 42)) 64 (vv v) rfl rfl (by kernel_rfl) (by kernel_rfl) (by kernel_rfl) (fun _ _ _ h => h) (fun _ _ _ w hSw => exec_load rfl (load_wide wide_V (KV w hSw) rfl)) hHeld ?_
          simp only [Act.put, List.setIfInBounds_toArray, List.set_cons_zero, List.set_cons_succ]
          refine h_step 8 (some 44) (Op.call { callee := Callee.value (Operand.func 32), args := #[Operand.tmp 39, Operand.tmp 41, Operand.tmp 43], argTypes := #[28, 61, 64] }) 4 rfl rfl (by kernel_rfl) (fun _ _ _ K hK => ?_)
          go_simp
          refine (rput_w rp rB _ kx ky v w2.drew (hg.game.rs.still (Kept.refl _ _).drew)).mono ?_
          rintro e w3 ⟨rfl, hs3, hk3⟩
          replace hk3 : Kept (fun n => n = rB) w2 w3 := (Kept.refl _ w2).drew.trans hk3 (fun _ _ e => e)
          go_wp2_with fail
          refine hK.out _ _ (hk3) (fun hHeld => ?_)
          clear hK K
          try simp only [Act.put, List.setIfInBounds_toArray, List.set_cons_zero, List.set_cons_succ]
          refine wpAnyH_done (by kernel_rfl) ?_ _
          have HZ : Hid (KeepIn w0 T p B q N rp rB rq R W (putAll f l) (putAll f (l.take (i + 1))) g g w3 ∧ Kept (fun n => n = rB) w1 w3) := by
            refine ⟨?_, HG.out.2.trans hk3 (fun _ _ e => e)⟩
            rw [take_putAll f hil, ht]
            exact hg.putR hs3 hk3
          clear hHeld KS KV HG hg hs3 hk3 d0 d1 d2 hX2 hX r2 ht hao hbB
          go_wp2
          go_roundw
          case rel => exact ⟨i + 1, by go_num, by omega, HZ.out⟩
          case measure => simp [intOf]; omega
        · obtain rfl : i = n := by omega
          have HG : Hid (KeepIn w0 T p B q N rp rB rq R W (putAll f l) (putAll f l) g g wr ∧ Kept (fun n => n = T ∨ n = B ∨ n = rB) w wr) := by
            have := HH.out.1
            rw [List.take_of_length_le (by rw [HNL.out]; exact Nat.le_refl _)] at this
            exact ⟨this, HK1.out.trans HH.out.2 (fun _ _ e => .inr (.inr e))⟩
          clear HH HS HK1 hao hbB hn0
          go_wp2_with fail
          have hg := HG.out.1
          refine (two_look T p rp (ptr q) (ptr rq) wr hg.cell).mono ?_
          rintro e w9 ⟨rfl, q', N', rq', R', W', hT9, hv9, hx9, hk9, lq, lN, lrq, lR, lW, a6, a7⟩
          have s1 := hg.game.s.map.lt
          have s2 := hg.game.rs.map.lt
          have s3 := hg.game.kept.size
          have oB : ¬ B = T := fun e => hg.game.s.map.off hg.cell e.symm
          have orB : ¬ rB = T := fun e => hg.game.rs.map.off hg.cell e.symm
          have HZ : Hid (KeepIn w0 T p B q' N' rp rB rq' R' W' (putAll f (redoF g)) (putAll f (redoF g)) (fun _ => none) (fun _ => none) w9 ∧ Kept (fun n => n = T ∨ n = B ∨ n = rB) w w9) := by
            rw [HLE.out]
            refine ⟨⟨hT9, ?_⟩, HG.out.2.trans hk9 (fun _ _ e => .inl e)⟩
            have hpT : ¬ p = T := fun e => by have := hg.cell; rw [← e, hg.game.s.cell] at this; simp at this
            have hrpT : ¬ rp = T := fun e => by have := hg.cell; rw [← e, hg.game.rs.cell] at this; simp at this
            exact { hg.game with
              s := hg.game.s.kept hk9 hpT oB
              v := hv9
              rs := hg.game.rs.kept hk9 hrpT orB
              rv := hx9
              kept := hg.game.kept.trans hk9 (fun k h1 h2 => by omega)
              nN := by omega, nR := by omega, nW := by omega
              a1 := by omega, a3 := by omega, a4 := by omega, a5 := by omega, a6 := a6, a7 := a7, a8 := by omega, a9 := by omega }
          clear hg HG hv9 hx9 hk9 hT9
          go_wp2_with fail
          go_end0
          exact ⟨rfl, ⟨_, _, _, _, _, HZ.out.1⟩, HZ.out.2⟩
end Go.Proofs.Ytkpcillgoeidaaa
