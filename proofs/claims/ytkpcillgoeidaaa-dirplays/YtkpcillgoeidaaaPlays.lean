
/- Of any objects and any calls each answer, what is read and what is written is as chapter 11 says; no conditions. -/
import Derived.Test.YtkpcillgoeidaaaKeepD
import Derived.Test.YtkpcillgoeidaaaOpenArgs
import Derived.Deep.CutBlock
namespace Go.Proofs.Ytkpcillgoeidaaa
open Go.RowKit
set_option maxRecDepth 100000
set_option linter.unusedSimpArgs false

def qcs (q : QA) : Array Value := #[.int .i64 q.k, .int .i64 q.d, .int .i64 q.i, .string q.s]
/-- All that the statement has in memory. -/
def PlayIn (w0 : World) (T p B q N rp rB rq R W D : Nat) (f : StF) (g : VwF) (y : QA) (w : World) : Prop :=
  KeepIn w0 T p B q N rp rB rq R W f f g g w ∧ Small f g ∧ w.heap[D]? = some (.cells (qcs y) 42 (0, 0))

theorem few {f : StF} {g : VwF} (h : Small f g) (d : Int) : (findV f g d).s.size ≤ 100000 := by have := h.found d; omega

set_option maxHeartbeats 4000000 in
theorem plays_law (ao : Option Addr) (len cap lb off : Nat) (Q : Nat → K2 × V) (hao : 0 < len → ao = some ⟨lb, off, none⟩) (bo : Option Addr) (ln cp mb of : Nat) (A : Nat → QA) (hbo : 0 < ln → bo = some ⟨mb, of, none⟩) (w : World)
    (hc : ∀ i, i < len → w.rangeAt lb (off + i * 19) (wc (Q i))) (hd : ∀ i, i < ln → QAt w mb (of + i * 4) (A i)) :
    Calls Try.prog 4 #[.slice ao len cap, .slice bo ln cp] w fun e w' => e = .returned (.bool true) ∧ Kept (fun _ => False) w w' := by
  have HD : Hid (∀ i, i < ln → QAt w mb (of + i * 4) (A i)) := hd
  go_enter Try.func4, Try.ntmps4
  go_wp2_with fail
  refine (keepnew_w ao len cap lb off Q hao w hc).mono ?_
  rintro e w1 ⟨T, p, B, q, N, rp, rB, rq, R, W, rfl, h1, hT⟩
  have H0 : Hid (KeepIn w T p B q N rp rB rq R W (initF Q (min len 60)) (initF Q (min len 60)) (fun _ => none) (fun _ => none) w1 ∧ Small (initF Q (min len 60)) (fun _ => none)) := ⟨h1, small_init _ _⟩
  clear h1 hc hd
  go_wp2_with fail
  go_loopw [6, 7, 8, 9, 10, 11, 12, 13] (fun v _ _ _ _ _ _ _ wr => ∃ (r : Nat) (q N rq R W : Nat) (f : StF) (g : VwF), v = .int .i64 r ∧ r ≤ ln ∧ r ≤ 25 ∧ Hid (KeepIn w T p B q N rp rB rq R W f f g g wr ∧ Small f g)) (fun v _ _ _ _ _ _ _ _ => 25 - (intOf v).toNat)
  case atStart => exact ⟨0, q, N, rq, R, W, _, _, rfl, by omega, by omega, H0.out⟩
  case round =>
    clear H0
    clear q N rq R W
    obtain ⟨r, q, N, rq, R, W, f, g, rfl, hr1, hr2, HH⟩ := hrel
    obtain ⟨z, hz⟩ : ∃ z : Bool, decide ((r : Int) < (ln : Int) ∧ (r : Int) < 25) = z := ⟨_, rfl⟩
    go_upto_region 5 with fail
    go_cut [25] from 18 to 25 (fun v wx => v = .bool z ∧ wx = wr)
    case first =>
      as_aux_lemma =>
      by_cases p1 : (r : Int) < (ln : Int)
      · by_cases p2 : (r : Int) < 25
        · have hz' : z = true := by rw [← hz]; simp [p1, p2]
          subst hz'
          clear hz
          go_wp2
          go_meet
          case rel => exact ⟨rfl, rfl⟩
        · have hz' : z = false := by rw [← hz]; simp [p1, p2]
          subst hz'
          clear hz
          go_wp2
          go_meet
          case rel => exact ⟨rfl, rfl⟩
      · have hz' : z = false := by rw [← hz]; simp [p1]
        subst hz'
        clear hz
        go_wp2
        go_meet
        case rel => exact ⟨rfl, rfl⟩
    case rest =>
      obtain ⟨rfl, hwc⟩ := hcut
      subst hwc
      cases z with
      | true =>
        as_aux_lemma =>
        simp only [decide_eq_true_eq] at hz
        obtain ⟨t1, t2⟩ := hz
        have hl1 : r < ln := by omega
        have h0 := hbo (by omega)
        subst h0
        have hq0 := HD.out r hl1
        obtain ⟨⟨qk, qd, qi, qs⟩, hqe⟩ : ∃ y, A r = y := ⟨_, rfl⟩
        rw [hqe] at hq0
        obtain ⟨e0, e1, e2, e3⟩ := hq0.still HH.out.1.game.kept
        simp only at e0 e1 e2 e3
        clear hqe hq0 hbo
        obtain ⟨D, hD⟩ : ∃ D : Nat, wc.heap.size = D := ⟨_, rfl⟩
        have HP : Hid (PlayIn w T p B q N rp rB rq R W D f g ⟨qk, qd, qi, qs⟩ (wc.alloc (.cells #[.int .i64 qk, .int .i64 qd, .int .i64 qi, .string qs] 42)) ∧ w.heap.size ≤ D ∧ T < D ∧ p < D ∧ rp < D) := by
          have hk := HH.out.1
          exact ⟨⟨hk.still ((Kept.refl _ _).alloc _), HH.out.2, alloc_at' _ hD⟩, by have := hk.game.kept.size; omega, by have := lt_at hk.cell; omega, by have := lt_at hk.game.s.cell; omega, by have := lt_at hk.game.rs.cell; omega⟩
        have c0 := cell_at HP.out.1.2.2 (i := 0) (v := .int .i64 qk) rfl
        have c3 := cell_at HP.out.1.2.2 (i := 3) (v := .string qs) rfl
        go_upto_region 8 with fail
        obtain ⟨w2, h2⟩ : ∃ w2, wc.alloc (.cells #[.int .i64 qk, .int .i64 qd, .int .i64 qi, .string qs] 42) = w2 := ⟨_, rfl⟩
        rw [h2] at HP c0 c3 ⊢
        clear h2 HH hD e0 e1 e2 e3
        obtain ⟨t, ht⟩ : ∃ t, qs.extract 0 (min qs.size 20) = t := ⟨_, rfl⟩
        have hts : t.size ≤ 1000000 := by rw [← ht, ByteArray.size_extract]; omega
        go_cut [8] from 18 to 177 (fun v wx => v = .string t ∧ wx = w2)
        case first =>
          as_aux_lemma =>
          by_cases hm : (20 : Int) < qs.size
          · have e1 : qs.extract 0 20 = t := by rw [← ht]; congr 1; omega
            clear ht
            go_wp2
            go_meet
            case rel => exact ⟨rfl, rfl⟩
          · have e1 : qs.extract 0 qs.size = t := by rw [← ht]; congr 1; omega
            clear ht
            go_wp2
            go_meet
            case rel => exact ⟨rfl, rfl⟩
        case rest =>
          obtain ⟨rfl, hwc⟩ := hcut
          subst hwc
          clear ht c3
          go_upto_block 2 with fail
          go_cut [9] from 18 to 177 (fun v wx => v = .bool true ∧ ∃ q N rq R W f g, Hid (PlayIn w T p B q N rp rB rq R W D f g ⟨qk, qd, qi, qs⟩ wx))
          case first =>
            as_aux_lemma =>
            have hk := HP.out.1.1
            have hs := HP.out.1.2.1
            have hD := HP.out.1.2.2
            have oD := hk.off hD
            have oT := hk.off hk.cell
            have hDT : D ≠ T := by have := HP.out.2.2.1; omega
            by_cases h1 : qk = 1
            · subst h1
              as_aux_lemma =>
              obtain ⟨ia, hia⟩ : ∃ b, addOk f g qd (bl t) qi = b := ⟨_, rfl⟩
              have KS : ∀ w', Kept (fun n => n = N ∨ RW R W n) wc w' → (w'.cell? ⟨T, 1, none⟩ = some (.pointer (some ⟨q, 0, none⟩)) ∧ w'.cell? ⟨T, 3, none⟩ = some (.pointer (some ⟨rq, 0, none⟩)) ∧ w'.cell? ⟨D, 1, none⟩ = some (.int .i64 qd) ∧ w'.cell? ⟨D, 2, none⟩ = some (.int .i64 qi)) :=
                fun w' hk' => ⟨hk'.cell hk.cells.2.1 (fun e => e.elim oT.1 oT.2.1), hk'.cell hk.cells.2.2.2 (fun e => e.elim oT.1 oT.2.1), hk'.cell (cell_at hD rfl) (fun e => e.elim oD.1 oD.2.1), hk'.cell (cell_at hD rfl) (fun e => e.elim oD.1 oD.2.1)⟩
              go_wp2_with fail
              refine wp_region_held_drew (S := fun w' => Kept (fun n => n = N ∨ RW R W n) wc w') (by kernel_rfl) ((Kept.refl _ _).drew) (fun hHeld => ?_)
              refine h_take 0 (some 43) (Op.move (Operand.tmp 5)) 22 ?v1 rfl rfl (by kernel_rfl) (by kernel_rfl) (by kernel_rfl) (fun _ _ _ h => h) ?hy1 hHeld ?_
              case hy1 => (intro _ _ _ w hSw; have hcs := KS _ hSw; go_simp; try with_reducible rfl)
              simp only [Act.put, List.setIfInBounds_toArray, List.set_cons_zero, List.set_cons_succ]
              refine h_take 1 (some 44) (Op.nilCheck (Operand.tmp 43)) 0 ?v2 rfl rfl (by kernel_rfl) (by kernel_rfl) (by kernel_rfl) (fun _ _ _ h => h) ?hy2 hHeld ?_
              case hy2 => (intro _ _ _ w hSw; have hcs := KS _ hSw; go_simp; try with_reducible rfl)
              simp only [Act.put, List.setIfInBounds_toArray, List.set_cons_zero, List.set_cons_succ]
              refine h_take 2 (some 45) (Op.fieldAddr 31 (Operand.tmp 44) 1) 0 ?v3 rfl rfl (by kernel_rfl) (by kernel_rfl) (by kernel_rfl) (fun _ _ _ h => h) ?hy3 hHeld ?_
              case hy3 => (intro _ _ _ w hSw; have hcs := KS _ hSw; go_simp; try with_reducible rfl)
              simp only [Act.put, List.setIfInBounds_toArray, List.set_cons_zero, List.set_cons_succ]
              refine h_take 3 (some 46) (Op.load 27 (Operand.tmp 45)) 27 ?v4 rfl rfl (by kernel_rfl) (by kernel_rfl) (by kernel_rfl) (fun _ _ _ h => h) ?hy4 hHeld ?_
              case hy4 => (intro _ _ _ w hSw; have hcs := KS _ hSw; go_simp; try with_reducible rfl)
              simp only [Act.put, List.setIfInBounds_toArray, List.set_cons_zero, List.set_cons_succ]
              refine h_take 4 (some 47) (Op.fieldAddr 42 (Operand.tmp 7) 1) 0 ?v5 rfl rfl (by kernel_rfl) (by kernel_rfl) (by kernel_rfl) (fun _ _ _ h => h) ?hy5 hHeld ?_
              case hy5 => (intro _ _ _ w hSw; have hcs := KS _ hSw; go_simp; try with_reducible rfl)
              simp only [Act.put, List.setIfInBounds_toArray, List.set_cons_zero, List.set_cons_succ]
              refine h_take 5 (some 48) (Op.load 3 (Operand.tmp 47)) 3 ?v6 rfl rfl (by kernel_rfl) (by kernel_rfl) (by kernel_rfl) (fun _ _ _ h => h) ?hy6 hHeld ?_
              case hy6 => (intro _ _ _ w hSw; have hcs := KS _ hSw; go_simp; try with_reducible rfl)
              simp only [Act.put, List.setIfInBounds_toArray, List.set_cons_zero, List.set_cons_succ]
              refine h_take 6 (some 49) (Op.move (Operand.tmp 8)) 9 ?v7 rfl rfl (by kernel_rfl) (by kernel_rfl) (by kernel_rfl) (fun _ _ _ h => h) ?hy7 hHeld ?_
              case hy7 => (intro _ _ _ w hSw; have hcs := KS _ hSw; go_simp; try with_reducible rfl)
              simp only [Act.put, List.setIfInBounds_toArray, List.set_cons_zero, List.set_cons_succ]
              refine h_take 7 (some 50) (Op.fieldAddr 42 (Operand.tmp 7) 2) 0 ?v8 rfl rfl (by kernel_rfl) (by kernel_rfl) (by kernel_rfl) (fun _ _ _ h => h) ?hy8 hHeld ?_
              case hy8 => (intro _ _ _ w hSw; have hcs := KS _ hSw; go_simp; try with_reducible rfl)
              simp only [Act.put, List.setIfInBounds_toArray, List.set_cons_zero, List.set_cons_succ]
              refine h_take 8 (some 51) (Op.load 3 (Operand.tmp 50)) 3 ?v9 rfl rfl (by kernel_rfl) (by kernel_rfl) (by kernel_rfl) (fun _ _ _ h => h) ?hy9 hHeld ?_
              case hy9 => (intro _ _ _ w hSw; have hcs := KS _ hSw; go_simp; try with_reducible rfl)
              simp only [Act.put, List.setIfInBounds_toArray, List.set_cons_zero, List.set_cons_succ]
              refine h_take 10 (some 53) (Op.move (Operand.tmp 5)) 22 ?v10 rfl rfl (by kernel_rfl) (by kernel_rfl) (by kernel_rfl) (fun _ _ _ h => h) ?hy10 hHeld ?_
              case hy10 => (intro _ _ _ w hSw; have hcs := KS _ hSw; go_simp; try with_reducible rfl)
              simp only [Act.put, List.setIfInBounds_toArray, List.set_cons_zero, List.set_cons_succ]
              refine h_take 11 (some 54) (Op.nilCheck (Operand.tmp 53)) 0 ?v11 rfl rfl (by kernel_rfl) (by kernel_rfl) (by kernel_rfl) (fun _ _ _ h => h) ?hy11 hHeld ?_
              case hy11 => (intro _ _ _ w hSw; have hcs := KS _ hSw; go_simp; try with_reducible rfl)
              simp only [Act.put, List.setIfInBounds_toArray, List.set_cons_zero, List.set_cons_succ]
              refine h_take 12 (some 55) (Op.fieldAddr 31 (Operand.tmp 54) 3) 0 ?v12 rfl rfl (by kernel_rfl) (by kernel_rfl) (by kernel_rfl) (fun _ _ _ h => h) ?hy12 hHeld ?_
              case hy12 => (intro _ _ _ w hSw; have hcs := KS _ hSw; go_simp; try with_reducible rfl)
              simp only [Act.put, List.setIfInBounds_toArray, List.set_cons_zero, List.set_cons_succ]
              refine h_take 13 (some 56) (Op.load 29 (Operand.tmp 55)) 29 ?v13 rfl rfl (by kernel_rfl) (by kernel_rfl) (by kernel_rfl) (fun _ _ _ h => h) ?hy13 hHeld ?_
              case hy13 => (intro _ _ _ w hSw; have hcs := KS _ hSw; go_simp; try with_reducible rfl)
              simp only [Act.put, List.setIfInBounds_toArray, List.set_cons_zero, List.set_cons_succ]
              refine h_take 14 (some 57) (Op.fieldAddr 42 (Operand.tmp 7) 1) 0 ?v14 rfl rfl (by kernel_rfl) (by kernel_rfl) (by kernel_rfl) (fun _ _ _ h => h) ?hy14 hHeld ?_
              case hy14 => (intro _ _ _ w hSw; have hcs := KS _ hSw; go_simp; try with_reducible rfl)
              simp only [Act.put, List.setIfInBounds_toArray, List.set_cons_zero, List.set_cons_succ]
              refine h_take 15 (some 58) (Op.load 3 (Operand.tmp 57)) 3 ?v15 rfl rfl (by kernel_rfl) (by kernel_rfl) (by kernel_rfl) (fun _ _ _ h => h) ?hy15 hHeld ?_
              case hy15 => (intro _ _ _ w hSw; have hcs := KS _ hSw; go_simp; try with_reducible rfl)
              simp only [Act.put, List.setIfInBounds_toArray, List.set_cons_zero, List.set_cons_succ]
              refine h_take 16 (some 59) (Op.move (Operand.tmp 8)) 9 ?v16 rfl rfl (by kernel_rfl) (by kernel_rfl) (by kernel_rfl) (fun _ _ _ h => h) ?hy16 hHeld ?_
              case hy16 => (intro _ _ _ w hSw; have hcs := KS _ hSw; go_simp; try with_reducible rfl)
              simp only [Act.put, List.setIfInBounds_toArray, List.set_cons_zero, List.set_cons_succ]
              refine h_take 17 (some 60) (Op.fieldAddr 42 (Operand.tmp 7) 2) 0 ?v17 rfl rfl (by kernel_rfl) (by kernel_rfl) (by kernel_rfl) (fun _ _ _ h => h) ?hy17 hHeld ?_
              case hy17 => (intro _ _ _ w hSw; have hcs := KS _ hSw; go_simp; try with_reducible rfl)
              simp only [Act.put, List.setIfInBounds_toArray, List.set_cons_zero, List.set_cons_succ]
              refine h_take 18 (some 61) (Op.load 3 (Operand.tmp 60)) 3 ?v18 rfl rfl (by kernel_rfl) (by kernel_rfl) (by kernel_rfl) (fun _ _ _ h => h) ?hy18 hHeld ?_
              case hy18 => (intro _ _ _ w hSw; have hcs := KS _ hSw; go_simp; try with_reducible rfl)
              simp only [Act.put, List.setIfInBounds_toArray, List.set_cons_zero, List.set_cons_succ]
              refine h_step 9 (some 52) (Op.call { callee := Callee.value (Operand.func 10), args := #[Operand.tmp 46, Operand.tmp 48, Operand.tmp 49, Operand.tmp 51], argTypes := #[27, 3, 9, 3] }) 4 rfl rfl (by kernel_rfl) (fun _ _ _ K hK => ?_)
              go_simp
              refine (kv_dadd (hk.still (Kept.refl _ wc).drew) qd t hts qi (few hs qd)).mono ?_
              rintro e w3 ⟨rfl, hk3, kp3⟩
              replace kp3 : Kept (fun n => n = N) wc w3 := (Kept.refl _ wc).drew.trans kp3 (fun _ _ e => e)
              rw [hia]
              go_wp2_with fail
              refine hK.out _ _ (kp3.mono (fun _ _ e => .inl e)) (fun hHeld => ?_)
              clear hK K
              try simp only [Act.put, List.setIfInBounds_toArray, List.set_cons_zero, List.set_cons_succ]
              refine h_step 19 (some 62) (Op.call { callee := Callee.value (Operand.func 15), args := #[Operand.tmp 56, Operand.tmp 58, Operand.tmp 59, Operand.tmp 61], argTypes := #[29, 3, 9, 3] }) 4 rfl rfl (by kernel_rfl) (fun _ _ _ K hK => ?_)
              go_simp
              refine (kr_dadd hk3 qd t hts qi (few hs qd)).mono ?_
              rintro e w4 ⟨rfl, hk4, kp4⟩
              have k4 : Kept (fun n => n = N ∨ RW R W n) wc w4 := (kp3.mono (fun _ _ e => .inl e)).trans kp4 (fun _ _ e => .inr e)
              rw [hia]
              go_wp2_with fail
              refine hK.out _ _ (k4) (fun hHeld => ?_)
              clear hK K
              try simp only [Act.put, List.setIfInBounds_toArray, List.set_cons_zero, List.set_cons_succ]
              refine h_take 20 (some 63) (Op.binOp BinOp.eql 4 (Operand.tmp 52) (Operand.tmp 62) 4) 4 ?v19 rfl rfl (by kernel_rfl) (by kernel_rfl) (by kernel_rfl) (fun _ _ _ h => h) ?hy19 hHeld ?_
              case hy19 => (intro _ _ _ w hSw; have hcs := KS _ hSw; go_simp; try with_reducible rfl)
              simp only [Act.put, List.setIfInBounds_toArray, List.set_cons_zero, List.set_cons_succ]
              refine h_take 21 (some 9) (Op.assign (Operand.tmp 63)) 4 ?v20 rfl rfl (by kernel_rfl) (by kernel_rfl) (by kernel_rfl) (fun _ _ _ h => h) ?hy20 hHeld ?_
              case hy20 => (intro _ _ _ w hSw; have hcs := KS _ hSw; go_simp; try with_reducible rfl)
              simp only [Act.put, List.setIfInBounds_toArray, List.set_cons_zero, List.set_cons_succ]
              refine wpAnyH_done (by kernel_rfl) ?_ _
              have HN : Hid (PlayIn w T p B q N rp rB rq R W D f (addT f g qd (bl t) qi) ⟨1, qd, qi, qs⟩ w4) := ⟨hk4, hs.add qd _ qi, k4.at hD (fun e => e.elim oD.1 oD.2.1)⟩
              clear hHeld KS kp3 kp4 k4 hk4 hk3 hk hs hD oD oT hia
              go_wp2
              go_meet
              case rel => exact ⟨rfl, _, _, _, _, _, _, _, HN.out⟩
            by_cases h2 : qk = 2
            · subst h2
              as_aux_lemma =>
              obtain ⟨ia, hia⟩ : ∃ b, (foundE (dirE f g qd) (bl t)).isSome = b := ⟨_, rfl⟩
              have KS : ∀ w', Kept (fun n => n = N ∨ RW R W n) wc w' → (w'.cell? ⟨T, 1, none⟩ = some (.pointer (some ⟨q, 0, none⟩)) ∧ w'.cell? ⟨T, 3, none⟩ = some (.pointer (some ⟨rq, 0, none⟩)) ∧ w'.cell? ⟨D, 1, none⟩ = some (.int .i64 qd)) :=
                fun w' hk' => ⟨hk'.cell hk.cells.2.1 (fun e => e.elim oT.1 oT.2.1), hk'.cell hk.cells.2.2.2 (fun e => e.elim oT.1 oT.2.1), hk'.cell (cell_at hD rfl) (fun e => e.elim oD.1 oD.2.1)⟩
              go_wp2_with fail
              refine wp_region_held_drew (S := fun w' => Kept (fun n => n = N ∨ RW R W n) wc w') (by kernel_rfl) ((Kept.refl _ _).drew) (fun hHeld => ?_)
              refine h_take 0 (some 66) (Op.move (Operand.tmp 5)) 22 ?v21 rfl rfl (by kernel_rfl) (by kernel_rfl) (by kernel_rfl) (fun _ _ _ h => h) ?hy21 hHeld ?_
              case hy21 => (intro _ _ _ w hSw; have hcs := KS _ hSw; go_simp; try with_reducible rfl)
              simp only [Act.put, List.setIfInBounds_toArray, List.set_cons_zero, List.set_cons_succ]
              refine h_take 1 (some 67) (Op.nilCheck (Operand.tmp 66)) 0 ?v22 rfl rfl (by kernel_rfl) (by kernel_rfl) (by kernel_rfl) (fun _ _ _ h => h) ?hy22 hHeld ?_
              case hy22 => (intro _ _ _ w hSw; have hcs := KS _ hSw; go_simp; try with_reducible rfl)
              simp only [Act.put, List.setIfInBounds_toArray, List.set_cons_zero, List.set_cons_succ]
              refine h_take 2 (some 68) (Op.fieldAddr 31 (Operand.tmp 67) 1) 0 ?v23 rfl rfl (by kernel_rfl) (by kernel_rfl) (by kernel_rfl) (fun _ _ _ h => h) ?hy23 hHeld ?_
              case hy23 => (intro _ _ _ w hSw; have hcs := KS _ hSw; go_simp; try with_reducible rfl)
              simp only [Act.put, List.setIfInBounds_toArray, List.set_cons_zero, List.set_cons_succ]
              refine h_take 3 (some 69) (Op.load 27 (Operand.tmp 68)) 27 ?v24 rfl rfl (by kernel_rfl) (by kernel_rfl) (by kernel_rfl) (fun _ _ _ h => h) ?hy24 hHeld ?_
              case hy24 => (intro _ _ _ w hSw; have hcs := KS _ hSw; go_simp; try with_reducible rfl)
              simp only [Act.put, List.setIfInBounds_toArray, List.set_cons_zero, List.set_cons_succ]
              refine h_take 4 (some 70) (Op.fieldAddr 42 (Operand.tmp 7) 1) 0 ?v25 rfl rfl (by kernel_rfl) (by kernel_rfl) (by kernel_rfl) (fun _ _ _ h => h) ?hy25 hHeld ?_
              case hy25 => (intro _ _ _ w hSw; have hcs := KS _ hSw; go_simp; try with_reducible rfl)
              simp only [Act.put, List.setIfInBounds_toArray, List.set_cons_zero, List.set_cons_succ]
              refine h_take 5 (some 71) (Op.load 3 (Operand.tmp 70)) 3 ?v26 rfl rfl (by kernel_rfl) (by kernel_rfl) (by kernel_rfl) (fun _ _ _ h => h) ?hy26 hHeld ?_
              case hy26 => (intro _ _ _ w hSw; have hcs := KS _ hSw; go_simp; try with_reducible rfl)
              simp only [Act.put, List.setIfInBounds_toArray, List.set_cons_zero, List.set_cons_succ]
              refine h_take 6 (some 72) (Op.move (Operand.tmp 8)) 9 ?v27 rfl rfl (by kernel_rfl) (by kernel_rfl) (by kernel_rfl) (fun _ _ _ h => h) ?hy27 hHeld ?_
              case hy27 => (intro _ _ _ w hSw; have hcs := KS _ hSw; go_simp; try with_reducible rfl)
              simp only [Act.put, List.setIfInBounds_toArray, List.set_cons_zero, List.set_cons_succ]
              refine h_take 8 (some 74) (Op.move (Operand.tmp 5)) 22 ?v28 rfl rfl (by kernel_rfl) (by kernel_rfl) (by kernel_rfl) (fun _ _ _ h => h) ?hy28 hHeld ?_
              case hy28 => (intro _ _ _ w hSw; have hcs := KS _ hSw; go_simp; try with_reducible rfl)
              simp only [Act.put, List.setIfInBounds_toArray, List.set_cons_zero, List.set_cons_succ]
              refine h_take 9 (some 75) (Op.nilCheck (Operand.tmp 74)) 0 ?v29 rfl rfl (by kernel_rfl) (by kernel_rfl) (by kernel_rfl) (fun _ _ _ h => h) ?hy29 hHeld ?_
              case hy29 => (intro _ _ _ w hSw; have hcs := KS _ hSw; go_simp; try with_reducible rfl)
              simp only [Act.put, List.setIfInBounds_toArray, List.set_cons_zero, List.set_cons_succ]
              refine h_take 10 (some 76) (Op.fieldAddr 31 (Operand.tmp 75) 3) 0 ?v30 rfl rfl (by kernel_rfl) (by kernel_rfl) (by kernel_rfl) (fun _ _ _ h => h) ?hy30 hHeld ?_
              case hy30 => (intro _ _ _ w hSw; have hcs := KS _ hSw; go_simp; try with_reducible rfl)
              simp only [Act.put, List.setIfInBounds_toArray, List.set_cons_zero, List.set_cons_succ]
              refine h_take 11 (some 77) (Op.load 29 (Operand.tmp 76)) 29 ?v31 rfl rfl (by kernel_rfl) (by kernel_rfl) (by kernel_rfl) (fun _ _ _ h => h) ?hy31 hHeld ?_
              case hy31 => (intro _ _ _ w hSw; have hcs := KS _ hSw; go_simp; try with_reducible rfl)
              simp only [Act.put, List.setIfInBounds_toArray, List.set_cons_zero, List.set_cons_succ]
              refine h_take 12 (some 78) (Op.fieldAddr 42 (Operand.tmp 7) 1) 0 ?v32 rfl rfl (by kernel_rfl) (by kernel_rfl) (by kernel_rfl) (fun _ _ _ h => h) ?hy32 hHeld ?_
              case hy32 => (intro _ _ _ w hSw; have hcs := KS _ hSw; go_simp; try with_reducible rfl)
              simp only [Act.put, List.setIfInBounds_toArray, List.set_cons_zero, List.set_cons_succ]
              refine h_take 13 (some 79) (Op.load 3 (Operand.tmp 78)) 3 ?v33 rfl rfl (by kernel_rfl) (by kernel_rfl) (by kernel_rfl) (fun _ _ _ h => h) ?hy33 hHeld ?_
              case hy33 => (intro _ _ _ w hSw; have hcs := KS _ hSw; go_simp; try with_reducible rfl)
              simp only [Act.put, List.setIfInBounds_toArray, List.set_cons_zero, List.set_cons_succ]
              refine h_take 14 (some 80) (Op.move (Operand.tmp 8)) 9 ?v34 rfl rfl (by kernel_rfl) (by kernel_rfl) (by kernel_rfl) (fun _ _ _ h => h) ?hy34 hHeld ?_
              case hy34 => (intro _ _ _ w hSw; have hcs := KS _ hSw; go_simp; try with_reducible rfl)
              simp only [Act.put, List.setIfInBounds_toArray, List.set_cons_zero, List.set_cons_succ]
              refine h_step 7 (some 73) (Op.call { callee := Callee.value (Operand.func 11), args := #[Operand.tmp 69, Operand.tmp 71, Operand.tmp 72], argTypes := #[27, 3, 9] }) 4 rfl rfl (by kernel_rfl) (fun _ _ _ K hK => ?_)
              go_simp
              refine (kv_drm (hk.still (Kept.refl _ wc).drew) qd t hts (few hs qd)).mono ?_
              rintro e w3 ⟨rfl, hk3, kp3⟩
              replace kp3 : Kept (fun n => n = N) wc w3 := (Kept.refl _ wc).drew.trans kp3 (fun _ _ e => e)
              rw [hia]
              go_wp2_with fail
              refine hK.out _ _ (kp3.mono (fun _ _ e => .inl e)) (fun hHeld => ?_)
              clear hK K
              try simp only [Act.put, List.setIfInBounds_toArray, List.set_cons_zero, List.set_cons_succ]
              refine h_step 15 (some 81) (Op.call { callee := Callee.value (Operand.func 16), args := #[Operand.tmp 77, Operand.tmp 79, Operand.tmp 80], argTypes := #[29, 3, 9] }) 4 rfl rfl (by kernel_rfl) (fun _ _ _ K hK => ?_)
              go_simp
              refine (kr_drm hk3 qd t hts (few hs qd)).mono ?_
              rintro e w4 ⟨rfl, hk4, kp4⟩
              have k4 : Kept (fun n => n = N ∨ RW R W n) wc w4 := (kp3.mono (fun _ _ e => .inl e)).trans kp4 (fun _ _ e => .inr e)
              rw [hia]
              go_wp2_with fail
              refine hK.out _ _ (k4) (fun hHeld => ?_)
              clear hK K
              try simp only [Act.put, List.setIfInBounds_toArray, List.set_cons_zero, List.set_cons_succ]
              refine h_take 16 (some 82) (Op.binOp BinOp.eql 4 (Operand.tmp 73) (Operand.tmp 81) 4) 4 ?v35 rfl rfl (by kernel_rfl) (by kernel_rfl) (by kernel_rfl) (fun _ _ _ h => h) ?hy35 hHeld ?_
              case hy35 => (intro _ _ _ w hSw; have hcs := KS _ hSw; go_simp; try with_reducible rfl)
              simp only [Act.put, List.setIfInBounds_toArray, List.set_cons_zero, List.set_cons_succ]
              refine h_take 17 (some 9) (Op.assign (Operand.tmp 82)) 4 ?v36 rfl rfl (by kernel_rfl) (by kernel_rfl) (by kernel_rfl) (fun _ _ _ h => h) ?hy36 hHeld ?_
              case hy36 => (intro _ _ _ w hSw; have hcs := KS _ hSw; go_simp; try with_reducible rfl)
              simp only [Act.put, List.setIfInBounds_toArray, List.set_cons_zero, List.set_cons_succ]
              refine wpAnyH_done (by kernel_rfl) ?_ _
              have HN : Hid (PlayIn w T p B q N rp rB rq R W D f (rmT f g qd (bl t)) ⟨2, qd, qi, qs⟩ w4) := ⟨hk4, hs.rm qd _, k4.at hD (fun e => e.elim oD.1 oD.2.1)⟩
              clear hHeld KS kp3 kp4 k4 hk4 hk3 hk hs hD oD oT hia
              go_wp2
              go_meet
              case rel => exact ⟨rfl, _, _, _, _, _, _, _, HN.out⟩
            by_cases h4 : qk = 4
            · subst h4
              as_aux_lemma =>
              go_wp2_with fail
              refine (two_put hk hT).mono ?_
              rintro e w3 ⟨rfl, ⟨q', N', rq', R', W', h3⟩, hkp⟩
              have HN : Hid (PlayIn w T p B q' N' rp rB rq' R' W' D (putAll f (redoF g)) (fun _ => none) ⟨4, qd, qi, qs⟩ w3) := ⟨h3, hs.redo, hkp.at hD (by have := oD.2.2; omega)⟩
              clear hk hs hD oD oT h3 hkp
              go_wp2
              go_meet
              case rel => exact ⟨rfl, _, _, _, _, _, _, _, HN.out⟩
            ·
              as_aux_lemma =>
              have HN : Hid (PlayIn w T p B q N rp rB rq R W D f g ⟨qk, qd, qi, qs⟩ wc) := HP.out.1
              clear hk hs hD oD oT
              go_wp2
              go_meet
              case rel => exact ⟨rfl, _, _, _, _, _, _, _, HN.out⟩
          case rest =>
            as_aux_lemma =>
            obtain ⟨rfl, q', N', rq', R', W', f', g', HG⟩ := hcut
            clear c0
            have hk := HG.out.1
            have hs := HG.out.2.1
            have hD := HG.out.2.2
            have oD := hk.off hD
            have oT := hk.off hk.cell
            have HF : Hid (dirE f' (findT g' qd) qd = dirE f' g' qd ∧ isDirF f' (findT g' qd) qd = isDirF f' g' qd ∧ findT (findT g' qd) qd = findT g' qd ∧ Small f' (findT g' qd)) := ⟨(dir_again f' g' qd).1, (dir_again f' g' qd).2, find_again g' qd, hs.find qd⟩
            obtain ⟨fa, fb, hfab⟩ : ∃ fa fb, foundV (foundE (dirE f' g' qd) (bl t)) = .tuple #[.int .i64 fa, .bool fb] := ⟨_, _, rfl⟩
            have KS : ∀ w', Kept (fun n => n = N') wc w' → (w'.cell? ⟨T, 1, none⟩ = some (.pointer (some ⟨q', 0, none⟩)) ∧ w'.cell? ⟨D, 1, none⟩ = some (.int .i64 qd)) :=
              fun w' hk' => ⟨hk'.cell hk.cells.2.1 oT.1, hk'.cell (cell_at hD rfl) oD.1⟩
            go_upto_region 17 with fail
            refine wp_region_held_drew (S := fun w' => Kept (fun n => n = N') wc w') (by kernel_rfl) ((Kept.refl _ _).drew) (fun hHeld => ?_)
            refine h_take 0 (some 88) (Op.move (Operand.tmp 5)) 22 ?v37 rfl rfl (by kernel_rfl) (by kernel_rfl) (by kernel_rfl) (fun _ _ _ h => h) ?hy37 hHeld ?_
            case hy37 => (intro _ _ _ w hSw; have hcs := KS _ hSw; go_simp; try with_reducible rfl)
            simp only [Act.put, List.setIfInBounds_toArray, List.set_cons_zero, List.set_cons_succ]
            refine h_take 1 (some 89) (Op.nilCheck (Operand.tmp 88)) 0 ?v38 rfl rfl (by kernel_rfl) (by kernel_rfl) (by kernel_rfl) (fun _ _ _ h => h) ?hy38 hHeld ?_
            case hy38 => (intro _ _ _ w hSw; have hcs := KS _ hSw; go_simp; try with_reducible rfl)
            simp only [Act.put, List.setIfInBounds_toArray, List.set_cons_zero, List.set_cons_succ]
            refine h_take 2 (some 90) (Op.fieldAddr 31 (Operand.tmp 89) 1) 0 ?v39 rfl rfl (by kernel_rfl) (by kernel_rfl) (by kernel_rfl) (fun _ _ _ h => h) ?hy39 hHeld ?_
            case hy39 => (intro _ _ _ w hSw; have hcs := KS _ hSw; go_simp; try with_reducible rfl)
            simp only [Act.put, List.setIfInBounds_toArray, List.set_cons_zero, List.set_cons_succ]
            refine h_take 3 (some 91) (Op.load 27 (Operand.tmp 90)) 27 ?v40 rfl rfl (by kernel_rfl) (by kernel_rfl) (by kernel_rfl) (fun _ _ _ h => h) ?hy40 hHeld ?_
            case hy40 => (intro _ _ _ w hSw; have hcs := KS _ hSw; go_simp; try with_reducible rfl)
            simp only [Act.put, List.setIfInBounds_toArray, List.set_cons_zero, List.set_cons_succ]
            refine h_take 4 (some 92) (Op.fieldAddr 42 (Operand.tmp 7) 1) 0 ?v41 rfl rfl (by kernel_rfl) (by kernel_rfl) (by kernel_rfl) (fun _ _ _ h => h) ?hy41 hHeld ?_
            case hy41 => (intro _ _ _ w hSw; have hcs := KS _ hSw; go_simp; try with_reducible rfl)
            simp only [Act.put, List.setIfInBounds_toArray, List.set_cons_zero, List.set_cons_succ]
            refine h_take 5 (some 93) (Op.load 3 (Operand.tmp 92)) 3 ?v42 rfl rfl (by kernel_rfl) (by kernel_rfl) (by kernel_rfl) (fun _ _ _ h => h) ?hy42 hHeld ?_
            case hy42 => (intro _ _ _ w hSw; have hcs := KS _ hSw; go_simp; try with_reducible rfl)
            simp only [Act.put, List.setIfInBounds_toArray, List.set_cons_zero, List.set_cons_succ]
            refine h_take 6 (some 94) (Op.move (Operand.tmp 8)) 9 ?v43 rfl rfl (by kernel_rfl) (by kernel_rfl) (by kernel_rfl) (fun _ _ _ h => h) ?hy43 hHeld ?_
            case hy43 => (intro _ _ _ w hSw; have hcs := KS _ hSw; go_simp; try with_reducible rfl)
            simp only [Act.put, List.setIfInBounds_toArray, List.set_cons_zero, List.set_cons_succ]
            refine h_step 7 (some 95) (Op.call { callee := Callee.value (Operand.func 12), args := #[Operand.tmp 91, Operand.tmp 93, Operand.tmp 94], argTypes := #[27, 3, 9] }) 24 rfl rfl (by kernel_rfl) (fun _ _ _ K hK => ?_)
            go_simp
            refine (kv_dfind (hk.still (Kept.refl _ wc).drew) qd t hts (few hs qd)).mono ?_
            rintro e w3 ⟨rfl, hk3, kp3⟩
            replace kp3 : Kept (fun n => n = N') wc w3 := (Kept.refl _ wc).drew.trans kp3 (fun _ _ e => e)
            rw [hfab]
            go_wp2_with fail
            refine hK.out _ _ (kp3) (fun hHeld => ?_)
            clear hK K
            try simp only [Act.put, List.setIfInBounds_toArray, List.set_cons_zero, List.set_cons_succ]
            refine h_take 8 (some 87) (Op.move (Operand.tmp 95)) 24 ?v44 rfl rfl (by kernel_rfl) (by kernel_rfl) (by kernel_rfl) (fun _ _ _ h => h) ?hy44 hHeld ?_
            case hy44 => (intro _ _ _ w hSw; have hcs := KS _ hSw; go_simp; try with_reducible rfl)
            simp only [Act.put, List.setIfInBounds_toArray, List.set_cons_zero, List.set_cons_succ]
            refine h_take 9 (some 96) (Op.extract (Operand.tmp 87) 0) 3 ?v45 rfl rfl (by kernel_rfl) (by kernel_rfl) (by kernel_rfl) (fun _ _ _ h => h) ?hy45 hHeld ?_
            case hy45 => (intro _ _ _ w hSw; have hcs := KS _ hSw; go_simp; try with_reducible rfl)
            simp only [Act.put, List.setIfInBounds_toArray, List.set_cons_zero, List.set_cons_succ]
            refine h_take 10 (some 97) (Op.extract (Operand.tmp 87) 1) 4 ?v46 rfl rfl (by kernel_rfl) (by kernel_rfl) (by kernel_rfl) (fun _ _ _ h => h) ?hy46 hHeld ?_
            case hy46 => (intro _ _ _ w hSw; have hcs := KS _ hSw; go_simp; try with_reducible rfl)
            simp only [Act.put, List.setIfInBounds_toArray, List.set_cons_zero, List.set_cons_succ]
            refine h_take 11 (some 10) (Op.assign (Operand.tmp 96)) 3 ?v47 rfl rfl (by kernel_rfl) (by kernel_rfl) (by kernel_rfl) (fun _ _ _ h => h) ?hy47 hHeld ?_
            case hy47 => (intro _ _ _ w hSw; have hcs := KS _ hSw; go_simp; try with_reducible rfl)
            simp only [Act.put, List.setIfInBounds_toArray, List.set_cons_zero, List.set_cons_succ]
            refine h_take 12 (some 11) (Op.assign (Operand.tmp 97)) 4 ?v48 rfl rfl (by kernel_rfl) (by kernel_rfl) (by kernel_rfl) (fun _ _ _ h => h) ?hy48 hHeld ?_
            case hy48 => (intro _ _ _ w hSw; have hcs := KS _ hSw; go_simp; try with_reducible rfl)
            simp only [Act.put, List.setIfInBounds_toArray, List.set_cons_zero, List.set_cons_succ]
            refine wpAnyH_done (by kernel_rfl) ?_ _
            have hD3 := kp3.at hD oD.1
            have oT3 := hk3.off hk3.cell
            have oD3 := hk3.off hD3
            clear hHeld KS kp3 hk hD oD oT
            have KS : ∀ w', Kept (RW R' W') w3 w' → (w'.cell? ⟨T, 3, none⟩ = some (.pointer (some ⟨rq', 0, none⟩)) ∧ w'.cell? ⟨D, 1, none⟩ = some (.int .i64 qd)) :=
              fun w' hk' => ⟨hk'.cell hk3.cells.2.2.2 oT3.2.1, hk'.cell (cell_at hD3 rfl) oD3.2.1⟩
            go_upto_region 18 with fail
            refine wp_region_held_drew (S := fun w' => Kept (RW R' W') w3 w') (by kernel_rfl) ((Kept.refl _ _).drew) (fun hHeld => ?_)
            refine h_take 0 (some 99) (Op.move (Operand.tmp 5)) 22 ?v49 rfl rfl (by kernel_rfl) (by kernel_rfl) (by kernel_rfl) (fun _ _ _ h => h) ?hy49 hHeld ?_
            case hy49 => (intro _ _ _ w hSw; have hcs := KS _ hSw; go_simp; try with_reducible rfl)
            simp only [Act.put, List.setIfInBounds_toArray, List.set_cons_zero, List.set_cons_succ]
            refine h_take 1 (some 100) (Op.nilCheck (Operand.tmp 99)) 0 ?v50 rfl rfl (by kernel_rfl) (by kernel_rfl) (by kernel_rfl) (fun _ _ _ h => h) ?hy50 hHeld ?_
            case hy50 => (intro _ _ _ w hSw; have hcs := KS _ hSw; go_simp; try with_reducible rfl)
            simp only [Act.put, List.setIfInBounds_toArray, List.set_cons_zero, List.set_cons_succ]
            refine h_take 2 (some 101) (Op.fieldAddr 31 (Operand.tmp 100) 3) 0 ?v51 rfl rfl (by kernel_rfl) (by kernel_rfl) (by kernel_rfl) (fun _ _ _ h => h) ?hy51 hHeld ?_
            case hy51 => (intro _ _ _ w hSw; have hcs := KS _ hSw; go_simp; try with_reducible rfl)
            simp only [Act.put, List.setIfInBounds_toArray, List.set_cons_zero, List.set_cons_succ]
            refine h_take 3 (some 102) (Op.load 29 (Operand.tmp 101)) 29 ?v52 rfl rfl (by kernel_rfl) (by kernel_rfl) (by kernel_rfl) (fun _ _ _ h => h) ?hy52 hHeld ?_
            case hy52 => (intro _ _ _ w hSw; have hcs := KS _ hSw; go_simp; try with_reducible rfl)
            simp only [Act.put, List.setIfInBounds_toArray, List.set_cons_zero, List.set_cons_succ]
            refine h_take 4 (some 103) (Op.fieldAddr 42 (Operand.tmp 7) 1) 0 ?v53 rfl rfl (by kernel_rfl) (by kernel_rfl) (by kernel_rfl) (fun _ _ _ h => h) ?hy53 hHeld ?_
            case hy53 => (intro _ _ _ w hSw; have hcs := KS _ hSw; go_simp; try with_reducible rfl)
            simp only [Act.put, List.setIfInBounds_toArray, List.set_cons_zero, List.set_cons_succ]
            refine h_take 5 (some 104) (Op.load 3 (Operand.tmp 103)) 3 ?v54 rfl rfl (by kernel_rfl) (by kernel_rfl) (by kernel_rfl) (fun _ _ _ h => h) ?hy54 hHeld ?_
            case hy54 => (intro _ _ _ w hSw; have hcs := KS _ hSw; go_simp; try with_reducible rfl)
            simp only [Act.put, List.setIfInBounds_toArray, List.set_cons_zero, List.set_cons_succ]
            refine h_take 6 (some 105) (Op.move (Operand.tmp 8)) 9 ?v55 rfl rfl (by kernel_rfl) (by kernel_rfl) (by kernel_rfl) (fun _ _ _ h => h) ?hy55 hHeld ?_
            case hy55 => (intro _ _ _ w hSw; have hcs := KS _ hSw; go_simp; try with_reducible rfl)
            simp only [Act.put, List.setIfInBounds_toArray, List.set_cons_zero, List.set_cons_succ]
            refine h_step 7 (some 106) (Op.call { callee := Callee.value (Operand.func 18), args := #[Operand.tmp 102, Operand.tmp 104, Operand.tmp 105], argTypes := #[29, 3, 9] }) 24 rfl rfl (by kernel_rfl) (fun _ _ _ K hK => ?_)
            go_simp
            refine (kr_dfind (hk3.still (Kept.refl _ w3).drew) qd t hts (few hs qd)).mono ?_
            rintro e w4 ⟨rfl, hk4, kp4⟩
            replace kp4 : Kept (RW R' W') w3 w4 := (Kept.refl _ w3).drew.trans kp4 (fun _ _ e => e)
            rw [hfab]
            go_wp2_with fail
            refine hK.out _ _ (kp4) (fun hHeld => ?_)
            clear hK K
            try simp only [Act.put, List.setIfInBounds_toArray, List.set_cons_zero, List.set_cons_succ]
            refine h_take 8 (some 98) (Op.move (Operand.tmp 106)) 24 ?v56 rfl rfl (by kernel_rfl) (by kernel_rfl) (by kernel_rfl) (fun _ _ _ h => h) ?hy56 hHeld ?_
            case hy56 => (intro _ _ _ w hSw; have hcs := KS _ hSw; go_simp; try with_reducible rfl)
            simp only [Act.put, List.setIfInBounds_toArray, List.set_cons_zero, List.set_cons_succ]
            refine h_take 9 (some 107) (Op.extract (Operand.tmp 98) 0) 3 ?v57 rfl rfl (by kernel_rfl) (by kernel_rfl) (by kernel_rfl) (fun _ _ _ h => h) ?hy57 hHeld ?_
            case hy57 => (intro _ _ _ w hSw; have hcs := KS _ hSw; go_simp; try with_reducible rfl)
            simp only [Act.put, List.setIfInBounds_toArray, List.set_cons_zero, List.set_cons_succ]
            refine h_take 10 (some 108) (Op.extract (Operand.tmp 98) 1) 4 ?v58 rfl rfl (by kernel_rfl) (by kernel_rfl) (by kernel_rfl) (fun _ _ _ h => h) ?hy58 hHeld ?_
            case hy58 => (intro _ _ _ w hSw; have hcs := KS _ hSw; go_simp; try with_reducible rfl)
            simp only [Act.put, List.setIfInBounds_toArray, List.set_cons_zero, List.set_cons_succ]
            refine h_take 11 (some 12) (Op.assign (Operand.tmp 107)) 3 ?v59 rfl rfl (by kernel_rfl) (by kernel_rfl) (by kernel_rfl) (fun _ _ _ h => h) ?hy59 hHeld ?_
            case hy59 => (intro _ _ _ w hSw; have hcs := KS _ hSw; go_simp; try with_reducible rfl)
            simp only [Act.put, List.setIfInBounds_toArray, List.set_cons_zero, List.set_cons_succ]
            refine h_take 12 (some 13) (Op.assign (Operand.tmp 108)) 4 ?v60 rfl rfl (by kernel_rfl) (by kernel_rfl) (by kernel_rfl) (fun _ _ _ h => h) ?hy60 hHeld ?_
            case hy60 => (intro _ _ _ w hSw; have hcs := KS _ hSw; go_simp; try with_reducible rfl)
            simp only [Act.put, List.setIfInBounds_toArray, List.set_cons_zero, List.set_cons_succ]
            refine wpAnyH_done (by kernel_rfl) ?_ _
            have hD4 := kp4.at hD3 oD3.2.1
            clear hHeld KS kp4 hk3 hD3 oT3 oD3 HG hs hfab
            obtain ⟨g1, hg1⟩ : ∃ g1, findT g' qd = g1 := ⟨_, rfl⟩
            rw [hg1] at hk4 HF
            have hs1 := HF.out.2.2.2
            have hf1 := HF.out.2.2.1
            clear hg1 HF
            have oD := hk4.off hD4
            have oT := hk4.off hk4.cell
            obtain ⟨ib, hib⟩ : ∃ b, isDirF f' g1 qd = b := ⟨_, rfl⟩
            obtain ⟨es, hes⟩ : ∃ es, namesE (dirE f' g1 qd) = es := ⟨_, rfl⟩
            have hesl : es.length ≤ 1000000 := by have h1 := names_len (dirE f' g1 qd); have h2 := dirE_le f' g1 qd; rw [hes] at h1; omega
            obtain ⟨bb, hbb⟩ : ∃ b, bareE (dirE f' g1 qd) = b := ⟨_, rfl⟩
            have KS : ∀ w', Kept (fun n => n = N' ∨ RW R' W' n) w4 w' → (w'.cell? ⟨T, 1, none⟩ = some (.pointer (some ⟨q', 0, none⟩)) ∧ w'.cell? ⟨T, 3, none⟩ = some (.pointer (some ⟨rq', 0, none⟩)) ∧ w'.cell? ⟨D, 1, none⟩ = some (.int .i64 qd)) :=
              fun w' hk' => ⟨hk'.cell hk4.cells.2.1 (fun e => e.elim oT.1 oT.2.1), hk'.cell hk4.cells.2.2.2 (fun e => e.elim oT.1 oT.2.1), hk'.cell (cell_at hD4 rfl) (fun e => e.elim oD.1 oD.2.1)⟩
            go_upto_region 19 with fail
            refine wp_region_held_drew (S := fun w' => Kept (fun n => n = N' ∨ RW R' W' n) w4 w') (by kernel_rfl) ((Kept.refl _ _).drew) (fun hHeld => ?_)
            refine h_take 0 (some 109) (Op.move (Operand.tmp 9)) 4 ?v61 rfl rfl (by kernel_rfl) (by kernel_rfl) (by kernel_rfl) (fun _ _ _ h => h) ?hy61 hHeld ?_
            case hy61 => (intro _ _ _ w hSw; have hcs := KS _ hSw; go_simp; try with_reducible rfl)
            simp only [Act.put, List.setIfInBounds_toArray, List.set_cons_zero, List.set_cons_succ]
            refine h_take 1 (some 110) (Op.unOp UnOp.not 4 (Operand.tmp 109)) 4 ?v62 rfl rfl (by kernel_rfl) (by kernel_rfl) (by kernel_rfl) (fun _ _ _ h => h) ?hy62 hHeld ?_
            case hy62 => (intro _ _ _ w hSw; have hcs := KS _ hSw; go_simp; try with_reducible rfl)
            simp only [Act.put, List.setIfInBounds_toArray, List.set_cons_zero, List.set_cons_succ]
            refine h_take 2 (some 111) (Op.move (Operand.tmp 110)) 4 ?v63 rfl rfl (by kernel_rfl) (by kernel_rfl) (by kernel_rfl) (fun _ _ _ h => h) ?hy63 hHeld ?_
            case hy63 => (intro _ _ _ w hSw; have hcs := KS _ hSw; go_simp; try with_reducible rfl)
            simp only [Act.put, List.setIfInBounds_toArray, List.set_cons_zero, List.set_cons_succ]
            refine h_take 3 (some 112) (Op.move (Operand.tmp 10)) 3 ?v64 rfl rfl (by kernel_rfl) (by kernel_rfl) (by kernel_rfl) (fun _ _ _ h => h) ?hy64 hHeld ?_
            case hy64 => (intro _ _ _ w hSw; have hcs := KS _ hSw; go_simp; try with_reducible rfl)
            simp only [Act.put, List.setIfInBounds_toArray, List.set_cons_zero, List.set_cons_succ]
            refine h_take 4 (some 113) (Op.move (Operand.tmp 12)) 3 ?v65 rfl rfl (by kernel_rfl) (by kernel_rfl) (by kernel_rfl) (fun _ _ _ h => h) ?hy65 hHeld ?_
            case hy65 => (intro _ _ _ w hSw; have hcs := KS _ hSw; go_simp; try with_reducible rfl)
            simp only [Act.put, List.setIfInBounds_toArray, List.set_cons_zero, List.set_cons_succ]
            refine h_take 5 (some 114) (Op.binOp BinOp.neq 3 (Operand.tmp 112) (Operand.tmp 113) 3) 4 ?v66 rfl rfl (by kernel_rfl) (by kernel_rfl) (by kernel_rfl) (fun _ _ _ h => h) ?hy66 hHeld ?_
            case hy66 => (intro _ _ _ w hSw; have hcs := KS _ hSw; go_simp; try with_reducible rfl)
            simp only [Act.put, List.setIfInBounds_toArray, List.set_cons_zero, List.set_cons_succ]
            refine h_take 6 (some 115) (Op.pick (Operand.tmp 111) (Operand.const (Value.bool true)) (Operand.tmp 114)) 4 ?v67 rfl rfl (by kernel_rfl) (by kernel_rfl) (by kernel_rfl) (fun _ _ _ h => h) ?hy67 hHeld ?_
            case hy67 => (intro _ _ _ w hSw; have hcs := KS _ hSw; go_simp; try with_reducible rfl)
            simp only [Act.put, List.setIfInBounds_toArray, List.set_cons_zero, List.set_cons_succ]
            refine h_take 7 (some 116) (Op.move (Operand.tmp 115)) 4 ?v68 rfl rfl (by kernel_rfl) (by kernel_rfl) (by kernel_rfl) (fun _ _ _ h => h) ?hy68 hHeld ?_
            case hy68 => (intro _ _ _ w hSw; have hcs := KS _ hSw; go_simp; try with_reducible rfl)
            simp only [Act.put, List.setIfInBounds_toArray, List.set_cons_zero, List.set_cons_succ]
            refine h_take 8 (some 117) (Op.move (Operand.tmp 11)) 4 ?v69 rfl rfl (by kernel_rfl) (by kernel_rfl) (by kernel_rfl) (fun _ _ _ h => h) ?hy69 hHeld ?_
            case hy69 => (intro _ _ _ w hSw; have hcs := KS _ hSw; go_simp; try with_reducible rfl)
            simp only [Act.put, List.setIfInBounds_toArray, List.set_cons_zero, List.set_cons_succ]
            refine h_take 9 (some 118) (Op.move (Operand.tmp 13)) 4 ?v70 rfl rfl (by kernel_rfl) (by kernel_rfl) (by kernel_rfl) (fun _ _ _ h => h) ?hy70 hHeld ?_
            case hy70 => (intro _ _ _ w hSw; have hcs := KS _ hSw; go_simp; try with_reducible rfl)
            simp only [Act.put, List.setIfInBounds_toArray, List.set_cons_zero, List.set_cons_succ]
            refine h_take 10 (some 119) (Op.binOp BinOp.neq 4 (Operand.tmp 117) (Operand.tmp 118) 4) 4 ?v71 rfl rfl (by kernel_rfl) (by kernel_rfl) (by kernel_rfl) (fun _ _ _ h => h) ?hy71 hHeld ?_
            case hy71 => (intro _ _ _ w hSw; have hcs := KS _ hSw; go_simp; try with_reducible rfl)
            simp only [Act.put, List.setIfInBounds_toArray, List.set_cons_zero, List.set_cons_succ]
            refine h_take 11 (some 120) (Op.pick (Operand.tmp 116) (Operand.const (Value.bool true)) (Operand.tmp 119)) 4 ?v72 rfl rfl (by kernel_rfl) (by kernel_rfl) (by kernel_rfl) (fun _ _ _ h => h) ?hy72 hHeld ?_
            case hy72 => (intro _ _ _ w hSw; have hcs := KS _ hSw; go_simp; try with_reducible rfl)
            simp only [Act.put, List.setIfInBounds_toArray, List.set_cons_zero, List.set_cons_succ]
            refine h_take 12 (some 121) (Op.move (Operand.tmp 120)) 4 ?v73 rfl rfl (by kernel_rfl) (by kernel_rfl) (by kernel_rfl) (fun _ _ _ h => h) ?hy73 hHeld ?_
            case hy73 => (intro _ _ _ w hSw; have hcs := KS _ hSw; go_simp; try with_reducible rfl)
            simp only [Act.put, List.setIfInBounds_toArray, List.set_cons_zero, List.set_cons_succ]
            refine h_take 13 (some 122) (Op.move (Operand.tmp 5)) 22 ?v74 rfl rfl (by kernel_rfl) (by kernel_rfl) (by kernel_rfl) (fun _ _ _ h => h) ?hy74 hHeld ?_
            case hy74 => (intro _ _ _ w hSw; have hcs := KS _ hSw; go_simp; try with_reducible rfl)
            simp only [Act.put, List.setIfInBounds_toArray, List.set_cons_zero, List.set_cons_succ]
            refine h_take 14 (some 123) (Op.nilCheck (Operand.tmp 122)) 0 ?v75 rfl rfl (by kernel_rfl) (by kernel_rfl) (by kernel_rfl) (fun _ _ _ h => h) ?hy75 hHeld ?_
            case hy75 => (intro _ _ _ w hSw; have hcs := KS _ hSw; go_simp; try with_reducible rfl)
            simp only [Act.put, List.setIfInBounds_toArray, List.set_cons_zero, List.set_cons_succ]
            refine h_take 15 (some 124) (Op.fieldAddr 31 (Operand.tmp 123) 1) 0 ?v76 rfl rfl (by kernel_rfl) (by kernel_rfl) (by kernel_rfl) (fun _ _ _ h => h) ?hy76 hHeld ?_
            case hy76 => (intro _ _ _ w hSw; have hcs := KS _ hSw; go_simp; try with_reducible rfl)
            simp only [Act.put, List.setIfInBounds_toArray, List.set_cons_zero, List.set_cons_succ]
            refine h_take 16 (some 125) (Op.load 27 (Operand.tmp 124)) 27 ?v77 rfl rfl (by kernel_rfl) (by kernel_rfl) (by kernel_rfl) (fun _ _ _ h => h) ?hy77 hHeld ?_
            case hy77 => (intro _ _ _ w hSw; have hcs := KS _ hSw; go_simp; try with_reducible rfl)
            simp only [Act.put, List.setIfInBounds_toArray, List.set_cons_zero, List.set_cons_succ]
            refine h_take 17 (some 126) (Op.fieldAddr 42 (Operand.tmp 7) 1) 0 ?v78 rfl rfl (by kernel_rfl) (by kernel_rfl) (by kernel_rfl) (fun _ _ _ h => h) ?hy78 hHeld ?_
            case hy78 => (intro _ _ _ w hSw; have hcs := KS _ hSw; go_simp; try with_reducible rfl)
            simp only [Act.put, List.setIfInBounds_toArray, List.set_cons_zero, List.set_cons_succ]
            refine h_take 18 (some 127) (Op.load 3 (Operand.tmp 126)) 3 ?v79 rfl rfl (by kernel_rfl) (by kernel_rfl) (by kernel_rfl) (fun _ _ _ h => h) ?hy79 hHeld ?_
            case hy79 => (intro _ _ _ w hSw; have hcs := KS _ hSw; go_simp; try with_reducible rfl)
            simp only [Act.put, List.setIfInBounds_toArray, List.set_cons_zero, List.set_cons_succ]
            refine h_take 20 (some 129) (Op.move (Operand.tmp 5)) 22 ?v80 rfl rfl (by kernel_rfl) (by kernel_rfl) (by kernel_rfl) (fun _ _ _ h => h) ?hy80 hHeld ?_
            case hy80 => (intro _ _ _ w hSw; have hcs := KS _ hSw; go_simp; try with_reducible rfl)
            simp only [Act.put, List.setIfInBounds_toArray, List.set_cons_zero, List.set_cons_succ]
            refine h_take 21 (some 130) (Op.nilCheck (Operand.tmp 129)) 0 ?v81 rfl rfl (by kernel_rfl) (by kernel_rfl) (by kernel_rfl) (fun _ _ _ h => h) ?hy81 hHeld ?_
            case hy81 => (intro _ _ _ w hSw; have hcs := KS _ hSw; go_simp; try with_reducible rfl)
            simp only [Act.put, List.setIfInBounds_toArray, List.set_cons_zero, List.set_cons_succ]
            refine h_take 22 (some 131) (Op.fieldAddr 31 (Operand.tmp 130) 3) 0 ?v82 rfl rfl (by kernel_rfl) (by kernel_rfl) (by kernel_rfl) (fun _ _ _ h => h) ?hy82 hHeld ?_
            case hy82 => (intro _ _ _ w hSw; have hcs := KS _ hSw; go_simp; try with_reducible rfl)
            simp only [Act.put, List.setIfInBounds_toArray, List.set_cons_zero, List.set_cons_succ]
            refine h_take 23 (some 132) (Op.load 29 (Operand.tmp 131)) 29 ?v83 rfl rfl (by kernel_rfl) (by kernel_rfl) (by kernel_rfl) (fun _ _ _ h => h) ?hy83 hHeld ?_
            case hy83 => (intro _ _ _ w hSw; have hcs := KS _ hSw; go_simp; try with_reducible rfl)
            simp only [Act.put, List.setIfInBounds_toArray, List.set_cons_zero, List.set_cons_succ]
            refine h_take 24 (some 133) (Op.fieldAddr 42 (Operand.tmp 7) 1) 0 ?v84 rfl rfl (by kernel_rfl) (by kernel_rfl) (by kernel_rfl) (fun _ _ _ h => h) ?hy84 hHeld ?_
            case hy84 => (intro _ _ _ w hSw; have hcs := KS _ hSw; go_simp; try with_reducible rfl)
            simp only [Act.put, List.setIfInBounds_toArray, List.set_cons_zero, List.set_cons_succ]
            refine h_take 25 (some 134) (Op.load 3 (Operand.tmp 133)) 3 ?v85 rfl rfl (by kernel_rfl) (by kernel_rfl) (by kernel_rfl) (fun _ _ _ h => h) ?hy85 hHeld ?_
            case hy85 => (intro _ _ _ w hSw; have hcs := KS _ hSw; go_simp; try with_reducible rfl)
            simp only [Act.put, List.setIfInBounds_toArray, List.set_cons_zero, List.set_cons_succ]
            refine h_step 19 (some 128) (Op.call { callee := Callee.value (Operand.func 19), args := #[Operand.tmp 125, Operand.tmp 127], argTypes := #[27, 3] }) 4 rfl rfl (by kernel_rfl) (fun _ _ _ K hK => ?_)
            go_simp
            refine (kv_dis (hk4.still (Kept.refl _ w4).drew) qd).mono ?_
            rintro e w5 ⟨rfl, hk5, kp5⟩
            replace kp5 : Kept (fun n => n = N' ∨ RW R' W' n) w4 w5 := ((Kept.refl (fun n => n = N') w4).drew.trans kp5 (fun _ _ e => e)).mono (fun _ _ e => .inl e)
            rw [hib]
            rw [hf1] at hk5
            go_wp2_with fail
            refine hK.out _ _ (kp5) (fun hHeld => ?_)
            clear hK K
            try simp only [Act.put, List.setIfInBounds_toArray, List.set_cons_zero, List.set_cons_succ]
            refine h_step 26 (some 135) (Op.call { callee := Callee.value (Operand.func 20), args := #[Operand.tmp 132, Operand.tmp 134], argTypes := #[29, 3] }) 4 rfl rfl (by kernel_rfl) (fun _ _ _ K hK => ?_)
            go_simp
            refine (kr_dis hk5 qd).mono ?_
            rintro e w6 ⟨rfl, hk6, kp6⟩
            replace kp6 : Kept (fun n => n = N' ∨ RW R' W' n) w4 w6 := kp5.trans kp6 (fun _ _ e => .inr e)
            rw [hib]
            rw [hf1] at hk6
            go_wp2_with fail
            refine hK.out _ _ (kp6) (fun hHeld => ?_)
            clear hK K
            try simp only [Act.put, List.setIfInBounds_toArray, List.set_cons_zero, List.set_cons_succ]
            clear kp5 hk5
            refine h_take 27 (some 136) (Op.binOp BinOp.neq 4 (Operand.tmp 128) (Operand.tmp 135) 4) 4 ?v86 rfl rfl (by kernel_rfl) (by kernel_rfl) (by kernel_rfl) (fun _ _ _ h => h) ?hy86 hHeld ?_
            case hy86 => (intro _ _ _ w hSw; have hcs := KS _ hSw; go_simp; try with_reducible rfl)
            simp only [Act.put, List.setIfInBounds_toArray, List.set_cons_zero, List.set_cons_succ]
            refine h_take 28 (some 137) (Op.pick (Operand.tmp 121) (Operand.const (Value.bool true)) (Operand.tmp 136)) 4 ?v87 rfl rfl (by kernel_rfl) (by kernel_rfl) (by kernel_rfl) (fun _ _ _ h => h) ?hy87 hHeld ?_
            case hy87 => (intro _ _ _ w hSw; have hcs := KS _ hSw; go_simp; try with_reducible rfl)
            simp only [Act.put, List.setIfInBounds_toArray, List.set_cons_zero, List.set_cons_succ]
            refine h_take 29 (some 138) (Op.move (Operand.tmp 137)) 4 ?v88 rfl rfl (by kernel_rfl) (by kernel_rfl) (by kernel_rfl) (fun _ _ _ h => h) ?hy88 hHeld ?_
            case hy88 => (intro _ _ _ w hSw; have hcs := KS _ hSw; go_simp; try with_reducible rfl)
            simp only [Act.put, List.setIfInBounds_toArray, List.set_cons_zero, List.set_cons_succ]
            refine h_take 30 (some 139) (Op.move (Operand.tmp 5)) 22 ?v89 rfl rfl (by kernel_rfl) (by kernel_rfl) (by kernel_rfl) (fun _ _ _ h => h) ?hy89 hHeld ?_
            case hy89 => (intro _ _ _ w hSw; have hcs := KS _ hSw; go_simp; try with_reducible rfl)
            simp only [Act.put, List.setIfInBounds_toArray, List.set_cons_zero, List.set_cons_succ]
            refine h_take 31 (some 140) (Op.nilCheck (Operand.tmp 139)) 0 ?v90 rfl rfl (by kernel_rfl) (by kernel_rfl) (by kernel_rfl) (fun _ _ _ h => h) ?hy90 hHeld ?_
            case hy90 => (intro _ _ _ w hSw; have hcs := KS _ hSw; go_simp; try with_reducible rfl)
            simp only [Act.put, List.setIfInBounds_toArray, List.set_cons_zero, List.set_cons_succ]
            refine h_take 32 (some 141) (Op.fieldAddr 31 (Operand.tmp 140) 1) 0 ?v91 rfl rfl (by kernel_rfl) (by kernel_rfl) (by kernel_rfl) (fun _ _ _ h => h) ?hy91 hHeld ?_
            case hy91 => (intro _ _ _ w hSw; have hcs := KS _ hSw; go_simp; try with_reducible rfl)
            simp only [Act.put, List.setIfInBounds_toArray, List.set_cons_zero, List.set_cons_succ]
            refine h_take 33 (some 142) (Op.load 27 (Operand.tmp 141)) 27 ?v92 rfl rfl (by kernel_rfl) (by kernel_rfl) (by kernel_rfl) (fun _ _ _ h => h) ?hy92 hHeld ?_
            case hy92 => (intro _ _ _ w hSw; have hcs := KS _ hSw; go_simp; try with_reducible rfl)
            simp only [Act.put, List.setIfInBounds_toArray, List.set_cons_zero, List.set_cons_succ]
            refine h_take 34 (some 143) (Op.fieldAddr 42 (Operand.tmp 7) 1) 0 ?v93 rfl rfl (by kernel_rfl) (by kernel_rfl) (by kernel_rfl) (fun _ _ _ h => h) ?hy93 hHeld ?_
            case hy93 => (intro _ _ _ w hSw; have hcs := KS _ hSw; go_simp; try with_reducible rfl)
            simp only [Act.put, List.setIfInBounds_toArray, List.set_cons_zero, List.set_cons_succ]
            refine h_take 35 (some 144) (Op.load 3 (Operand.tmp 143)) 3 ?v94 rfl rfl (by kernel_rfl) (by kernel_rfl) (by kernel_rfl) (fun _ _ _ h => h) ?hy94 hHeld ?_
            case hy94 => (intro _ _ _ w hSw; have hcs := KS _ hSw; go_simp; try with_reducible rfl)
            simp only [Act.put, List.setIfInBounds_toArray, List.set_cons_zero, List.set_cons_succ]
            refine h_take 37 (some 146) (Op.move (Operand.tmp 5)) 22 ?v95 rfl rfl (by kernel_rfl) (by kernel_rfl) (by kernel_rfl) (fun _ _ _ h => h) ?hy95 hHeld ?_
            case hy95 => (intro _ _ _ w hSw; have hcs := KS _ hSw; go_simp; try with_reducible rfl)
            simp only [Act.put, List.setIfInBounds_toArray, List.set_cons_zero, List.set_cons_succ]
            refine h_take 38 (some 147) (Op.nilCheck (Operand.tmp 146)) 0 ?v96 rfl rfl (by kernel_rfl) (by kernel_rfl) (by kernel_rfl) (fun _ _ _ h => h) ?hy96 hHeld ?_
            case hy96 => (intro _ _ _ w hSw; have hcs := KS _ hSw; go_simp; try with_reducible rfl)
            simp only [Act.put, List.setIfInBounds_toArray, List.set_cons_zero, List.set_cons_succ]
            refine h_take 39 (some 148) (Op.fieldAddr 31 (Operand.tmp 147) 3) 0 ?v97 rfl rfl (by kernel_rfl) (by kernel_rfl) (by kernel_rfl) (fun _ _ _ h => h) ?hy97 hHeld ?_
            case hy97 => (intro _ _ _ w hSw; have hcs := KS _ hSw; go_simp; try with_reducible rfl)
            simp only [Act.put, List.setIfInBounds_toArray, List.set_cons_zero, List.set_cons_succ]
            refine h_take 40 (some 149) (Op.load 29 (Operand.tmp 148)) 29 ?v98 rfl rfl (by kernel_rfl) (by kernel_rfl) (by kernel_rfl) (fun _ _ _ h => h) ?hy98 hHeld ?_
            case hy98 => (intro _ _ _ w hSw; have hcs := KS _ hSw; go_simp; try with_reducible rfl)
            simp only [Act.put, List.setIfInBounds_toArray, List.set_cons_zero, List.set_cons_succ]
            refine h_take 41 (some 150) (Op.fieldAddr 42 (Operand.tmp 7) 1) 0 ?v99 rfl rfl (by kernel_rfl) (by kernel_rfl) (by kernel_rfl) (fun _ _ _ h => h) ?hy99 hHeld ?_
            case hy99 => (intro _ _ _ w hSw; have hcs := KS _ hSw; go_simp; try with_reducible rfl)
            simp only [Act.put, List.setIfInBounds_toArray, List.set_cons_zero, List.set_cons_succ]
            refine h_take 42 (some 151) (Op.load 3 (Operand.tmp 150)) 3 ?v100 rfl rfl (by kernel_rfl) (by kernel_rfl) (by kernel_rfl) (fun _ _ _ h => h) ?hy100 hHeld ?_
            case hy100 => (intro _ _ _ w hSw; have hcs := KS _ hSw; go_simp; try with_reducible rfl)
            simp only [Act.put, List.setIfInBounds_toArray, List.set_cons_zero, List.set_cons_succ]
            refine h_step 36 (some 145) (Op.call { callee := Callee.value (Operand.func 14), args := #[Operand.tmp 142, Operand.tmp 144], argTypes := #[27, 3] }) 36 rfl rfl (by kernel_rfl) (fun _ _ _ K hK => ?_)
            go_simp
            refine (kv_dnames hk6 qd (few hs1 qd)).mono ?_
            rintro e w7 ⟨v7, rfl, hv7, hk7, kp7⟩
            replace kp7 : Kept (fun n => n = N' ∨ RW R' W' n) w4 w7 := kp6.trans kp7 (fun _ _ e => .inl e)
            rw [hes] at hv7
            rw [hf1] at hk7
            go_wp2_with fail
            refine hK.out _ _ (kp7) (fun hHeld => ?_)
            clear hK K
            try simp only [Act.put, List.setIfInBounds_toArray, List.set_cons_zero, List.set_cons_succ]
            clear kp6 hk6
            refine h_step 43 (some 152) (Op.call { callee := Callee.value (Operand.func 21), args := #[Operand.tmp 149, Operand.tmp 151], argTypes := #[29, 3] }) 36 rfl rfl (by kernel_rfl) (fun _ _ _ K hK => ?_)
            go_simp
            refine (kr_dnames hk7 qd (few hs1 qd)).mono ?_
            rintro e w8 ⟨v8, rfl, hv8, hk8, kp8⟩
            have hv78 := srcM hv7 kp8 (fun k o v hc => hk7.offR k o v hc)
            replace kp8 : Kept (fun n => n = N' ∨ RW R' W' n) w4 w8 := kp7.trans kp8 (fun _ _ e => .inr e)
            rw [hes] at hv8
            rw [hf1] at hk8
            go_wp2_with fail
            refine hK.out _ _ (kp8) (fun hHeld => ?_)
            clear hK K
            try simp only [Act.put, List.setIfInBounds_toArray, List.set_cons_zero, List.set_cons_succ]
            clear kp7 hk7 hv7
            refine h_step 44 (some 153) (Op.call { callee := Callee.value (Operand.func 13), args := #[Operand.tmp 145, Operand.tmp 152], argTypes := #[36, 36] }) 4 rfl rfl (by kernel_rfl) (fun _ _ _ K hK => ?_)
            go_simp
            refine (Nm.same_w v7 v8 es es hesl hesl w8 hv78 hv8).mono ?_
            rintro e w9 ⟨rfl, hk9⟩
            have hkk := hk8.still hk9
            have kp9 : Kept (fun n => n = N' ∨ RW R' W' n) w4 w9 := kp8.trans hk9 (fun _ _ e => e.elim)
            go_wp2_with fail
            refine hK.out _ _ (kp9) (fun hHeld => ?_)
            clear hK K
            try simp only [Act.put, List.setIfInBounds_toArray, List.set_cons_zero, List.set_cons_succ]
            clear kp8 hk8 hv8 hv78 hk9
            refine h_take 45 (some 154) (Op.unOp UnOp.not 4 (Operand.tmp 153)) 4 ?v101 rfl rfl (by kernel_rfl) (by kernel_rfl) (by kernel_rfl) (fun _ _ _ h => h) ?hy101 hHeld ?_
            case hy101 => (intro _ _ _ w hSw; have hcs := KS _ hSw; go_simp; try with_reducible rfl)
            simp only [Act.put, List.setIfInBounds_toArray, List.set_cons_zero, List.set_cons_succ]
            refine h_take 46 (some 155) (Op.pick (Operand.tmp 138) (Operand.const (Value.bool true)) (Operand.tmp 154)) 4 ?v102 rfl rfl (by kernel_rfl) (by kernel_rfl) (by kernel_rfl) (fun _ _ _ h => h) ?hy102 hHeld ?_
            case hy102 => (intro _ _ _ w hSw; have hcs := KS _ hSw; go_simp; try with_reducible rfl)
            simp only [Act.put, List.setIfInBounds_toArray, List.set_cons_zero, List.set_cons_succ]
            refine h_take 47 (some 156) (Op.move (Operand.tmp 155)) 4 ?v103 rfl rfl (by kernel_rfl) (by kernel_rfl) (by kernel_rfl) (fun _ _ _ h => h) ?hy103 hHeld ?_
            case hy103 => (intro _ _ _ w hSw; have hcs := KS _ hSw; go_simp; try with_reducible rfl)
            simp only [Act.put, List.setIfInBounds_toArray, List.set_cons_zero, List.set_cons_succ]
            refine h_take 48 (some 157) (Op.move (Operand.tmp 5)) 22 ?v104 rfl rfl (by kernel_rfl) (by kernel_rfl) (by kernel_rfl) (fun _ _ _ h => h) ?hy104 hHeld ?_
            case hy104 => (intro _ _ _ w hSw; have hcs := KS _ hSw; go_simp; try with_reducible rfl)
            simp only [Act.put, List.setIfInBounds_toArray, List.set_cons_zero, List.set_cons_succ]
            refine h_take 49 (some 158) (Op.nilCheck (Operand.tmp 157)) 0 ?v105 rfl rfl (by kernel_rfl) (by kernel_rfl) (by kernel_rfl) (fun _ _ _ h => h) ?hy105 hHeld ?_
            case hy105 => (intro _ _ _ w hSw; have hcs := KS _ hSw; go_simp; try with_reducible rfl)
            simp only [Act.put, List.setIfInBounds_toArray, List.set_cons_zero, List.set_cons_succ]
            refine h_take 50 (some 159) (Op.fieldAddr 31 (Operand.tmp 158) 1) 0 ?v106 rfl rfl (by kernel_rfl) (by kernel_rfl) (by kernel_rfl) (fun _ _ _ h => h) ?hy106 hHeld ?_
            case hy106 => (intro _ _ _ w hSw; have hcs := KS _ hSw; go_simp; try with_reducible rfl)
            simp only [Act.put, List.setIfInBounds_toArray, List.set_cons_zero, List.set_cons_succ]
            refine h_take 51 (some 160) (Op.load 27 (Operand.tmp 159)) 27 ?v107 rfl rfl (by kernel_rfl) (by kernel_rfl) (by kernel_rfl) (fun _ _ _ h => h) ?hy107 hHeld ?_
            case hy107 => (intro _ _ _ w hSw; have hcs := KS _ hSw; go_simp; try with_reducible rfl)
            simp only [Act.put, List.setIfInBounds_toArray, List.set_cons_zero, List.set_cons_succ]
            refine h_take 52 (some 161) (Op.fieldAddr 42 (Operand.tmp 7) 1) 0 ?v108 rfl rfl (by kernel_rfl) (by kernel_rfl) (by kernel_rfl) (fun _ _ _ h => h) ?hy108 hHeld ?_
            case hy108 => (intro _ _ _ w hSw; have hcs := KS _ hSw; go_simp; try with_reducible rfl)
            simp only [Act.put, List.setIfInBounds_toArray, List.set_cons_zero, List.set_cons_succ]
            refine h_take 53 (some 162) (Op.load 3 (Operand.tmp 161)) 3 ?v109 rfl rfl (by kernel_rfl) (by kernel_rfl) (by kernel_rfl) (fun _ _ _ h => h) ?hy109 hHeld ?_
            case hy109 => (intro _ _ _ w hSw; have hcs := KS _ hSw; go_simp; try with_reducible rfl)
            simp only [Act.put, List.setIfInBounds_toArray, List.set_cons_zero, List.set_cons_succ]
            refine h_take 55 (some 164) (Op.move (Operand.tmp 5)) 22 ?v110 rfl rfl (by kernel_rfl) (by kernel_rfl) (by kernel_rfl) (fun _ _ _ h => h) ?hy110 hHeld ?_
            case hy110 => (intro _ _ _ w hSw; have hcs := KS _ hSw; go_simp; try with_reducible rfl)
            simp only [Act.put, List.setIfInBounds_toArray, List.set_cons_zero, List.set_cons_succ]
            refine h_take 56 (some 165) (Op.nilCheck (Operand.tmp 164)) 0 ?v111 rfl rfl (by kernel_rfl) (by kernel_rfl) (by kernel_rfl) (fun _ _ _ h => h) ?hy111 hHeld ?_
            case hy111 => (intro _ _ _ w hSw; have hcs := KS _ hSw; go_simp; try with_reducible rfl)
            simp only [Act.put, List.setIfInBounds_toArray, List.set_cons_zero, List.set_cons_succ]
            refine h_take 57 (some 166) (Op.fieldAddr 31 (Operand.tmp 165) 3) 0 ?v112 rfl rfl (by kernel_rfl) (by kernel_rfl) (by kernel_rfl) (fun _ _ _ h => h) ?hy112 hHeld ?_
            case hy112 => (intro _ _ _ w hSw; have hcs := KS _ hSw; go_simp; try with_reducible rfl)
            simp only [Act.put, List.setIfInBounds_toArray, List.set_cons_zero, List.set_cons_succ]
            refine h_take 58 (some 167) (Op.load 29 (Operand.tmp 166)) 29 ?v113 rfl rfl (by kernel_rfl) (by kernel_rfl) (by kernel_rfl) (fun _ _ _ h => h) ?hy113 hHeld ?_
            case hy113 => (intro _ _ _ w hSw; have hcs := KS _ hSw; go_simp; try with_reducible rfl)
            simp only [Act.put, List.setIfInBounds_toArray, List.set_cons_zero, List.set_cons_succ]
            refine h_take 59 (some 168) (Op.fieldAddr 42 (Operand.tmp 7) 1) 0 ?v114 rfl rfl (by kernel_rfl) (by kernel_rfl) (by kernel_rfl) (fun _ _ _ h => h) ?hy114 hHeld ?_
            case hy114 => (intro _ _ _ w hSw; have hcs := KS _ hSw; go_simp; try with_reducible rfl)
            simp only [Act.put, List.setIfInBounds_toArray, List.set_cons_zero, List.set_cons_succ]
            refine h_take 60 (some 169) (Op.load 3 (Operand.tmp 168)) 3 ?v115 rfl rfl (by kernel_rfl) (by kernel_rfl) (by kernel_rfl) (fun _ _ _ h => h) ?hy115 hHeld ?_
            case hy115 => (intro _ _ _ w hSw; have hcs := KS _ hSw; go_simp; try with_reducible rfl)
            simp only [Act.put, List.setIfInBounds_toArray, List.set_cons_zero, List.set_cons_succ]
            refine h_step 54 (some 163) (Op.call { callee := Callee.value (Operand.func 22), args := #[Operand.tmp 160, Operand.tmp 162], argTypes := #[27, 3] }) 4 rfl rfl (by kernel_rfl) (fun _ _ _ K hK => ?_)
            go_simp
            refine (kv_dbare hkk qd (few hs1 qd)).mono ?_
            rintro e w10 ⟨rfl, hk10, kp10⟩
            replace kp10 : Kept (fun n => n = N' ∨ RW R' W' n) w4 w10 := kp9.trans kp10 (fun _ _ e => .inl e)
            rw [hbb]
            rw [hf1] at hk10
            go_wp2_with fail
            refine hK.out _ _ (kp10) (fun hHeld => ?_)
            clear hK K
            try simp only [Act.put, List.setIfInBounds_toArray, List.set_cons_zero, List.set_cons_succ]
            clear kp9 hkk
            refine h_step 61 (some 170) (Op.call { callee := Callee.value (Operand.func 23), args := #[Operand.tmp 167, Operand.tmp 169], argTypes := #[29, 3] }) 4 rfl rfl (by kernel_rfl) (fun _ _ _ K hK => ?_)
            go_simp
            refine (kr_dbare hk10 qd (few hs1 qd)).mono ?_
            rintro e w11 ⟨rfl, hk11, kp11⟩
            replace kp11 : Kept (fun n => n = N' ∨ RW R' W' n) w4 w11 := kp10.trans kp11 (fun _ _ e => .inr e)
            rw [hbb]
            rw [hf1] at hk11
            go_wp2_with fail
            refine hK.out _ _ (kp11) (fun hHeld => ?_)
            clear hK K
            try simp only [Act.put, List.setIfInBounds_toArray, List.set_cons_zero, List.set_cons_succ]
            clear kp10 hk10
            refine h_take 62 (some 171) (Op.binOp BinOp.neq 4 (Operand.tmp 163) (Operand.tmp 170) 4) 4 ?v116 rfl rfl (by kernel_rfl) (by kernel_rfl) (by kernel_rfl) (fun _ _ _ h => h) ?hy116 hHeld ?_
            case hy116 => (intro _ _ _ w hSw; have hcs := KS _ hSw; go_simp; try with_reducible rfl)
            simp only [Act.put, List.setIfInBounds_toArray, List.set_cons_zero, List.set_cons_succ]
            refine h_take 63 (some 172) (Op.pick (Operand.tmp 156) (Operand.const (Value.bool true)) (Operand.tmp 171)) 4 ?v117 rfl rfl (by kernel_rfl) (by kernel_rfl) (by kernel_rfl) (fun _ _ _ h => h) ?hy117 hHeld ?_
            case hy117 => (intro _ _ _ w hSw; have hcs := KS _ hSw; go_simp; try with_reducible rfl)
            simp only [Act.put, List.setIfInBounds_toArray, List.set_cons_zero, List.set_cons_succ]
            refine h_take 64 (some 173) (Op.move (Operand.tmp 172)) 4 ?v118 rfl rfl (by kernel_rfl) (by kernel_rfl) (by kernel_rfl) (fun _ _ _ h => h) ?hy118 hHeld ?_
            case hy118 => (intro _ _ _ w hSw; have hcs := KS _ hSw; go_simp; try with_reducible rfl)
            simp only [Act.put, List.setIfInBounds_toArray, List.set_cons_zero, List.set_cons_succ]
            refine h_take 65 (some 174) (Op.move (Operand.tmp 5)) 22 ?v119 rfl rfl (by kernel_rfl) (by kernel_rfl) (by kernel_rfl) (fun _ _ _ h => h) ?hy119 hHeld ?_
            case hy119 => (intro _ _ _ w hSw; have hcs := KS _ hSw; go_simp; try with_reducible rfl)
            simp only [Act.put, List.setIfInBounds_toArray, List.set_cons_zero, List.set_cons_succ]
            refine h_step 66 (some 175) (Op.call { callee := Callee.value (Operand.func 24), args := #[Operand.tmp 174], argTypes := #[22] }) 4 rfl rfl (by kernel_rfl) (fun _ _ _ K hK => ?_)
            go_simp
            refine (two_same hk11).mono ?_
            rintro e w12 ⟨rfl, hk12⟩
            have hkz := hk11.still hk12
            have kp12 : Kept (fun n => n = N' ∨ RW R' W' n) w4 w12 := kp11.trans hk12 (fun _ _ e => e.elim)
            go_wp2_with fail
            refine hK.out _ _ (kp12) (fun hHeld => ?_)
            clear hK K
            try simp only [Act.put, List.setIfInBounds_toArray, List.set_cons_zero, List.set_cons_succ]
            refine h_take 67 (some 176) (Op.unOp UnOp.not 4 (Operand.tmp 175)) 4 ?v120 rfl rfl (by kernel_rfl) (by kernel_rfl) (by kernel_rfl) (fun _ _ _ h => h) ?hy120 hHeld ?_
            case hy120 => (intro _ _ _ w hSw; have hcs := KS _ hSw; go_simp; try with_reducible rfl)
            simp only [Act.put, List.setIfInBounds_toArray, List.set_cons_zero, List.set_cons_succ]
            refine h_take 68 (some 177) (Op.pick (Operand.tmp 173) (Operand.const (Value.bool true)) (Operand.tmp 176)) 4 ?v121 rfl rfl (by kernel_rfl) (by kernel_rfl) (by kernel_rfl) (fun _ _ _ h => h) ?hy121 hHeld ?_
            case hy121 => (intro _ _ _ w hSw; have hcs := KS _ hSw; go_simp; try with_reducible rfl)
            simp only [Act.put, List.setIfInBounds_toArray, List.set_cons_zero, List.set_cons_succ]
            refine wpAnyH_done (by kernel_rfl) ?_ _
            have HN : Hid (KeepIn w T p B q' N' rp rB rq' R' W' f' f' g1 g1 w12 ∧ Small f' g1) := ⟨hkz, hs1⟩
            clear hHeld KS kp11 hk11 hk12 kp12 hkz hk4 hD4 oD oT hs1 hf1 hes hesl hib hbb
            go_wp2
            go_roundw
            case rel => exact ⟨r + 1, _, _, _, _, _, _, _, by go_num, by omega, by omega, HN.out⟩
            case measure => simp [intOf]; omega
      | false =>
        as_aux_lemma =>
        clear hz
        have H3 : Hid (Kept (fun _ => False) w wc) := HH.out.1.game.kept
        clear HH
        go_wp2_with fail
        refine (runs_w wc).mono ?_
        rintro e w4 ⟨rfl, hk4⟩
        have HK : Hid (Kept (fun _ => False) w w4) := H3.out.thru hk4
        clear H3 hk4
        go_wp2
        go_ret
        exact ⟨rfl, HK.out⟩
end Go.Proofs.Ytkpcillgoeidaaa
