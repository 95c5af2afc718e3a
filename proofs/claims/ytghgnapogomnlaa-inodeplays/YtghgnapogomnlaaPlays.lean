/- Of any objects and any calls each answer, what is read and what is written is as chapter 10 says; no conditions. -/
import Derived.Test.YtghgnapogomnlaaKeepC
import Derived.Test.YtghgnapogomnlaaSide
import Derived.Deep.CutBlock
namespace Go.Proofs.Ytghgnapogomnlaa
open Go.RowKit
set_option maxRecDepth 100000
set_option linter.unusedSimpArgs false

def qcs (q : Q5) : Array Value := #[.int .i64 q.k, .int .i64 q.i, .int .i64 q.a, .int .i64 q.b, .int .i64 q.d]
/-- All that the statement has in memory. -/
def PlayIn (w0 : World) (T p B q N rp rB rq R W D : Nat) (f : StF) (g : VwF) (y : Q5) (w : World) : Prop :=
  KeepIn w0 T p B q N rp rB rq R W f f g g w ∧ Small f g ∧ w.heap[D]? = some (.cells (qcs y) 38 (0, 0))

set_option maxHeartbeats 4000000 in
theorem plays_law (ao : Option Addr) (len cap lb off : Nat) (Q : Nat → K2 × V) (hao : 0 < len → ao = some ⟨lb, off, none⟩) (bo : Option Addr) (ln cp mb of : Nat) (A : Nat → Q5) (hbo : 0 < ln → bo = some ⟨mb, of, none⟩) (w : World)
    (hc : ∀ i, i < len → w.rangeAt lb (off + i * 19) (wc (Q i))) (hd : ∀ i, i < ln → QAt w mb (of + i * 5) (A i)) :
    Calls Try.prog 4 #[.slice ao len cap, .slice bo ln cp] w fun e w' => e = .returned (.bool true) ∧ Kept (fun _ => False) w w' := by
  have HD : Hid (∀ i, i < ln → QAt w mb (of + i * 5) (A i)) := hd
  go_enter Try.func4, Try.ntmps4
  go_wp2_with fail
  refine (keepnew_w ao len cap lb off Q hao w hc).mono ?_
  rintro e w1 ⟨T, p, B, q, N, rp, rB, rq, R, W, rfl, h1, hT⟩
  have H0 : Hid (KeepIn w T p B q N rp rB rq R W (initF Q (min len 60)) (initF Q (min len 60)) (fun _ => none) (fun _ => none) w1 ∧ Small (initF Q (min len 60)) (fun _ => none)) := ⟨h1, small_init _ _⟩
  clear h1 hc hd
  go_wp2_with fail
  go_loopw [6, 7, 8, 9, 10, 11, 12, 13, 14] (fun v _ _ _ _ _ _ _ _ wr => ∃ (r : Nat) (q N rq R W : Nat) (f : StF) (g : VwF), v = .int .i64 r ∧ r ≤ ln ∧ r ≤ 25 ∧ Hid (KeepIn w T p B q N rp rB rq R W f f g g wr ∧ Small f g)) (fun v _ _ _ _ _ _ _ _ _ => 25 - (intOf v).toNat)
  case atStart => exact ⟨0, q, N, rq, R, W, _, _, rfl, by omega, by omega, H0.out⟩
  case round =>
    clear H0
    clear q N rq R W
    obtain ⟨r, q, N, rq, R, W, f, g, rfl, hr1, hr2, HH⟩ := hrel
    obtain ⟨z, hz⟩ : ∃ z : Bool, decide ((r : Int) < (ln : Int) ∧ (r : Int) < 25) = z := ⟨_, rfl⟩
    go_upto_region 5 with fail
    go_cut [26] from 19 to 26 (fun v wx => v = .bool z ∧ wx = wr)
    case first =>
      as_aux_lemma =>
      by_cases p1 : (r : Int) < (ln : Int)
      · by_cases p2 : (r : Int) < 25
        · have hz' : z = true := by rw [← hz]; simp [p1, p2]
          subst hz'
          clear hz
          go_wp2
          go_meet
          case rel => exact ⟨rfl, rfl⟩
        · have hz' : z = false := by rw [← hz]; simp [p1, p2]
          subst hz'
          clear hz
          go_wp2
          go_meet
          case rel => exact ⟨rfl, rfl⟩
      · have hz' : z = false := by rw [← hz]; simp [p1]
        subst hz'
        clear hz
        go_wp2
        go_meet
        case rel => exact ⟨rfl, rfl⟩
    case rest =>
      obtain ⟨rfl, hwc⟩ := hcut
      subst hwc
      cases z with
      | true =>
        as_aux_lemma =>
        simp only [decide_eq_true_eq] at hz
        obtain ⟨t1, t2⟩ := hz
        have hl1 : r < ln := by omega
        have h0 := hbo (by omega)
        subst h0
        have hq0 := HD.out r hl1
        obtain ⟨⟨qk, qi, qa, qb, qd⟩, hqe⟩ : ∃ y, A r = y := ⟨_, rfl⟩
        rw [hqe] at hq0
        obtain ⟨e0, e1, e2, e3, e4⟩ := hq0.still HH.out.1.game.kept
        simp only at e0 e1 e2 e3 e4
        clear hqe hq0 hbo
        obtain ⟨D, hD⟩ : ∃ D : Nat, wc.heap.size = D := ⟨_, rfl⟩
        have HP : Hid (PlayIn w T p B q N rp rB rq R W D f g ⟨qk, qi, qa, qb, qd⟩ (wc.alloc (.cells #[.int .i64 qk, .int .i64 qi, .int .i64 qa, .int .i64 qb, .int .i64 qd] 38)) ∧ w.heap.size ≤ D ∧ T < D ∧ p < D ∧ rp < D) := by
          have hk := HH.out.1
          exact ⟨⟨hk.still ((Kept.refl _ _).alloc _), HH.out.2, alloc_at' _ hD⟩, by have := hk.game.kept.size; omega, by have := lt_at hk.cell; omega, by have := lt_at hk.game.s.cell; omega, by have := lt_at hk.game.rs.cell; omega⟩
        have c0 := cell_at HP.out.1.2.2 (i := 0) (v := .int .i64 qk) rfl
        go_upto_block 2 with fail
        obtain ⟨w2, h2⟩ : ∃ w2, wc.alloc (.cells #[.int .i64 qk, .int .i64 qi, .int .i64 qa, .int .i64 qb, .int .i64 qd] 38) = w2 := ⟨_, rfl⟩
        rw [h2] at HP ⊢
        clear h2 HH hD e0 e1 e2 e3 e4 c0
        go_cut [8, 9, 10, 11, 12, 13] from 35 to 147 (fun v _ _ _ _ _ wx => v = .bool true ∧ ∃ q N rq R W f g, Hid (PlayIn w T p B q N rp rB rq R W D f g ⟨qk, qi, qa, qb, qd⟩ wx))
        case first =>
          as_aux_lemma =>
          have hk := HP.out.1.1
          have hs := HP.out.1.2.1
          have hD := HP.out.1.2.2
          have oD := hk.off hD
          have oT := hk.off hk.cell
          have hDT : D ≠ T := by have := HP.out.2.2.1; omega
          by_cases h1 : qk = 1
          · subst h1
            as_aux_lemma =>
            have KS : ∀ w', Kept (fun n => n = N) w2 w' → (w'.cell? ⟨T, 1, none⟩ = some (.pointer (some ⟨q, 0, none⟩)) ∧ w'.cell? ⟨D, 2, none⟩ = some (.int .i64 qa)) :=
              fun w' hk' => ⟨hk'.cell hk.cells.2.1 oT.1, hk'.cell (cell_at hD rfl) oD.1⟩
            obtain ⟨x, y, hxy⟩ : ∃ x y, allocV (allocA f g) = .tuple #[.int .i64 x, .bool y] := ⟨_, _, rfl⟩
            go_wp2_with fail
            refine wp_region_held_drew (S := fun w' => Kept (fun n => n = N) w2 w') (by kernel_rfl) ((Kept.refl _ _).drew) (fun hHeld => ?_)
            refine h_take 0 (some 38) (Op.move (Operand.tmp 5)) 35 ?v1 rfl rfl (by kernel_rfl) (by kernel_rfl) (by kernel_rfl) (fun _ _ _ h => h) ?hy1 hHeld ?_
            case hy1 => (intro _ _ _ w hSw; have hcs := KS _ hSw; go_simp; try with_reducible rfl)
            simp only [Act.put, List.setIfInBounds_toArray, List.set_cons_zero, List.set_cons_succ]
            refine h_take 1 (some 39) (Op.nilCheck (Operand.tmp 38)) 0 ?v2 rfl rfl (by kernel_rfl) (by kernel_rfl) (by kernel_rfl) (fun _ _ _ h => h) ?hy2 hHeld ?_
            case hy2 => (intro _ _ _ w hSw; have hcs := KS _ hSw; go_simp; try with_reducible rfl)
            simp only [Act.put, List.setIfInBounds_toArray, List.set_cons_zero, List.set_cons_succ]
            refine h_take 2 (some 40) (Op.fieldAddr 42 (Operand.tmp 39) 1) 0 ?v3 rfl rfl (by kernel_rfl) (by kernel_rfl) (by kernel_rfl) (fun _ _ _ h => h) ?hy3 hHeld ?_
            case hy3 => (intro _ _ _ w hSw; have hcs := KS _ hSw; go_simp; try with_reducible rfl)
            simp only [Act.put, List.setIfInBounds_toArray, List.set_cons_zero, List.set_cons_succ]
            refine h_take 3 (some 41) (Op.load 24 (Operand.tmp 40)) 24 ?v4 rfl rfl (by kernel_rfl) (by kernel_rfl) (by kernel_rfl) (fun _ _ _ h => h) ?hy4 hHeld ?_
            case hy4 => (intro _ _ _ w hSw; have hcs := KS _ hSw; go_simp; try with_reducible rfl)
            simp only [Act.put, List.setIfInBounds_toArray, List.set_cons_zero, List.set_cons_succ]
            refine h_take 4 (some 42) (Op.fieldAddr 38 (Operand.tmp 7) 2) 0 ?v5 rfl rfl (by kernel_rfl) (by kernel_rfl) (by kernel_rfl) (fun _ _ _ h => h) ?hy5 hHeld ?_
            case hy5 => (intro _ _ _ w hSw; have hcs := KS _ hSw; go_simp; try with_reducible rfl)
            simp only [Act.put, List.setIfInBounds_toArray, List.set_cons_zero, List.set_cons_succ]
            refine h_take 5 (some 43) (Op.load 3 (Operand.tmp 42)) 3 ?v6 rfl rfl (by kernel_rfl) (by kernel_rfl) (by kernel_rfl) (fun _ _ _ h => h) ?hy6 hHeld ?_
            case hy6 => (intro _ _ _ w hSw; have hcs := KS _ hSw; go_simp; try with_reducible rfl)
            simp only [Act.put, List.setIfInBounds_toArray, List.set_cons_zero, List.set_cons_succ]
            refine h_step 6 (some 44) (Op.call { callee := Callee.value (Operand.func 10), args := #[Operand.tmp 41, Operand.tmp 43], argTypes := #[24, 3] }) 26 rfl rfl (by kernel_rfl) (fun _ _ _ K hK => ?_)
            go_simp
            refine (kv_alloc (hk.still (Kept.refl _ w2).drew) qa).mono ?_
            rintro e w3 ⟨rfl, hk3, kp3⟩
            replace kp3 : Kept (fun n => n = N) w2 w3 := (Kept.refl _ w2).drew.trans kp3 (fun _ _ e => e)
            rw [hxy]
            go_wp2_with fail
            refine hK.out _ _ (kp3) (fun hHeld => ?_)
            clear hK K
            try simp only [Act.put, List.setIfInBounds_toArray, List.set_cons_zero, List.set_cons_succ]
            refine h_take 7 (some 37) (Op.move (Operand.tmp 44)) 26 ?v7 rfl rfl (by kernel_rfl) (by kernel_rfl) (by kernel_rfl) (fun _ _ _ h => h) ?hy7 hHeld ?_
            case hy7 => (intro _ _ _ w hSw; have hcs := KS _ hSw; go_simp; try with_reducible rfl)
            simp only [Act.put, List.setIfInBounds_toArray, List.set_cons_zero, List.set_cons_succ]
            refine h_take 8 (some 45) (Op.extract (Operand.tmp 37) 0) 3 ?v8 rfl rfl (by kernel_rfl) (by kernel_rfl) (by kernel_rfl) (fun _ _ _ h => h) ?hy8 hHeld ?_
            case hy8 => (intro _ _ _ w hSw; have hcs := KS _ hSw; go_simp; try with_reducible rfl)
            simp only [Act.put, List.setIfInBounds_toArray, List.set_cons_zero, List.set_cons_succ]
            refine h_take 9 (some 46) (Op.extract (Operand.tmp 37) 1) 4 ?v9 rfl rfl (by kernel_rfl) (by kernel_rfl) (by kernel_rfl) (fun _ _ _ h => h) ?hy9 hHeld ?_
            case hy9 => (intro _ _ _ w hSw; have hcs := KS _ hSw; go_simp; try with_reducible rfl)
            simp only [Act.put, List.setIfInBounds_toArray, List.set_cons_zero, List.set_cons_succ]
            refine h_take 10 (some 9) (Op.assign (Operand.tmp 45)) 3 ?v10 rfl rfl (by kernel_rfl) (by kernel_rfl) (by kernel_rfl) (fun _ _ _ h => h) ?hy10 hHeld ?_
            case hy10 => (intro _ _ _ w hSw; have hcs := KS _ hSw; go_simp; try with_reducible rfl)
            simp only [Act.put, List.setIfInBounds_toArray, List.set_cons_zero, List.set_cons_succ]
            refine h_take 11 (some 10) (Op.assign (Operand.tmp 46)) 4 ?v11 rfl rfl (by kernel_rfl) (by kernel_rfl) (by kernel_rfl) (fun _ _ _ h => h) ?hy11 hHeld ?_
            case hy11 => (intro _ _ _ w hSw; have hcs := KS _ hSw; go_simp; try with_reducible rfl)
            simp only [Act.put, List.setIfInBounds_toArray, List.set_cons_zero, List.set_cons_succ]
            refine wpAnyH_done (by kernel_rfl) ?_ _
            have hD3 := kp3.at hD oD.1
            have oT3 := hk3.off hk3.cell
            have oD3 := hk3.off hD3
            clear hHeld KS kp3
            have KS : ∀ w', Kept (RW R W) w3 w' → (w'.cell? ⟨T, 3, none⟩ = some (.pointer (some ⟨rq, 0, none⟩)) ∧ w'.cell? ⟨D, 2, none⟩ = some (.int .i64 qa)) :=
              fun w' hk' => ⟨hk'.cell hk3.cells.2.2.2 oT3.2.1, hk'.cell (cell_at hD3 rfl) oD3.2.1⟩
            go_wp2_with fail
            refine wp_region_held_drew (S := fun w' => Kept (RW R W) w3 w') (by kernel_rfl) ((Kept.refl _ _).drew) (fun hHeld => ?_)
            refine h_take 0 (some 48) (Op.move (Operand.tmp 5)) 35 ?v12 rfl rfl (by kernel_rfl) (by kernel_rfl) (by kernel_rfl) (fun _ _ _ h => h) ?hy12 hHeld ?_
            case hy12 => (intro _ _ _ w hSw; have hcs := KS _ hSw; go_simp; try with_reducible rfl)
            simp only [Act.put, List.setIfInBounds_toArray, List.set_cons_zero, List.set_cons_succ]
            refine h_take 1 (some 49) (Op.nilCheck (Operand.tmp 48)) 0 ?v13 rfl rfl (by kernel_rfl) (by kernel_rfl) (by kernel_rfl) (fun _ _ _ h => h) ?hy13 hHeld ?_
            case hy13 => (intro _ _ _ w hSw; have hcs := KS _ hSw; go_simp; try with_reducible rfl)
            simp only [Act.put, List.setIfInBounds_toArray, List.set_cons_zero, List.set_cons_succ]
            refine h_take 2 (some 50) (Op.fieldAddr 42 (Operand.tmp 49) 3) 0 ?v14 rfl rfl (by kernel_rfl) (by kernel_rfl) (by kernel_rfl) (fun _ _ _ h => h) ?hy14 hHeld ?_
            case hy14 => (intro _ _ _ w hSw; have hcs := KS _ hSw; go_simp; try with_reducible rfl)
            simp only [Act.put, List.setIfInBounds_toArray, List.set_cons_zero, List.set_cons_succ]
            refine h_take 3 (some 51) (Op.load 40 (Operand.tmp 50)) 40 ?v15 rfl rfl (by kernel_rfl) (by kernel_rfl) (by kernel_rfl) (fun _ _ _ h => h) ?hy15 hHeld ?_
            case hy15 => (intro _ _ _ w hSw; have hcs := KS _ hSw; go_simp; try with_reducible rfl)
            simp only [Act.put, List.setIfInBounds_toArray, List.set_cons_zero, List.set_cons_succ]
            refine h_take 4 (some 52) (Op.fieldAddr 38 (Operand.tmp 7) 2) 0 ?v16 rfl rfl (by kernel_rfl) (by kernel_rfl) (by kernel_rfl) (fun _ _ _ h => h) ?hy16 hHeld ?_
            case hy16 => (intro _ _ _ w hSw; have hcs := KS _ hSw; go_simp; try with_reducible rfl)
            simp only [Act.put, List.setIfInBounds_toArray, List.set_cons_zero, List.set_cons_succ]
            refine h_take 5 (some 53) (Op.load 3 (Operand.tmp 52)) 3 ?v17 rfl rfl (by kernel_rfl) (by kernel_rfl) (by kernel_rfl) (fun _ _ _ h => h) ?hy17 hHeld ?_
            case hy17 => (intro _ _ _ w hSw; have hcs := KS _ hSw; go_simp; try with_reducible rfl)
            simp only [Act.put, List.setIfInBounds_toArray, List.set_cons_zero, List.set_cons_succ]
            refine h_step 6 (some 54) (Op.call { callee := Callee.value (Operand.func 16), args := #[Operand.tmp 51, Operand.tmp 53], argTypes := #[40, 3] }) 26 rfl rfl (by kernel_rfl) (fun _ _ _ K hK => ?_)
            go_simp
            refine (kr_alloc (hk3.still (Kept.refl _ w3).drew) qa).mono ?_
            rintro e w4 ⟨rfl, hk4, kp4⟩
            replace kp4 : Kept (RW R W) w3 w4 := (Kept.refl _ w3).drew.trans kp4 (fun _ _ e => e)
            rw [hxy]
            go_wp2_with fail
            refine hK.out _ _ (kp4) (fun hHeld => ?_)
            clear hK K
            try simp only [Act.put, List.setIfInBounds_toArray, List.set_cons_zero, List.set_cons_succ]
            refine h_take 7 (some 47) (Op.move (Operand.tmp 54)) 26 ?v18 rfl rfl (by kernel_rfl) (by kernel_rfl) (by kernel_rfl) (fun _ _ _ h => h) ?hy18 hHeld ?_
            case hy18 => (intro _ _ _ w hSw; have hcs := KS _ hSw; go_simp; try with_reducible rfl)
            simp only [Act.put, List.setIfInBounds_toArray, List.set_cons_zero, List.set_cons_succ]
            refine h_take 8 (some 55) (Op.extract (Operand.tmp 47) 0) 3 ?v19 rfl rfl (by kernel_rfl) (by kernel_rfl) (by kernel_rfl) (fun _ _ _ h => h) ?hy19 hHeld ?_
            case hy19 => (intro _ _ _ w hSw; have hcs := KS _ hSw; go_simp; try with_reducible rfl)
            simp only [Act.put, List.setIfInBounds_toArray, List.set_cons_zero, List.set_cons_succ]
            refine h_take 9 (some 56) (Op.extract (Operand.tmp 47) 1) 4 ?v20 rfl rfl (by kernel_rfl) (by kernel_rfl) (by kernel_rfl) (fun _ _ _ h => h) ?hy20 hHeld ?_
            case hy20 => (intro _ _ _ w hSw; have hcs := KS _ hSw; go_simp; try with_reducible rfl)
            simp only [Act.put, List.setIfInBounds_toArray, List.set_cons_zero, List.set_cons_succ]
            refine h_take 10 (some 11) (Op.assign (Operand.tmp 55)) 3 ?v21 rfl rfl (by kernel_rfl) (by kernel_rfl) (by kernel_rfl) (fun _ _ _ h => h) ?hy21 hHeld ?_
            case hy21 => (intro _ _ _ w hSw; have hcs := KS _ hSw; go_simp; try with_reducible rfl)
            simp only [Act.put, List.setIfInBounds_toArray, List.set_cons_zero, List.set_cons_succ]
            refine h_take 11 (some 12) (Op.assign (Operand.tmp 56)) 4 ?v22 rfl rfl (by kernel_rfl) (by kernel_rfl) (by kernel_rfl) (fun _ _ _ h => h) ?hy22 hHeld ?_
            case hy22 => (intro _ _ _ w hSw; have hcs := KS _ hSw; go_simp; try with_reducible rfl)
            simp only [Act.put, List.setIfInBounds_toArray, List.set_cons_zero, List.set_cons_succ]
            refine wpAnyH_done (by kernel_rfl) ?_ _
            have HN : Hid (PlayIn w T p B q N rp rB rq R W D f (allocT f g qa) ⟨1, qi, qa, qb, qd⟩ w4) := ⟨hk4, hs.alloc qa, kp4.at hD3 oD3.2.1⟩
            clear hHeld KS kp4 hk4 hk3 hD3 oT3 oD3 hk hs hD oD oT hxy
            go_wp2
            go_meet
            case rel => exact ⟨rfl, _, _, _, _, _, _, _, HN.out⟩
          by_cases h2 : qk = 2
          · subst h2
            as_aux_lemma =>
            obtain ⟨ia, hia⟩ : ∃ b, isI f g qi = b := ⟨_, rfl⟩
            have KS : ∀ w', Kept (fun n => n = N ∨ RW R W n) w2 w' → (w'.cell? ⟨T, 1, none⟩ = some (.pointer (some ⟨q, 0, none⟩)) ∧ w'.cell? ⟨T, 3, none⟩ = some (.pointer (some ⟨rq, 0, none⟩)) ∧ w'.cell? ⟨D, 1, none⟩ = some (.int .i64 qi) ∧ w'.cell? ⟨D, 2, none⟩ = some (.int .i64 qa) ∧ w'.cell? ⟨D, 3, none⟩ = some (.int .i64 qb)) :=
              fun w' hk' => ⟨hk'.cell hk.cells.2.1 (fun e => e.elim oT.1 oT.2.1), hk'.cell hk.cells.2.2.2 (fun e => e.elim oT.1 oT.2.1), hk'.cell (cell_at hD rfl) (fun e => e.elim oD.1 oD.2.1), hk'.cell (cell_at hD rfl) (fun e => e.elim oD.1 oD.2.1), hk'.cell (cell_at hD rfl) (fun e => e.elim oD.1 oD.2.1)⟩
            go_wp2_with fail
            refine wp_region_held_drew (S := fun w' => Kept (fun n => n = N ∨ RW R W n) w2 w') (by kernel_rfl) ((Kept.refl _ _).drew) (fun hHeld => ?_)
            refine h_take 0 (some 67) (Op.move (Operand.tmp 5)) 35 ?v23 rfl rfl (by kernel_rfl) (by kernel_rfl) (by kernel_rfl) (fun _ _ _ h => h) ?hy23 hHeld ?_
            case hy23 => (intro _ _ _ w hSw; have hcs := KS _ hSw; go_simp; try with_reducible rfl)
            simp only [Act.put, List.setIfInBounds_toArray, List.set_cons_zero, List.set_cons_succ]
            refine h_take 1 (some 68) (Op.nilCheck (Operand.tmp 67)) 0 ?v24 rfl rfl (by kernel_rfl) (by kernel_rfl) (by kernel_rfl) (fun _ _ _ h => h) ?hy24 hHeld ?_
            case hy24 => (intro _ _ _ w hSw; have hcs := KS _ hSw; go_simp; try with_reducible rfl)
            simp only [Act.put, List.setIfInBounds_toArray, List.set_cons_zero, List.set_cons_succ]
            refine h_take 2 (some 69) (Op.fieldAddr 42 (Operand.tmp 68) 1) 0 ?v25 rfl rfl (by kernel_rfl) (by kernel_rfl) (by kernel_rfl) (fun _ _ _ h => h) ?hy25 hHeld ?_
            case hy25 => (intro _ _ _ w hSw; have hcs := KS _ hSw; go_simp; try with_reducible rfl)
            simp only [Act.put, List.setIfInBounds_toArray, List.set_cons_zero, List.set_cons_succ]
            refine h_take 3 (some 70) (Op.load 24 (Operand.tmp 69)) 24 ?v26 rfl rfl (by kernel_rfl) (by kernel_rfl) (by kernel_rfl) (fun _ _ _ h => h) ?hy26 hHeld ?_
            case hy26 => (intro _ _ _ w hSw; have hcs := KS _ hSw; go_simp; try with_reducible rfl)
            simp only [Act.put, List.setIfInBounds_toArray, List.set_cons_zero, List.set_cons_succ]
            refine h_take 4 (some 71) (Op.fieldAddr 38 (Operand.tmp 7) 1) 0 ?v27 rfl rfl (by kernel_rfl) (by kernel_rfl) (by kernel_rfl) (fun _ _ _ h => h) ?hy27 hHeld ?_
            case hy27 => (intro _ _ _ w hSw; have hcs := KS _ hSw; go_simp; try with_reducible rfl)
            simp only [Act.put, List.setIfInBounds_toArray, List.set_cons_zero, List.set_cons_succ]
            refine h_take 5 (some 72) (Op.load 3 (Operand.tmp 71)) 3 ?v28 rfl rfl (by kernel_rfl) (by kernel_rfl) (by kernel_rfl) (fun _ _ _ h => h) ?hy28 hHeld ?_
            case hy28 => (intro _ _ _ w hSw; have hcs := KS _ hSw; go_simp; try with_reducible rfl)
            simp only [Act.put, List.setIfInBounds_toArray, List.set_cons_zero, List.set_cons_succ]
            refine h_take 6 (some 73) (Op.fieldAddr 38 (Operand.tmp 7) 2) 0 ?v29 rfl rfl (by kernel_rfl) (by kernel_rfl) (by kernel_rfl) (fun _ _ _ h => h) ?hy29 hHeld ?_
            case hy29 => (intro _ _ _ w hSw; have hcs := KS _ hSw; go_simp; try with_reducible rfl)
            simp only [Act.put, List.setIfInBounds_toArray, List.set_cons_zero, List.set_cons_succ]
            refine h_take 7 (some 74) (Op.load 3 (Operand.tmp 73)) 3 ?v30 rfl rfl (by kernel_rfl) (by kernel_rfl) (by kernel_rfl) (fun _ _ _ h => h) ?hy30 hHeld ?_
            case hy30 => (intro _ _ _ w hSw; have hcs := KS _ hSw; go_simp; try with_reducible rfl)
            simp only [Act.put, List.setIfInBounds_toArray, List.set_cons_zero, List.set_cons_succ]
            refine h_take 8 (some 75) (Op.fieldAddr 38 (Operand.tmp 7) 3) 0 ?v31 rfl rfl (by kernel_rfl) (by kernel_rfl) (by kernel_rfl) (fun _ _ _ h => h) ?hy31 hHeld ?_
            case hy31 => (intro _ _ _ w hSw; have hcs := KS _ hSw; go_simp; try with_reducible rfl)
            simp only [Act.put, List.setIfInBounds_toArray, List.set_cons_zero, List.set_cons_succ]
            refine h_take 9 (some 76) (Op.load 3 (Operand.tmp 75)) 3 ?v32 rfl rfl (by kernel_rfl) (by kernel_rfl) (by kernel_rfl) (fun _ _ _ h => h) ?hy32 hHeld ?_
            case hy32 => (intro _ _ _ w hSw; have hcs := KS _ hSw; go_simp; try with_reducible rfl)
            simp only [Act.put, List.setIfInBounds_toArray, List.set_cons_zero, List.set_cons_succ]
            refine h_take 11 (some 78) (Op.move (Operand.tmp 5)) 35 ?v33 rfl rfl (by kernel_rfl) (by kernel_rfl) (by kernel_rfl) (fun _ _ _ h => h) ?hy33 hHeld ?_
            case hy33 => (intro _ _ _ w hSw; have hcs := KS _ hSw; go_simp; try with_reducible rfl)
            simp only [Act.put, List.setIfInBounds_toArray, List.set_cons_zero, List.set_cons_succ]
            refine h_take 12 (some 79) (Op.nilCheck (Operand.tmp 78)) 0 ?v34 rfl rfl (by kernel_rfl) (by kernel_rfl) (by kernel_rfl) (fun _ _ _ h => h) ?hy34 hHeld ?_
            case hy34 => (intro _ _ _ w hSw; have hcs := KS _ hSw; go_simp; try with_reducible rfl)
            simp only [Act.put, List.setIfInBounds_toArray, List.set_cons_zero, List.set_cons_succ]
            refine h_take 13 (some 80) (Op.fieldAddr 42 (Operand.tmp 79) 3) 0 ?v35 rfl rfl (by kernel_rfl) (by kernel_rfl) (by kernel_rfl) (fun _ _ _ h => h) ?hy35 hHeld ?_
            case hy35 => (intro _ _ _ w hSw; have hcs := KS _ hSw; go_simp; try with_reducible rfl)
            simp only [Act.put, List.setIfInBounds_toArray, List.set_cons_zero, List.set_cons_succ]
            refine h_take 14 (some 81) (Op.load 40 (Operand.tmp 80)) 40 ?v36 rfl rfl (by kernel_rfl) (by kernel_rfl) (by kernel_rfl) (fun _ _ _ h => h) ?hy36 hHeld ?_
            case hy36 => (intro _ _ _ w hSw; have hcs := KS _ hSw; go_simp; try with_reducible rfl)
            simp only [Act.put, List.setIfInBounds_toArray, List.set_cons_zero, List.set_cons_succ]
            refine h_take 15 (some 82) (Op.fieldAddr 38 (Operand.tmp 7) 1) 0 ?v37 rfl rfl (by kernel_rfl) (by kernel_rfl) (by kernel_rfl) (fun _ _ _ h => h) ?hy37 hHeld ?_
            case hy37 => (intro _ _ _ w hSw; have hcs := KS _ hSw; go_simp; try with_reducible rfl)
            simp only [Act.put, List.setIfInBounds_toArray, List.set_cons_zero, List.set_cons_succ]
            refine h_take 16 (some 83) (Op.load 3 (Operand.tmp 82)) 3 ?v38 rfl rfl (by kernel_rfl) (by kernel_rfl) (by kernel_rfl) (fun _ _ _ h => h) ?hy38 hHeld ?_
            case hy38 => (intro _ _ _ w hSw; have hcs := KS _ hSw; go_simp; try with_reducible rfl)
            simp only [Act.put, List.setIfInBounds_toArray, List.set_cons_zero, List.set_cons_succ]
            refine h_take 17 (some 84) (Op.fieldAddr 38 (Operand.tmp 7) 2) 0 ?v39 rfl rfl (by kernel_rfl) (by kernel_rfl) (by kernel_rfl) (fun _ _ _ h => h) ?hy39 hHeld ?_
            case hy39 => (intro _ _ _ w hSw; have hcs := KS _ hSw; go_simp; try with_reducible rfl)
            simp only [Act.put, List.setIfInBounds_toArray, List.set_cons_zero, List.set_cons_succ]
            refine h_take 18 (some 85) (Op.load 3 (Operand.tmp 84)) 3 ?v40 rfl rfl (by kernel_rfl) (by kernel_rfl) (by kernel_rfl) (fun _ _ _ h => h) ?hy40 hHeld ?_
            case hy40 => (intro _ _ _ w hSw; have hcs := KS _ hSw; go_simp; try with_reducible rfl)
            simp only [Act.put, List.setIfInBounds_toArray, List.set_cons_zero, List.set_cons_succ]
            refine h_take 19 (some 86) (Op.fieldAddr 38 (Operand.tmp 7) 3) 0 ?v41 rfl rfl (by kernel_rfl) (by kernel_rfl) (by kernel_rfl) (fun _ _ _ h => h) ?hy41 hHeld ?_
            case hy41 => (intro _ _ _ w hSw; have hcs := KS _ hSw; go_simp; try with_reducible rfl)
            simp only [Act.put, List.setIfInBounds_toArray, List.set_cons_zero, List.set_cons_succ]
            refine h_take 20 (some 87) (Op.load 3 (Operand.tmp 86)) 3 ?v42 rfl rfl (by kernel_rfl) (by kernel_rfl) (by kernel_rfl) (fun _ _ _ h => h) ?hy42 hHeld ?_
            case hy42 => (intro _ _ _ w hSw; have hcs := KS _ hSw; go_simp; try with_reducible rfl)
            simp only [Act.put, List.setIfInBounds_toArray, List.set_cons_zero, List.set_cons_succ]
            refine h_step 10 (some 77) (Op.call { callee := Callee.value (Operand.func 13), args := #[Operand.tmp 70, Operand.tmp 72, Operand.tmp 74, Operand.tmp 76], argTypes := #[24, 3, 3, 3] }) 4 rfl rfl (by kernel_rfl) (fun _ _ _ K hK => ?_)
            go_simp
            refine (kv_change (hk.still (Kept.refl _ w2).drew) qi qa qb).mono ?_
            rintro e w3 ⟨rfl, hk3, kp3⟩
            replace kp3 : Kept (fun n => n = N) w2 w3 := (Kept.refl _ w2).drew.trans kp3 (fun _ _ e => e)
            rw [hia]
            go_wp2_with fail
            refine hK.out _ _ (kp3.mono (fun _ _ e => .inl e)) (fun hHeld => ?_)
            clear hK K
            try simp only [Act.put, List.setIfInBounds_toArray, List.set_cons_zero, List.set_cons_succ]
            refine h_step 21 (some 88) (Op.call { callee := Callee.value (Operand.func 17), args := #[Operand.tmp 81, Operand.tmp 83, Operand.tmp 85, Operand.tmp 87], argTypes := #[40, 3, 3, 3] }) 4 rfl rfl (by kernel_rfl) (fun _ _ _ K hK => ?_)
            go_simp
            refine (kr_change hk3 qi qa qb).mono ?_
            rintro e w4 ⟨rfl, hk4, kp4⟩
            have k4 : Kept (fun n => n = N ∨ RW R W n) w2 w4 := (kp3.mono (fun _ _ e => .inl e)).trans kp4 (fun _ _ e => .inr e)
            rw [hia]
            go_wp2_with fail
            refine hK.out _ _ (k4) (fun hHeld => ?_)
            clear hK K
            try simp only [Act.put, List.setIfInBounds_toArray, List.set_cons_zero, List.set_cons_succ]
            refine h_take 22 (some 89) (Op.binOp BinOp.eql 4 (Operand.tmp 77) (Operand.tmp 88) 4) 4 ?v43 rfl rfl (by kernel_rfl) (by kernel_rfl) (by kernel_rfl) (fun _ _ _ h => h) ?hy43 hHeld ?_
            case hy43 => (intro _ _ _ w hSw; have hcs := KS _ hSw; go_simp; try with_reducible rfl)
            simp only [Act.put, List.setIfInBounds_toArray, List.set_cons_zero, List.set_cons_succ]
            refine h_take 23 (some 8) (Op.assign (Operand.tmp 89)) 4 ?v44 rfl rfl (by kernel_rfl) (by kernel_rfl) (by kernel_rfl) (fun _ _ _ h => h) ?hy44 hHeld ?_
            case hy44 => (intro _ _ _ w hSw; have hcs := KS _ hSw; go_simp; try with_reducible rfl)
            simp only [Act.put, List.setIfInBounds_toArray, List.set_cons_zero, List.set_cons_succ]
            refine wpAnyH_done (by kernel_rfl) ?_ _
            have HN : Hid (PlayIn w T p B q N rp rB rq R W D f (changeT f g qi qa qb) ⟨2, qi, qa, qb, qd⟩ w4) := ⟨hk4, hs.change qi qa qb, k4.at hD (fun e => e.elim oD.1 oD.2.1)⟩
            clear hHeld KS kp3 kp4 k4 hk4 hk3 hk hs hD oD oT
            go_wp2
            go_meet
            case rel => exact ⟨rfl, _, _, _, _, _, _, _, HN.out⟩
          by_cases h3 : qk = 3
          · subst h3
            as_aux_lemma =>
            obtain ⟨ia, hia⟩ : ∃ b, partF (findV f g qi).s qa qb = b := ⟨_, rfl⟩
            have KS : ∀ w', Kept (fun n => n = N ∨ RW R W n) w2 w' → (w'.cell? ⟨T, 1, none⟩ = some (.pointer (some ⟨q, 0, none⟩)) ∧ w'.cell? ⟨T, 3, none⟩ = some (.pointer (some ⟨rq, 0, none⟩)) ∧ w'.cell? ⟨D, 1, none⟩ = some (.int .i64 qi) ∧ w'.cell? ⟨D, 2, none⟩ = some (.int .i64 qa) ∧ w'.cell? ⟨D, 3, none⟩ = some (.int .i64 qb)) :=
              fun w' hk' => ⟨hk'.cell hk.cells.2.1 (fun e => e.elim oT.1 oT.2.1), hk'.cell hk.cells.2.2.2 (fun e => e.elim oT.1 oT.2.1), hk'.cell (cell_at hD rfl) (fun e => e.elim oD.1 oD.2.1), hk'.cell (cell_at hD rfl) (fun e => e.elim oD.1 oD.2.1), hk'.cell (cell_at hD rfl) (fun e => e.elim oD.1 oD.2.1)⟩
            go_wp2_with fail
            refine wp_region_held_drew (S := fun w' => Kept (fun n => n = N ∨ RW R W n) w2 w') (by kernel_rfl) ((Kept.refl _ _).drew) (fun hHeld => ?_)
            refine h_take 0 (some 92) (Op.move (Operand.tmp 5)) 35 ?v45 rfl rfl (by kernel_rfl) (by kernel_rfl) (by kernel_rfl) (fun _ _ _ h => h) ?hy45 hHeld ?_
            case hy45 => (intro _ _ _ w hSw; have hcs := KS _ hSw; go_simp; try with_reducible rfl)
            simp only [Act.put, List.setIfInBounds_toArray, List.set_cons_zero, List.set_cons_succ]
            refine h_take 1 (some 93) (Op.nilCheck (Operand.tmp 92)) 0 ?v46 rfl rfl (by kernel_rfl) (by kernel_rfl) (by kernel_rfl) (fun _ _ _ h => h) ?hy46 hHeld ?_
            case hy46 => (intro _ _ _ w hSw; have hcs := KS _ hSw; go_simp; try with_reducible rfl)
            simp only [Act.put, List.setIfInBounds_toArray, List.set_cons_zero, List.set_cons_succ]
            refine h_take 2 (some 94) (Op.fieldAddr 42 (Operand.tmp 93) 1) 0 ?v47 rfl rfl (by kernel_rfl) (by kernel_rfl) (by kernel_rfl) (fun _ _ _ h => h) ?hy47 hHeld ?_
            case hy47 => (intro _ _ _ w hSw; have hcs := KS _ hSw; go_simp; try with_reducible rfl)
            simp only [Act.put, List.setIfInBounds_toArray, List.set_cons_zero, List.set_cons_succ]
            refine h_take 3 (some 95) (Op.load 24 (Operand.tmp 94)) 24 ?v48 rfl rfl (by kernel_rfl) (by kernel_rfl) (by kernel_rfl) (fun _ _ _ h => h) ?hy48 hHeld ?_
            case hy48 => (intro _ _ _ w hSw; have hcs := KS _ hSw; go_simp; try with_reducible rfl)
            simp only [Act.put, List.setIfInBounds_toArray, List.set_cons_zero, List.set_cons_succ]
            refine h_take 4 (some 96) (Op.fieldAddr 38 (Operand.tmp 7) 1) 0 ?v49 rfl rfl (by kernel_rfl) (by kernel_rfl) (by kernel_rfl) (fun _ _ _ h => h) ?hy49 hHeld ?_
            case hy49 => (intro _ _ _ w hSw; have hcs := KS _ hSw; go_simp; try with_reducible rfl)
            simp only [Act.put, List.setIfInBounds_toArray, List.set_cons_zero, List.set_cons_succ]
            refine h_take 5 (some 97) (Op.load 3 (Operand.tmp 96)) 3 ?v50 rfl rfl (by kernel_rfl) (by kernel_rfl) (by kernel_rfl) (fun _ _ _ h => h) ?hy50 hHeld ?_
            case hy50 => (intro _ _ _ w hSw; have hcs := KS _ hSw; go_simp; try with_reducible rfl)
            simp only [Act.put, List.setIfInBounds_toArray, List.set_cons_zero, List.set_cons_succ]
            refine h_take 6 (some 98) (Op.fieldAddr 38 (Operand.tmp 7) 2) 0 ?v51 rfl rfl (by kernel_rfl) (by kernel_rfl) (by kernel_rfl) (fun _ _ _ h => h) ?hy51 hHeld ?_
            case hy51 => (intro _ _ _ w hSw; have hcs := KS _ hSw; go_simp; try with_reducible rfl)
            simp only [Act.put, List.setIfInBounds_toArray, List.set_cons_zero, List.set_cons_succ]
            refine h_take 7 (some 99) (Op.load 3 (Operand.tmp 98)) 3 ?v52 rfl rfl (by kernel_rfl) (by kernel_rfl) (by kernel_rfl) (fun _ _ _ h => h) ?hy52 hHeld ?_
            case hy52 => (intro _ _ _ w hSw; have hcs := KS _ hSw; go_simp; try with_reducible rfl)
            simp only [Act.put, List.setIfInBounds_toArray, List.set_cons_zero, List.set_cons_succ]
            refine h_take 8 (some 100) (Op.fieldAddr 38 (Operand.tmp 7) 3) 0 ?v53 rfl rfl (by kernel_rfl) (by kernel_rfl) (by kernel_rfl) (fun _ _ _ h => h) ?hy53 hHeld ?_
            case hy53 => (intro _ _ _ w hSw; have hcs := KS _ hSw; go_simp; try with_reducible rfl)
            simp only [Act.put, List.setIfInBounds_toArray, List.set_cons_zero, List.set_cons_succ]
            refine h_take 9 (some 101) (Op.load 3 (Operand.tmp 100)) 3 ?v54 rfl rfl (by kernel_rfl) (by kernel_rfl) (by kernel_rfl) (fun _ _ _ h => h) ?hy54 hHeld ?_
            case hy54 => (intro _ _ _ w hSw; have hcs := KS _ hSw; go_simp; try with_reducible rfl)
            simp only [Act.put, List.setIfInBounds_toArray, List.set_cons_zero, List.set_cons_succ]
            refine h_take 11 (some 103) (Op.move (Operand.tmp 5)) 35 ?v55 rfl rfl (by kernel_rfl) (by kernel_rfl) (by kernel_rfl) (fun _ _ _ h => h) ?hy55 hHeld ?_
            case hy55 => (intro _ _ _ w hSw; have hcs := KS _ hSw; go_simp; try with_reducible rfl)
            simp only [Act.put, List.setIfInBounds_toArray, List.set_cons_zero, List.set_cons_succ]
            refine h_take 12 (some 104) (Op.nilCheck (Operand.tmp 103)) 0 ?v56 rfl rfl (by kernel_rfl) (by kernel_rfl) (by kernel_rfl) (fun _ _ _ h => h) ?hy56 hHeld ?_
            case hy56 => (intro _ _ _ w hSw; have hcs := KS _ hSw; go_simp; try with_reducible rfl)
            simp only [Act.put, List.setIfInBounds_toArray, List.set_cons_zero, List.set_cons_succ]
            refine h_take 13 (some 105) (Op.fieldAddr 42 (Operand.tmp 104) 3) 0 ?v57 rfl rfl (by kernel_rfl) (by kernel_rfl) (by kernel_rfl) (fun _ _ _ h => h) ?hy57 hHeld ?_
            case hy57 => (intro _ _ _ w hSw; have hcs := KS _ hSw; go_simp; try with_reducible rfl)
            simp only [Act.put, List.setIfInBounds_toArray, List.set_cons_zero, List.set_cons_succ]
            refine h_take 14 (some 106) (Op.load 40 (Operand.tmp 105)) 40 ?v58 rfl rfl (by kernel_rfl) (by kernel_rfl) (by kernel_rfl) (fun _ _ _ h => h) ?hy58 hHeld ?_
            case hy58 => (intro _ _ _ w hSw; have hcs := KS _ hSw; go_simp; try with_reducible rfl)
            simp only [Act.put, List.setIfInBounds_toArray, List.set_cons_zero, List.set_cons_succ]
            refine h_take 15 (some 107) (Op.fieldAddr 38 (Operand.tmp 7) 1) 0 ?v59 rfl rfl (by kernel_rfl) (by kernel_rfl) (by kernel_rfl) (fun _ _ _ h => h) ?hy59 hHeld ?_
            case hy59 => (intro _ _ _ w hSw; have hcs := KS _ hSw; go_simp; try with_reducible rfl)
            simp only [Act.put, List.setIfInBounds_toArray, List.set_cons_zero, List.set_cons_succ]
            refine h_take 16 (some 108) (Op.load 3 (Operand.tmp 107)) 3 ?v60 rfl rfl (by kernel_rfl) (by kernel_rfl) (by kernel_rfl) (fun _ _ _ h => h) ?hy60 hHeld ?_
            case hy60 => (intro _ _ _ w hSw; have hcs := KS _ hSw; go_simp; try with_reducible rfl)
            simp only [Act.put, List.setIfInBounds_toArray, List.set_cons_zero, List.set_cons_succ]
            refine h_take 17 (some 109) (Op.fieldAddr 38 (Operand.tmp 7) 2) 0 ?v61 rfl rfl (by kernel_rfl) (by kernel_rfl) (by kernel_rfl) (fun _ _ _ h => h) ?hy61 hHeld ?_
            case hy61 => (intro _ _ _ w hSw; have hcs := KS _ hSw; go_simp; try with_reducible rfl)
            simp only [Act.put, List.setIfInBounds_toArray, List.set_cons_zero, List.set_cons_succ]
            refine h_take 18 (some 110) (Op.load 3 (Operand.tmp 109)) 3 ?v62 rfl rfl (by kernel_rfl) (by kernel_rfl) (by kernel_rfl) (fun _ _ _ h => h) ?hy62 hHeld ?_
            case hy62 => (intro _ _ _ w hSw; have hcs := KS _ hSw; go_simp; try with_reducible rfl)
            simp only [Act.put, List.setIfInBounds_toArray, List.set_cons_zero, List.set_cons_succ]
            refine h_take 19 (some 111) (Op.fieldAddr 38 (Operand.tmp 7) 3) 0 ?v63 rfl rfl (by kernel_rfl) (by kernel_rfl) (by kernel_rfl) (fun _ _ _ h => h) ?hy63 hHeld ?_
            case hy63 => (intro _ _ _ w hSw; have hcs := KS _ hSw; go_simp; try with_reducible rfl)
            simp only [Act.put, List.setIfInBounds_toArray, List.set_cons_zero, List.set_cons_succ]
            refine h_take 20 (some 112) (Op.load 3 (Operand.tmp 111)) 3 ?v64 rfl rfl (by kernel_rfl) (by kernel_rfl) (by kernel_rfl) (fun _ _ _ h => h) ?hy64 hHeld ?_
            case hy64 => (intro _ _ _ w hSw; have hcs := KS _ hSw; go_simp; try with_reducible rfl)
            simp only [Act.put, List.setIfInBounds_toArray, List.set_cons_zero, List.set_cons_succ]
            refine h_step 10 (some 102) (Op.call { callee := Callee.value (Operand.func 12), args := #[Operand.tmp 95, Operand.tmp 97, Operand.tmp 99, Operand.tmp 101], argTypes := #[24, 3, 3, 3] }) 9 rfl rfl (by kernel_rfl) (fun _ _ _ K hK => ?_)
            go_simp
            refine (kv_read (hk.still (Kept.refl _ w2).drew) qi qa qb (hs.found qi)).mono ?_
            rintro e w3 ⟨rfl, hk3, kp3⟩
            replace kp3 : Kept (fun n => n = N) w2 w3 := (Kept.refl _ w2).drew.trans kp3 (fun _ _ e => e)
            rw [hia]
            go_wp2_with fail
            refine hK.out _ _ (kp3.mono (fun _ _ e => .inl e)) (fun hHeld => ?_)
            clear hK K
            try simp only [Act.put, List.setIfInBounds_toArray, List.set_cons_zero, List.set_cons_succ]
            refine h_step 21 (some 113) (Op.call { callee := Callee.value (Operand.func 18), args := #[Operand.tmp 106, Operand.tmp 108, Operand.tmp 110, Operand.tmp 112], argTypes := #[40, 3, 3, 3] }) 9 rfl rfl (by kernel_rfl) (fun _ _ _ K hK => ?_)
            go_simp
            refine (kr_read hk3 qi qa qb (hs.found qi)).mono ?_
            rintro e w4 ⟨rfl, hk4, kp4⟩
            have k4 : Kept (fun n => n = N ∨ RW R W n) w2 w4 := (kp3.mono (fun _ _ e => .inl e)).trans kp4 (fun _ _ e => .inr e)
            rw [hia]
            go_wp2_with fail
            refine hK.out _ _ (k4) (fun hHeld => ?_)
            clear hK K
            try simp only [Act.put, List.setIfInBounds_toArray, List.set_cons_zero, List.set_cons_succ]
            refine h_take 22 (some 114) (Op.binOp BinOp.eql 9 (Operand.tmp 102) (Operand.tmp 113) 9) 4 ?v65 rfl rfl (by kernel_rfl) (by kernel_rfl) (by kernel_rfl) (fun _ _ _ h => h) ?hy65 hHeld ?_
            case hy65 => (intro _ _ _ w hSw; have hcs := KS _ hSw; go_simp; try with_reducible rfl)
            simp only [Act.put, List.setIfInBounds_toArray, List.set_cons_zero, List.set_cons_succ]
            refine h_take 23 (some 8) (Op.assign (Operand.tmp 114)) 4 ?v66 rfl rfl (by kernel_rfl) (by kernel_rfl) (by kernel_rfl) (fun _ _ _ h => h) ?hy66 hHeld ?_
            case hy66 => (intro _ _ _ w hSw; have hcs := KS _ hSw; go_simp; try with_reducible rfl)
            simp only [Act.put, List.setIfInBounds_toArray, List.set_cons_zero, List.set_cons_succ]
            refine wpAnyH_done (by kernel_rfl) ?_ _
            have HN : Hid (PlayIn w T p B q N rp rB rq R W D f (findT g qi) ⟨3, qi, qa, qb, qd⟩ w4) := ⟨hk4, hs.find qi, k4.at hD (fun e => e.elim oD.1 oD.2.1)⟩
            clear hHeld KS kp3 kp4 k4 hk4 hk3 hk hs hD oD oT
            go_wp2
            go_meet
            case rel => exact ⟨rfl, _, _, _, _, _, _, _, HN.out⟩
          by_cases h4 : qk = 4
          · subst h4
            as_aux_lemma =>
            have KT : ∀ w', Kept (fun _ => False) w2 w' → (w'.cell? ⟨D, 3, none⟩ = some (.int .i64 qb) ∧ w'.cell? ⟨D, 4, none⟩ = some (.int .i64 qd)) := fun w' hk' => ⟨hk'.cell (cell_at hD rfl) (fun x => x), hk'.cell (cell_at hD rfl) (fun x => x)⟩
            have KS := KT
            go_wp2_with fail
            refine wp_region_held_drew (S := fun w' => Kept (fun _ => False) w2 w') (by kernel_rfl) ((Kept.refl _ _).drew) (fun hHeld => ?_)
            refine h_take 0 (some 117) (Op.fieldAddr 38 (Operand.tmp 7) 3) 0 ?v67 rfl rfl (by kernel_rfl) (by kernel_rfl) (by kernel_rfl) (fun _ _ _ h => h) ?hy67 hHeld ?_
            case hy67 => (intro _ _ _ w hSw; have hcs := KS _ hSw; go_simp; try with_reducible rfl)
            simp only [Act.put, List.setIfInBounds_toArray, List.set_cons_zero, List.set_cons_succ]
            refine h_take 1 (some 118) (Op.load 3 (Operand.tmp 117)) 3 ?v68 rfl rfl (by kernel_rfl) (by kernel_rfl) (by kernel_rfl) (fun _ _ _ h => h) ?hy68 hHeld ?_
            case hy68 => (intro _ _ _ w hSw; have hcs := KS _ hSw; go_simp; try with_reducible rfl)
            simp only [Act.put, List.setIfInBounds_toArray, List.set_cons_zero, List.set_cons_succ]
            refine h_take 2 (some 119) (Op.fieldAddr 38 (Operand.tmp 7) 4) 0 ?v69 rfl rfl (by kernel_rfl) (by kernel_rfl) (by kernel_rfl) (fun _ _ _ h => h) ?hy69 hHeld ?_
            case hy69 => (intro _ _ _ w hSw; have hcs := KS _ hSw; go_simp; try with_reducible rfl)
            simp only [Act.put, List.setIfInBounds_toArray, List.set_cons_zero, List.set_cons_succ]
            refine h_take 3 (some 120) (Op.load 3 (Operand.tmp 119)) 3 ?v70 rfl rfl (by kernel_rfl) (by kernel_rfl) (by kernel_rfl) (fun _ _ _ h => h) ?hy70 hHeld ?_
            case hy70 => (intro _ _ _ w hSw; have hcs := KS _ hSw; go_simp; try with_reducible rfl)
            simp only [Act.put, List.setIfInBounds_toArray, List.set_cons_zero, List.set_cons_succ]
            refine h_step 4 (some 121) (Op.call { callee := Callee.value (Operand.func 20), args := #[Operand.tmp 120, Operand.const (Value.int IntKind.i64 0), Operand.const (Value.int IntKind.i64 140)], argTypes := #[3, 3, 3] }) 3 rfl rfl (by kernel_rfl) (fun _ _ _ K hK => ?_)
            go_simp
            refine (within_any qd 0 140 (by omega) (by omega) (by omega) _).mono ?_
            rintro e w3 ⟨rfl, hw3⟩
            subst hw3
            go_wp2_with fail
            refine hK.out _ _ ((Kept.refl _ w2).drew) (fun hHeld => ?_)
            clear hK K
            try simp only [Act.put, List.setIfInBounds_toArray, List.set_cons_zero, List.set_cons_succ]
            refine h_step 5 (some 122) (Op.call { callee := Callee.value (Operand.func 19), args := #[Operand.tmp 118, Operand.tmp 121], argTypes := #[3, 3] }) 9 rfl rfl (by kernel_rfl) (fun _ _ _ K hK => ?_)
            go_simp
            refine (text_w qb _ (by omega) (by omega) _).mono ?_
            rintro e w3 ⟨d, rfl, -, hkd⟩
            replace hkd : Kept (fun _ => False) w2 w3 := (Kept.refl _ w2).drew.thru hkd
            go_wp2_with fail
            refine hK.out _ _ (hkd) (fun hHeld => ?_)
            clear hK K
            try simp only [Act.put, List.setIfInBounds_toArray, List.set_cons_zero, List.set_cons_succ]
            refine h_take 6 (some 13) (Op.assign (Operand.tmp 122)) 9 ?v71 rfl rfl (by kernel_rfl) (by kernel_rfl) (by kernel_rfl) (fun _ _ _ h => h) ?hy71 hHeld ?_
            case hy71 => (intro _ _ _ w hSw; have hcs := KS _ hSw; go_simp; try with_reducible rfl)
            simp only [Act.put, List.setIfInBounds_toArray, List.set_cons_zero, List.set_cons_succ]
            refine wpAnyH_done (by kernel_rfl) ?_ _
            replace hk := hk.still hkd
            replace hD := hkd.at hD (fun x => x)
            clear hHeld KS KT hkd HP
            obtain ⟨ia, hia⟩ : ∃ b, writeA f g qi qa d = b := ⟨_, rfl⟩
            have KS : ∀ w', Kept (fun n => n = N ∨ RW R W n) w3 w' → (w'.cell? ⟨T, 1, none⟩ = some (.pointer (some ⟨q, 0, none⟩)) ∧ w'.cell? ⟨T, 3, none⟩ = some (.pointer (some ⟨rq, 0, none⟩)) ∧ w'.cell? ⟨D, 1, none⟩ = some (.int .i64 qi) ∧ w'.cell? ⟨D, 2, none⟩ = some (.int .i64 qa) ∧ w'.cell? ⟨D, 3, none⟩ = some (.int .i64 qb)) :=
              fun w' hk' => ⟨hk'.cell hk.cells.2.1 (fun e => e.elim oT.1 oT.2.1), hk'.cell hk.cells.2.2.2 (fun e => e.elim oT.1 oT.2.1), hk'.cell (cell_at hD rfl) (fun e => e.elim oD.1 oD.2.1), hk'.cell (cell_at hD rfl) (fun e => e.elim oD.1 oD.2.1), hk'.cell (cell_at hD rfl) (fun e => e.elim oD.1 oD.2.1)⟩
            go_wp2_with fail
            refine wp_region_held_drew (S := fun w' => Kept (fun n => n = N ∨ RW R W n) w3 w') (by kernel_rfl) ((Kept.refl _ _).drew) (fun hHeld => ?_)
            refine h_take 0 (some 123) (Op.move (Operand.tmp 5)) 35 ?v72 rfl rfl (by kernel_rfl) (by kernel_rfl) (by kernel_rfl) (fun _ _ _ h => h) ?hy72 hHeld ?_
            case hy72 => (intro _ _ _ w hSw; have hcs := KS _ hSw; go_simp; try with_reducible rfl)
            simp only [Act.put, List.setIfInBounds_toArray, List.set_cons_zero, List.set_cons_succ]
            refine h_take 1 (some 124) (Op.nilCheck (Operand.tmp 123)) 0 ?v73 rfl rfl (by kernel_rfl) (by kernel_rfl) (by kernel_rfl) (fun _ _ _ h => h) ?hy73 hHeld ?_
            case hy73 => (intro _ _ _ w hSw; have hcs := KS _ hSw; go_simp; try with_reducible rfl)
            simp only [Act.put, List.setIfInBounds_toArray, List.set_cons_zero, List.set_cons_succ]
            refine h_take 2 (some 125) (Op.fieldAddr 42 (Operand.tmp 124) 1) 0 ?v74 rfl rfl (by kernel_rfl) (by kernel_rfl) (by kernel_rfl) (fun _ _ _ h => h) ?hy74 hHeld ?_
            case hy74 => (intro _ _ _ w hSw; have hcs := KS _ hSw; go_simp; try with_reducible rfl)
            simp only [Act.put, List.setIfInBounds_toArray, List.set_cons_zero, List.set_cons_succ]
            refine h_take 3 (some 126) (Op.load 24 (Operand.tmp 125)) 24 ?v75 rfl rfl (by kernel_rfl) (by kernel_rfl) (by kernel_rfl) (fun _ _ _ h => h) ?hy75 hHeld ?_
            case hy75 => (intro _ _ _ w hSw; have hcs := KS _ hSw; go_simp; try with_reducible rfl)
            simp only [Act.put, List.setIfInBounds_toArray, List.set_cons_zero, List.set_cons_succ]
            refine h_take 4 (some 127) (Op.fieldAddr 38 (Operand.tmp 7) 1) 0 ?v76 rfl rfl (by kernel_rfl) (by kernel_rfl) (by kernel_rfl) (fun _ _ _ h => h) ?hy76 hHeld ?_
            case hy76 => (intro _ _ _ w hSw; have hcs := KS _ hSw; go_simp; try with_reducible rfl)
            simp only [Act.put, List.setIfInBounds_toArray, List.set_cons_zero, List.set_cons_succ]
            refine h_take 5 (some 128) (Op.load 3 (Operand.tmp 127)) 3 ?v77 rfl rfl (by kernel_rfl) (by kernel_rfl) (by kernel_rfl) (fun _ _ _ h => h) ?hy77 hHeld ?_
            case hy77 => (intro _ _ _ w hSw; have hcs := KS _ hSw; go_simp; try with_reducible rfl)
            simp only [Act.put, List.setIfInBounds_toArray, List.set_cons_zero, List.set_cons_succ]
            refine h_take 6 (some 129) (Op.fieldAddr 38 (Operand.tmp 7) 2) 0 ?v78 rfl rfl (by kernel_rfl) (by kernel_rfl) (by kernel_rfl) (fun _ _ _ h => h) ?hy78 hHeld ?_
            case hy78 => (intro _ _ _ w hSw; have hcs := KS _ hSw; go_simp; try with_reducible rfl)
            simp only [Act.put, List.setIfInBounds_toArray, List.set_cons_zero, List.set_cons_succ]
            refine h_take 7 (some 130) (Op.load 3 (Operand.tmp 129)) 3 ?v79 rfl rfl (by kernel_rfl) (by kernel_rfl) (by kernel_rfl) (fun _ _ _ h => h) ?hy79 hHeld ?_
            case hy79 => (intro _ _ _ w hSw; have hcs := KS _ hSw; go_simp; try with_reducible rfl)
            simp only [Act.put, List.setIfInBounds_toArray, List.set_cons_zero, List.set_cons_succ]
            refine h_take 8 (some 131) (Op.move (Operand.tmp 13)) 9 ?v80 rfl rfl (by kernel_rfl) (by kernel_rfl) (by kernel_rfl) (fun _ _ _ h => h) ?hy80 hHeld ?_
            case hy80 => (intro _ _ _ w hSw; have hcs := KS _ hSw; go_simp; try with_reducible rfl)
            simp only [Act.put, List.setIfInBounds_toArray, List.set_cons_zero, List.set_cons_succ]
            refine h_take 10 (some 133) (Op.move (Operand.tmp 5)) 35 ?v81 rfl rfl (by kernel_rfl) (by kernel_rfl) (by kernel_rfl) (fun _ _ _ h => h) ?hy81 hHeld ?_
            case hy81 => (intro _ _ _ w hSw; have hcs := KS _ hSw; go_simp; try with_reducible rfl)
            simp only [Act.put, List.setIfInBounds_toArray, List.set_cons_zero, List.set_cons_succ]
            refine h_take 11 (some 134) (Op.nilCheck (Operand.tmp 133)) 0 ?v82 rfl rfl (by kernel_rfl) (by kernel_rfl) (by kernel_rfl) (fun _ _ _ h => h) ?hy82 hHeld ?_
            case hy82 => (intro _ _ _ w hSw; have hcs := KS _ hSw; go_simp; try with_reducible rfl)
            simp only [Act.put, List.setIfInBounds_toArray, List.set_cons_zero, List.set_cons_succ]
            refine h_take 12 (some 135) (Op.fieldAddr 42 (Operand.tmp 134) 3) 0 ?v83 rfl rfl (by kernel_rfl) (by kernel_rfl) (by kernel_rfl) (fun _ _ _ h => h) ?hy83 hHeld ?_
            case hy83 => (intro _ _ _ w hSw; have hcs := KS _ hSw; go_simp; try with_reducible rfl)
            simp only [Act.put, List.setIfInBounds_toArray, List.set_cons_zero, List.set_cons_succ]
            refine h_take 13 (some 136) (Op.load 40 (Operand.tmp 135)) 40 ?v84 rfl rfl (by kernel_rfl) (by kernel_rfl) (by kernel_rfl) (fun _ _ _ h => h) ?hy84 hHeld ?_
            case hy84 => (intro _ _ _ w hSw; have hcs := KS _ hSw; go_simp; try with_reducible rfl)
            simp only [Act.put, List.setIfInBounds_toArray, List.set_cons_zero, List.set_cons_succ]
            refine h_take 14 (some 137) (Op.fieldAddr 38 (Operand.tmp 7) 1) 0 ?v85 rfl rfl (by kernel_rfl) (by kernel_rfl) (by kernel_rfl) (fun _ _ _ h => h) ?hy85 hHeld ?_
            case hy85 => (intro _ _ _ w hSw; have hcs := KS _ hSw; go_simp; try with_reducible rfl)
            simp only [Act.put, List.setIfInBounds_toArray, List.set_cons_zero, List.set_cons_succ]
            refine h_take 15 (some 138) (Op.load 3 (Operand.tmp 137)) 3 ?v86 rfl rfl (by kernel_rfl) (by kernel_rfl) (by kernel_rfl) (fun _ _ _ h => h) ?hy86 hHeld ?_
            case hy86 => (intro _ _ _ w hSw; have hcs := KS _ hSw; go_simp; try with_reducible rfl)
            simp only [Act.put, List.setIfInBounds_toArray, List.set_cons_zero, List.set_cons_succ]
            refine h_take 16 (some 139) (Op.fieldAddr 38 (Operand.tmp 7) 2) 0 ?v87 rfl rfl (by kernel_rfl) (by kernel_rfl) (by kernel_rfl) (fun _ _ _ h => h) ?hy87 hHeld ?_
            case hy87 => (intro _ _ _ w hSw; have hcs := KS _ hSw; go_simp; try with_reducible rfl)
            simp only [Act.put, List.setIfInBounds_toArray, List.set_cons_zero, List.set_cons_succ]
            refine h_take 17 (some 140) (Op.load 3 (Operand.tmp 139)) 3 ?v88 rfl rfl (by kernel_rfl) (by kernel_rfl) (by kernel_rfl) (fun _ _ _ h => h) ?hy88 hHeld ?_
            case hy88 => (intro _ _ _ w hSw; have hcs := KS _ hSw; go_simp; try with_reducible rfl)
            simp only [Act.put, List.setIfInBounds_toArray, List.set_cons_zero, List.set_cons_succ]
            refine h_take 18 (some 141) (Op.move (Operand.tmp 13)) 9 ?v89 rfl rfl (by kernel_rfl) (by kernel_rfl) (by kernel_rfl) (fun _ _ _ h => h) ?hy89 hHeld ?_
            case hy89 => (intro _ _ _ w hSw; have hcs := KS _ hSw; go_simp; try with_reducible rfl)
            simp only [Act.put, List.setIfInBounds_toArray, List.set_cons_zero, List.set_cons_succ]
            refine h_step 9 (some 132) (Op.call { callee := Callee.value (Operand.func 11), args := #[Operand.tmp 126, Operand.tmp 128, Operand.tmp 130, Operand.tmp 131], argTypes := #[24, 3, 3, 9] }) 3 rfl rfl (by kernel_rfl) (fun _ _ _ K hK => ?_)
            go_simp
            refine (kv_write (hk.still (Kept.refl _ w3).drew) qi qa d (hs.found qi)).mono ?_
            rintro e w5 ⟨rfl, hk3, kp3⟩
            replace kp3 : Kept (fun n => n = N) w3 w5 := (Kept.refl _ w3).drew.trans kp3 (fun _ _ e => e)
            rw [hia]
            go_wp2_with fail
            refine hK.out _ _ (kp3.mono (fun _ _ e => .inl e)) (fun hHeld => ?_)
            clear hK K
            try simp only [Act.put, List.setIfInBounds_toArray, List.set_cons_zero, List.set_cons_succ]
            refine h_step 19 (some 142) (Op.call { callee := Callee.value (Operand.func 21), args := #[Operand.tmp 136, Operand.tmp 138, Operand.tmp 140, Operand.tmp 141], argTypes := #[40, 3, 3, 9] }) 3 rfl rfl (by kernel_rfl) (fun _ _ _ K hK => ?_)
            go_simp
            refine (kr_write hk3 qi qa d (hs.found qi)).mono ?_
            rintro e w4 ⟨rfl, hk4, kp4⟩
            have k4 : Kept (fun n => n = N ∨ RW R W n) w3 w4 := (kp3.mono (fun _ _ e => .inl e)).trans kp4 (fun _ _ e => .inr e)
            rw [hia]
            go_wp2_with fail
            refine hK.out _ _ (k4) (fun hHeld => ?_)
            clear hK K
            try simp only [Act.put, List.setIfInBounds_toArray, List.set_cons_zero, List.set_cons_succ]
            refine h_take 20 (some 143) (Op.binOp BinOp.eql 3 (Operand.tmp 132) (Operand.tmp 142) 3) 4 ?v90 rfl rfl (by kernel_rfl) (by kernel_rfl) (by kernel_rfl) (fun _ _ _ h => h) ?hy90 hHeld ?_
            case hy90 => (intro _ _ _ w hSw; have hcs := KS _ hSw; go_simp; try with_reducible rfl)
            simp only [Act.put, List.setIfInBounds_toArray, List.set_cons_zero, List.set_cons_succ]
            refine h_take 21 (some 8) (Op.assign (Operand.tmp 143)) 4 ?v91 rfl rfl (by kernel_rfl) (by kernel_rfl) (by kernel_rfl) (fun _ _ _ h => h) ?hy91 hHeld ?_
            case hy91 => (intro _ _ _ w hSw; have hcs := KS _ hSw; go_simp; try with_reducible rfl)
            simp only [Act.put, List.setIfInBounds_toArray, List.set_cons_zero, List.set_cons_succ]
            refine wpAnyH_done (by kernel_rfl) ?_ _
            have HN : Hid (PlayIn w T p B q N rp rB rq R W D f (writeT f g qi qa d) ⟨4, qi, qa, qb, qd⟩ w4) := ⟨hk4, hs.write qi qa d, k4.at hD (fun e => e.elim oD.1 oD.2.1)⟩
            clear hHeld KS kp3 kp4 k4 hk4 hk3 hk hs hD oD oT
            go_wp2
            go_meet
            case rel => exact ⟨rfl, _, _, _, _, _, _, _, HN.out⟩
          by_cases h5 : qk = 5
          · subst h5
            as_aux_lemma =>
            go_wp2_with fail
            refine (two_put hk hT).mono ?_
            rintro e w3 ⟨rfl, ⟨q', N', rq', R', W', h3⟩, hkp⟩
            have HN : Hid (PlayIn w T p B q' N' rp rB rq' R' W' D (putAll f (redoF g)) (fun _ => none) ⟨5, qi, qa, qb, qd⟩ w3) := ⟨h3, hs.redo, hkp.at hD (by have := oD.2.2; omega)⟩
            clear hk hs hD oD oT h3 hkp
            go_wp2
            go_meet
            case rel => exact ⟨rfl, _, _, _, _, _, _, _, HN.out⟩
          ·
            as_aux_lemma =>
            have HN : Hid (PlayIn w T p B q N rp rB rq R W D f g ⟨qk, qi, qa, qb, qd⟩ w2) := HP.out.1
            clear hk hs hD oD oT
            go_wp2
            go_meet
            case rel => exact ⟨rfl, _, _, _, _, _, _, _, HN.out⟩
        case rest =>
          as_aux_lemma =>
          obtain ⟨rfl, q', N', rq', R', W', f', g', HG⟩ := hcut
          have hD0 := HP.out.2
          clear HP
          obtain ⟨X, hX⟩ : ∃ X : Nat, wc.heap.size = X := ⟨_, rfl⟩
          have hk := HG.out.1
          have hs := HG.out.2.1
          have hD := HG.out.2.2
          have lD : D < X := by have := lt_at hD; omega
          have lT : T < X := by have := lt_at hk.cell; omega
          have lp : p < X := by have := lt_at hk.game.s.cell; omega
          have lrp : rp < X := by have := lt_at hk.game.rs.cell; omega
          have lq : q' < X := by have := lt_at hk.game.v.cell; omega
          have lrq : rq' < X := by have := lt_at hk.game.rv.cell; omega
          have lw : w.heap.size ≤ X := by have := hk.game.kept.size; omega
          have kx : Kept (fun _ => False) wc (wc.alloc (.cells (vc zeroV).toArray 51)) := (Kept.refl _ _).alloc _
          have hX3 : (wc.alloc (.cells (vc zeroV).toArray 51)).heap[X]? = some (.cells (vc zeroV).toArray 51 (0, 0)) := alloc_at' _ hX
          have hk3 := hk.still kx
          have hD3 := kx.at hD (fun x => x)
          clear hk hD kx HG
          go_upto_region 24 with (first | (refine list_wnew rfl wide_V _ _ rfl X rfl (vc zeroV) rfl _ rfl hX rfl (vc_one _) ?_))
          generalize wc.alloc (.cells (vc zeroV).toArray 51) = w3 at *
          clear hX
          try simp only [Act.put]
          have oD := hk3.off hD3
          have oT := hk3.off hk3.cell
          have oX := hk3.off hX3
          have KS : ∀ w', Kept (RW R' W') w3 w' → (w'.cell? ⟨T, 3, none⟩ = some (.pointer (some ⟨rq', 0, none⟩)) ∧ w'.cell? ⟨D, 1, none⟩ = some (.int .i64 qi)) :=
            fun w' hk' => ⟨hk'.cell hk3.cells.2.2.2 oT.2.1, hk'.cell (cell_at hD3 rfl) oD.2.1⟩
          refine wp_region_held_drew (S := fun w' => Kept (RW R' W') w3 w') (by kernel_rfl) ((Kept.refl _ _).drew) (fun hHeld => ?_)
          refine h_take 0 (some 149) (Op.move (Operand.tmp 5)) 35 ?v92 rfl rfl (by kernel_rfl) (by kernel_rfl) (by kernel_rfl) (fun _ _ _ h => h) ?hy92 hHeld ?_
          case hy92 => (intro _ _ _ w hSw; have hcs := KS _ hSw; go_simp; try with_reducible rfl)
          simp only [Act.put, List.setIfInBounds_toArray, List.set_cons_zero, List.set_cons_succ]
          refine h_take 1 (some 150) (Op.nilCheck (Operand.tmp 149)) 0 ?v93 rfl rfl (by kernel_rfl) (by kernel_rfl) (by kernel_rfl) (fun _ _ _ h => h) ?hy93 hHeld ?_
          case hy93 => (intro _ _ _ w hSw; have hcs := KS _ hSw; go_simp; try with_reducible rfl)
          simp only [Act.put, List.setIfInBounds_toArray, List.set_cons_zero, List.set_cons_succ]
          refine h_take 2 (some 151) (Op.fieldAddr 42 (Operand.tmp 150) 3) 0 ?v94 rfl rfl (by kernel_rfl) (by kernel_rfl) (by kernel_rfl) (fun _ _ _ h => h) ?hy94 hHeld ?_
          case hy94 => (intro _ _ _ w hSw; have hcs := KS _ hSw; go_simp; try with_reducible rfl)
          simp only [Act.put, List.setIfInBounds_toArray, List.set_cons_zero, List.set_cons_succ]
          refine h_take 3 (some 152) (Op.load 40 (Operand.tmp 151)) 40 ?v95 rfl rfl (by kernel_rfl) (by kernel_rfl) (by kernel_rfl) (fun _ _ _ h => h) ?hy95 hHeld ?_
          case hy95 => (intro _ _ _ w hSw; have hcs := KS _ hSw; go_simp; try with_reducible rfl)
          simp only [Act.put, List.setIfInBounds_toArray, List.set_cons_zero, List.set_cons_succ]
          refine h_take 4 (some 153) (Op.fieldAddr 38 (Operand.tmp 7) 1) 0 ?v96 rfl rfl (by kernel_rfl) (by kernel_rfl) (by kernel_rfl) (fun _ _ _ h => h) ?hy96 hHeld ?_
          case hy96 => (intro _ _ _ w hSw; have hcs := KS _ hSw; go_simp; try with_reducible rfl)
          simp only [Act.put, List.setIfInBounds_toArray, List.set_cons_zero, List.set_cons_succ]
          refine h_take 5 (some 154) (Op.load 3 (Operand.tmp 153)) 3 ?v97 rfl rfl (by kernel_rfl) (by kernel_rfl) (by kernel_rfl) (fun _ _ _ h => h) ?hy97 hHeld ?_
          case hy97 => (intro _ _ _ w hSw; have hcs := KS _ hSw; go_simp; try with_reducible rfl)
          simp only [Act.put, List.setIfInBounds_toArray, List.set_cons_zero, List.set_cons_succ]
          refine h_step 6 (some 155) (Op.call { callee := Callee.value (Operand.func 23), args := #[Operand.tmp 152, Operand.tmp 154], argTypes := #[40, 3] }) 4 rfl rfl (by kernel_rfl) (fun _ _ _ K hK => ?_)
          go_simp
          refine (kr_is (hk3.still (Kept.refl _ w3).drew) qi).mono ?_
          rintro e w4 ⟨rfl, hk4, kp4⟩
          replace kp4 : Kept (RW R' W') w3 w4 := (Kept.refl _ w3).drew.trans kp4 (fun _ _ e => e)
          go_wp2_with fail
          refine hK.out _ _ (kp4) (fun hHeld => ?_)
          clear hK K
          try simp only [Act.put, List.setIfInBounds_toArray, List.set_cons_zero, List.set_cons_succ]
          refine wpAnyH_done (by kernel_rfl) ?_ _
          have hD4 := kp4.at hD3 oD.2.1
          have hX4 := kp4.at hX3 oX.2.1
          clear hHeld KS kp4 hk3 hD3 hX3 oD oT oX
          have HI4 : Hid (KeepIn w T p B q' N' rp rB rq' R' W' f' f' g' (findT g' qi) w4 ∧ w4.heap[D]? = some (.cells (qcs ⟨qk, qi, qa, qb, qd⟩) 38 (0, 0)) ∧ w4.heap[X]? = some (.cells (vc zeroV).toArray 51 (0, 0))) := ⟨hk4, hD4, hX4⟩
          clear hk4 hD4 hX4
          go_upto_if 155 with fail
          go_cut [14] from 149 to 163 (fun v wx => v = .pointer (some ⟨X, 0, none⟩) ∧ Hid (KeepIn w T p B q' N' rp rB rq' R' W' f' f' g' (findT g' qi) wx ∧ wx.heap[D]? = some (.cells (qcs ⟨qk, qi, qa, qb, qd⟩) 38 (0, 0)) ∧ wx.heap[X]? = some (.cells (vc (findV f' g' qi)).toArray 51 (0, 0))))
          case first =>
            as_aux_lemma =>
            have hv := is_val (f := f') (g := g') (i := qi)
            have hn := not_is (f := f') (g := g') (i := qi)
            obtain ⟨ib, hib⟩ : ∃ ib, isI f' g' qi = ib := ⟨_, rfl⟩
            rw [hib] at hv hn
            try rw [hib]
            cases ib with
            | true =>
              obtain ⟨hx1, hx2⟩ := hv rfl
              have hgv : vgetF f' (findT g' qi) (10, qi) = findV f' g' qi := by rw [hx2, get_get, hx1]
              have hgt : vgetT (findT g' qi) (10, qi) = findT g' qi := by rw [hx2, get_twice (f := f').2]
              clear hv hn hx1 hx2 hib
              have hk4 := HI4.out.1
              have hD4 := HI4.out.2.1
              have hX4 := HI4.out.2.2
              have oD := hk4.off hD4
              have oT := hk4.off hk4.cell
              have oX := hk4.off hX4
              have KS : ∀ w', Kept (fun n => RW R' W' n ∨ n = X) w4 w' → (w'.cell? ⟨T, 3, none⟩ = some (.pointer (some ⟨rq', 0, none⟩)) ∧ w'.cell? ⟨D, 1, none⟩ = some (.int .i64 qi)) :=
                fun w' hk' => ⟨hk'.cell hk4.cells.2.2.2 (fun e => e.elim oT.2.1 (fun e => by simp at e; omega)), hk'.cell (cell_at hD4 rfl) (fun e => e.elim oD.2.1 (fun e => by simp at e; omega))⟩
              go_wp2_with fail
              refine wp_region_held_drew (S := fun w' => Kept (fun n => RW R' W' n ∨ n = X) w4 w') (by kernel_rfl) ((Kept.refl _ _).drew) (fun hHeld => ?_)
              refine h_take 0 (some 156) (Op.move (Operand.tmp 5)) 35 ?v98 rfl rfl (by kernel_rfl) (by kernel_rfl) (by kernel_rfl) (fun _ _ _ h => h) ?hy98 hHeld ?_
              case hy98 => (intro _ _ _ w hSw; have hcs := KS _ hSw; go_simp; try with_reducible rfl)
              simp only [Act.put, List.setIfInBounds_toArray, List.set_cons_zero, List.set_cons_succ]
              refine h_take 1 (some 157) (Op.nilCheck (Operand.tmp 156)) 0 ?v99 rfl rfl (by kernel_rfl) (by kernel_rfl) (by kernel_rfl) (fun _ _ _ h => h) ?hy99 hHeld ?_
              case hy99 => (intro _ _ _ w hSw; have hcs := KS _ hSw; go_simp; try with_reducible rfl)
              simp only [Act.put, List.setIfInBounds_toArray, List.set_cons_zero, List.set_cons_succ]
              refine h_take 2 (some 158) (Op.fieldAddr 42 (Operand.tmp 157) 3) 0 ?v100 rfl rfl (by kernel_rfl) (by kernel_rfl) (by kernel_rfl) (fun _ _ _ h => h) ?hy100 hHeld ?_
              case hy100 => (intro _ _ _ w hSw; have hcs := KS _ hSw; go_simp; try with_reducible rfl)
              simp only [Act.put, List.setIfInBounds_toArray, List.set_cons_zero, List.set_cons_succ]
              refine h_take 3 (some 159) (Op.load 40 (Operand.tmp 158)) 40 ?v101 rfl rfl (by kernel_rfl) (by kernel_rfl) (by kernel_rfl) (fun _ _ _ h => h) ?hy101 hHeld ?_
              case hy101 => (intro _ _ _ w hSw; have hcs := KS _ hSw; go_simp; try with_reducible rfl)
              simp only [Act.put, List.setIfInBounds_toArray, List.set_cons_zero, List.set_cons_succ]
              refine h_take 4 (some 160) (Op.fieldAddr 38 (Operand.tmp 7) 1) 0 ?v102 rfl rfl (by kernel_rfl) (by kernel_rfl) (by kernel_rfl) (fun _ _ _ h => h) ?hy102 hHeld ?_
              case hy102 => (intro _ _ _ w hSw; have hcs := KS _ hSw; go_simp; try with_reducible rfl)
              simp only [Act.put, List.setIfInBounds_toArray, List.set_cons_zero, List.set_cons_succ]
              refine h_take 5 (some 161) (Op.load 3 (Operand.tmp 160)) 3 ?v103 rfl rfl (by kernel_rfl) (by kernel_rfl) (by kernel_rfl) (fun _ _ _ h => h) ?hy103 hHeld ?_
              case hy103 => (intro _ _ _ w hSw; have hcs := KS _ hSw; go_simp; try with_reducible rfl)
              simp only [Act.put, List.setIfInBounds_toArray, List.set_cons_zero, List.set_cons_succ]
              refine h_take 6 (some 162) (Op.build 55 #[(0, Operand.const (Value.int IntKind.i64 10)), (1, Operand.tmp 161)]) 55 ?v104 rfl rfl (by kernel_rfl) (by kernel_rfl) (by kernel_rfl) (fun _ _ _ h => h) ?hy104 hHeld ?_
              case hy104 => (intro _ _ _ w hSw; have hcs := KS _ hSw; go_simp; try with_reducible rfl)
              simp only [Act.put, List.setIfInBounds_toArray, List.set_cons_zero, List.set_cons_succ]
              refine h_step 7 (some 163) (Op.call { callee := Callee.value (Operand.func 24), args := #[Operand.tmp 159, Operand.tmp 162], argTypes := #[40, 55] }) 51 rfl rfl (by kernel_rfl) (fun _ _ _ K hK => ?_)
              go_simp
              refine (kr_get (hk4.still (Kept.refl _ w4).drew) 10 qi).mono ?_
              rintro e w5 ⟨rfl, hk5, kp5⟩
              replace kp5 : Kept (RW R' W') w4 w5 := (Kept.refl _ w4).drew.trans kp5 (fun _ _ e => e)
              rw [hgt] at hk5
              rw [hgv]
              clear hgv hgt
              go_wp2_with fail
              refine hK.out _ _ (kp5.mono (fun _ _ e => .inl e)) (fun hHeld => ?_)
              clear hK K
              try simp only [Act.put, List.setIfInBounds_toArray, List.set_cons_zero, List.set_cons_succ]
              have hX5 := kp5.at hX4 oX.2.1
              have hD5 := kp5.at hD4 oD.2.1
              refine h_step 8 (none) (Op.store 51 (Operand.tmp 14) (Operand.tmp 163)) 0 rfl rfl (by kernel_rfl) (fun _ _ _ K hK => ?_)
              refine wp_skip (exec_store rfl rfl (store_wide wide_V (old := vc zeroV) (cs := vc (findV f' g' qi)) hX5 rfl rfl (vc_one _))) ?_
              have k6 := kept_setRow w5 X (vc (findV f' g' qi)).toArray
              have hX6 := setRow_at hX5 (vc (findV f' g' qi)).toArray
              have hD6 := k6.at hD5 (show ¬ D = X by omega)
              have hk6 : KeepIn w T p B q' N' rp rB rq' R' W' f' f' g' (findT g' qi) (w5.setRow X (vc (findV f' g' qi)).toArray) :=
                hk5.otherX hX5 k6 (by omega) (by omega) (by omega) (by omega) (by omega) lw
              refine hK.out _ _ ((kp5.mono (fun _ _ e => .inl e)).trans k6 (fun _ _ e => .inr e)) (fun hHeld => ?_)
              clear hK K
              try simp only [Act.put, List.setIfInBounds_toArray, List.set_cons_zero, List.set_cons_succ]
              refine wpAnyH_done (by kernel_rfl) ?_ _
              have HN : Hid (KeepIn w T p B q' N' rp rB rq' R' W' f' f' g' (findT g' qi) (w5.setRow X (vc (findV f' g' qi)).toArray) ∧ (w5.setRow X (vc (findV f' g' qi)).toArray).heap[D]? = some (.cells (qcs ⟨qk, qi, qa, qb, qd⟩) 38 (0, 0)) ∧ (w5.setRow X (vc (findV f' g' qi)).toArray).heap[X]? = some (.cells (vc (findV f' g' qi)).toArray 51 (0, 0))) := ⟨hk6, hD6, hX6⟩
              clear hHeld KS kp5 hk5 hX5 hD5 k6 hX6 hD6 hk6 hk4 hD4 hX4 oD oT oX HI4
              generalize w5.setRow X (vc (findV f' g' qi)).toArray = w6 at *
              go_wp2
              go_meet
              case rel => exact ⟨rfl, HN.out⟩
            | false =>
              have HN : Hid (KeepIn w T p B q' N' rp rB rq' R' W' f' f' g' (findT g' qi) w4 ∧ w4.heap[D]? = some (.cells (qcs ⟨qk, qi, qa, qb, qd⟩) 38 (0, 0)) ∧ w4.heap[X]? = some (.cells (vc (findV f' g' qi)).toArray 51 (0, 0))) := by
                rw [hn rfl]
                exact HI4.out
              clear hv hn HI4
              go_wp2
              go_meet
              case rel => exact ⟨rfl, HN.out⟩
          case rest =>
            as_aux_lemma =>
            obtain ⟨rfl, HG⟩ := hcut
            clear HI4
            have hk0 := HG.out.1
            have hD0' := HG.out.2.1
            have hX0 := HG.out.2.2
            have oD := hk0.off hD0'
            have oT := hk0.off hk0.cell
            have oX := hk0.off hX0
            have hisn : isI f' g' qi = ((findV f' g' qi).n0 != 0) := by
              unfold isI
              by_cases e : (findV f' g' qi).n0 = 0
              · simp [e]
              · simp [e]
            have hff : ∀ j, findV f' (findT g' qi) j = findV f' g' j := fun j => find_find f' g' qi j
            have hfa : findT (findT g' qi) qi = findT g' qi := find_again g' qi
            have HS2 : Hid (Small f' (findT g' qi)) := hs.find qi
            obtain ⟨x, hx⟩ : ∃ x, findV f' g' qi = x := ⟨_, rfl⟩
            have hffx : findV f' (findT g' qi) qi = x := by rw [hff, hx]
            rw [hx] at hX0 hisn
            clear hff
            have KS : ∀ w', Kept (fun n => n = N') wc w' → (w'.cell? ⟨T, 1, none⟩ = some (.pointer (some ⟨q', 0, none⟩)) ∧ w'.cell? ⟨D, 1, none⟩ = some (.int .i64 qi) ∧ w'.cell? ⟨X, 0, none⟩ = some (.int .i64 x.n0) ∧ w'.cell? ⟨X, 1, none⟩ = some (.int .i64 x.n1) ∧ w'.cell? ⟨X, 16, none⟩ = some (.string x.s)) :=
              fun w' hk' => ⟨hk'.cell hk0.cells.2.1 oT.1, hk'.cell (cell_at hD0' rfl) oD.1, hk'.cell (cell_at hX0 rfl) oX.1, hk'.cell (cell_at hX0 rfl) oX.1, hk'.cell (cell_at hX0 rfl) oX.1⟩
            go_wp2_with fail
            refine wp_region_held_drew (S := fun w' => Kept (fun n => n = N') wc w') (by kernel_rfl) ((Kept.refl _ _).drew) (fun hHeld => ?_)
            refine h_take 0 (some 164) (Op.move (Operand.tmp 8)) 4 ?v105 rfl rfl (by kernel_rfl) (by kernel_rfl) (by kernel_rfl) (fun _ _ _ h => h) ?hy105 hHeld ?_
            case hy105 => (intro _ _ _ w hSw; have hcs := KS _ hSw; go_simp; try with_reducible rfl)
            simp only [Act.put, List.setIfInBounds_toArray, List.set_cons_zero, List.set_cons_succ]
            refine h_take 1 (some 165) (Op.unOp UnOp.not 4 (Operand.tmp 164)) 4 ?v106 rfl rfl (by kernel_rfl) (by kernel_rfl) (by kernel_rfl) (fun _ _ _ h => h) ?hy106 hHeld ?_
            case hy106 => (intro _ _ _ w hSw; have hcs := KS _ hSw; go_simp; try with_reducible rfl)
            simp only [Act.put, List.setIfInBounds_toArray, List.set_cons_zero, List.set_cons_succ]
            refine h_take 2 (some 166) (Op.move (Operand.tmp 165)) 4 ?v107 rfl rfl (by kernel_rfl) (by kernel_rfl) (by kernel_rfl) (fun _ _ _ h => h) ?hy107 hHeld ?_
            case hy107 => (intro _ _ _ w hSw; have hcs := KS _ hSw; go_simp; try with_reducible rfl)
            simp only [Act.put, List.setIfInBounds_toArray, List.set_cons_zero, List.set_cons_succ]
            refine h_take 3 (some 167) (Op.move (Operand.tmp 5)) 35 ?v108 rfl rfl (by kernel_rfl) (by kernel_rfl) (by kernel_rfl) (fun _ _ _ h => h) ?hy108 hHeld ?_
            case hy108 => (intro _ _ _ w hSw; have hcs := KS _ hSw; go_simp; try with_reducible rfl)
            simp only [Act.put, List.setIfInBounds_toArray, List.set_cons_zero, List.set_cons_succ]
            refine h_take 4 (some 168) (Op.nilCheck (Operand.tmp 167)) 0 ?v109 rfl rfl (by kernel_rfl) (by kernel_rfl) (by kernel_rfl) (fun _ _ _ h => h) ?hy109 hHeld ?_
            case hy109 => (intro _ _ _ w hSw; have hcs := KS _ hSw; go_simp; try with_reducible rfl)
            simp only [Act.put, List.setIfInBounds_toArray, List.set_cons_zero, List.set_cons_succ]
            refine h_take 5 (some 169) (Op.fieldAddr 42 (Operand.tmp 168) 1) 0 ?v110 rfl rfl (by kernel_rfl) (by kernel_rfl) (by kernel_rfl) (fun _ _ _ h => h) ?hy110 hHeld ?_
            case hy110 => (intro _ _ _ w hSw; have hcs := KS _ hSw; go_simp; try with_reducible rfl)
            simp only [Act.put, List.setIfInBounds_toArray, List.set_cons_zero, List.set_cons_succ]
            refine h_take 6 (some 170) (Op.load 24 (Operand.tmp 169)) 24 ?v111 rfl rfl (by kernel_rfl) (by kernel_rfl) (by kernel_rfl) (fun _ _ _ h => h) ?hy111 hHeld ?_
            case hy111 => (intro _ _ _ w hSw; have hcs := KS _ hSw; go_simp; try with_reducible rfl)
            simp only [Act.put, List.setIfInBounds_toArray, List.set_cons_zero, List.set_cons_succ]
            refine h_take 7 (some 171) (Op.fieldAddr 38 (Operand.tmp 7) 1) 0 ?v112 rfl rfl (by kernel_rfl) (by kernel_rfl) (by kernel_rfl) (fun _ _ _ h => h) ?hy112 hHeld ?_
            case hy112 => (intro _ _ _ w hSw; have hcs := KS _ hSw; go_simp; try with_reducible rfl)
            simp only [Act.put, List.setIfInBounds_toArray, List.set_cons_zero, List.set_cons_succ]
            refine h_take 8 (some 172) (Op.load 3 (Operand.tmp 171)) 3 ?v113 rfl rfl (by kernel_rfl) (by kernel_rfl) (by kernel_rfl) (fun _ _ _ h => h) ?hy113 hHeld ?_
            case hy113 => (intro _ _ _ w hSw; have hcs := KS _ hSw; go_simp; try with_reducible rfl)
            simp only [Act.put, List.setIfInBounds_toArray, List.set_cons_zero, List.set_cons_succ]
            refine h_take 10 (some 174) (Op.fieldAddr 51 (Operand.tmp 14) 0) 0 ?v114 rfl rfl (by kernel_rfl) (by kernel_rfl) (by kernel_rfl) (fun _ _ _ h => h) ?hy114 hHeld ?_
            case hy114 => (intro _ _ _ w hSw; have hcs := KS _ hSw; go_simp; try with_reducible rfl)
            simp only [Act.put, List.setIfInBounds_toArray, List.set_cons_zero, List.set_cons_succ]
            refine h_take 11 (some 175) (Op.indexAddr 49 (Operand.tmp 174) (Operand.const (Value.int IntKind.i64 0))) 0 ?v115 rfl rfl (by kernel_rfl) (by kernel_rfl) (by kernel_rfl) (fun _ _ _ h => h) ?hy115 hHeld ?_
            case hy115 => (intro _ _ _ w hSw; have hcs := KS _ hSw; go_simp; try with_reducible rfl)
            simp only [Act.put, List.setIfInBounds_toArray, List.set_cons_zero, List.set_cons_succ]
            refine h_take 12 (some 176) (Op.load 3 (Operand.tmp 175)) 3 ?v116 rfl rfl (by kernel_rfl) (by kernel_rfl) (by kernel_rfl) (fun _ _ _ h => h) ?hy116 hHeld ?_
            case hy116 => (intro _ _ _ w hSw; have hcs := KS _ hSw; go_simp; try with_reducible rfl)
            simp only [Act.put, List.setIfInBounds_toArray, List.set_cons_zero, List.set_cons_succ]
            refine h_take 13 (some 177) (Op.binOp BinOp.neq 3 (Operand.tmp 176) (Operand.const (Value.int IntKind.i64 0)) 3) 4 ?v117 rfl rfl (by kernel_rfl) (by kernel_rfl) (by kernel_rfl) (fun _ _ _ h => h) ?hy117 hHeld ?_
            case hy117 => (intro _ _ _ w hSw; have hcs := KS _ hSw; go_simp; try with_reducible rfl)
            simp only [Act.put, List.setIfInBounds_toArray, List.set_cons_zero, List.set_cons_succ]
            refine h_step 9 (some 173) (Op.call { callee := Callee.value (Operand.func 14), args := #[Operand.tmp 170, Operand.tmp 172], argTypes := #[24, 3] }) 4 rfl rfl (by kernel_rfl) (fun _ _ _ K hK => ?_)
            go_simp
            refine (kv_is (hk0.still (Kept.refl _ wc).drew) qi).mono ?_
            rintro e w5 ⟨rfl, hk5, kp5⟩
            replace kp5 : Kept (fun n => n = N') wc w5 := (Kept.refl _ wc).drew.trans kp5 (fun _ _ e => e)
            rw [hisn]
            go_wp2_with fail
            refine hK.out _ _ (kp5) (fun hHeld => ?_)
            clear hK K
            try simp only [Act.put, List.setIfInBounds_toArray, List.set_cons_zero, List.set_cons_succ]
            refine h_take 14 (some 178) (Op.binOp BinOp.neq 4 (Operand.tmp 173) (Operand.tmp 177) 4) 4 ?v118 rfl rfl (by kernel_rfl) (by kernel_rfl) (by kernel_rfl) (fun _ _ _ h => h) ?hy118 hHeld ?_
            case hy118 => (intro _ _ _ w hSw; have hcs := KS _ hSw; go_simp; try with_reducible rfl)
            simp only [Act.put, List.setIfInBounds_toArray, List.set_cons_zero, List.set_cons_succ]
            refine h_take 15 (some 179) (Op.pick (Operand.tmp 166) (Operand.const (Value.bool true)) (Operand.tmp 178)) 4 ?v119 rfl rfl (by kernel_rfl) (by kernel_rfl) (by kernel_rfl) (fun _ _ _ h => h) ?hy119 hHeld ?_
            case hy119 => (intro _ _ _ w hSw; have hcs := KS _ hSw; go_simp; try with_reducible rfl)
            simp only [Act.put, List.setIfInBounds_toArray, List.set_cons_zero, List.set_cons_succ]
            refine h_take 16 (some 180) (Op.move (Operand.tmp 179)) 4 ?v120 rfl rfl (by kernel_rfl) (by kernel_rfl) (by kernel_rfl) (fun _ _ _ h => h) ?hy120 hHeld ?_
            case hy120 => (intro _ _ _ w hSw; have hcs := KS _ hSw; go_simp; try with_reducible rfl)
            simp only [Act.put, List.setIfInBounds_toArray, List.set_cons_zero, List.set_cons_succ]
            refine h_take 17 (some 181) (Op.move (Operand.tmp 5)) 35 ?v121 rfl rfl (by kernel_rfl) (by kernel_rfl) (by kernel_rfl) (fun _ _ _ h => h) ?hy121 hHeld ?_
            case hy121 => (intro _ _ _ w hSw; have hcs := KS _ hSw; go_simp; try with_reducible rfl)
            simp only [Act.put, List.setIfInBounds_toArray, List.set_cons_zero, List.set_cons_succ]
            refine h_take 18 (some 182) (Op.nilCheck (Operand.tmp 181)) 0 ?v122 rfl rfl (by kernel_rfl) (by kernel_rfl) (by kernel_rfl) (fun _ _ _ h => h) ?hy122 hHeld ?_
            case hy122 => (intro _ _ _ w hSw; have hcs := KS _ hSw; go_simp; try with_reducible rfl)
            simp only [Act.put, List.setIfInBounds_toArray, List.set_cons_zero, List.set_cons_succ]
            refine h_take 19 (some 183) (Op.fieldAddr 42 (Operand.tmp 182) 1) 0 ?v123 rfl rfl (by kernel_rfl) (by kernel_rfl) (by kernel_rfl) (fun _ _ _ h => h) ?hy123 hHeld ?_
            case hy123 => (intro _ _ _ w hSw; have hcs := KS _ hSw; go_simp; try with_reducible rfl)
            simp only [Act.put, List.setIfInBounds_toArray, List.set_cons_zero, List.set_cons_succ]
            refine h_take 20 (some 184) (Op.load 24 (Operand.tmp 183)) 24 ?v124 rfl rfl (by kernel_rfl) (by kernel_rfl) (by kernel_rfl) (fun _ _ _ h => h) ?hy124 hHeld ?_
            case hy124 => (intro _ _ _ w hSw; have hcs := KS _ hSw; go_simp; try with_reducible rfl)
            simp only [Act.put, List.setIfInBounds_toArray, List.set_cons_zero, List.set_cons_succ]
            refine h_take 21 (some 185) (Op.fieldAddr 38 (Operand.tmp 7) 1) 0 ?v125 rfl rfl (by kernel_rfl) (by kernel_rfl) (by kernel_rfl) (fun _ _ _ h => h) ?hy125 hHeld ?_
            case hy125 => (intro _ _ _ w hSw; have hcs := KS _ hSw; go_simp; try with_reducible rfl)
            simp only [Act.put, List.setIfInBounds_toArray, List.set_cons_zero, List.set_cons_succ]
            refine h_take 22 (some 186) (Op.load 3 (Operand.tmp 185)) 3 ?v126 rfl rfl (by kernel_rfl) (by kernel_rfl) (by kernel_rfl) (fun _ _ _ h => h) ?hy126 hHeld ?_
            case hy126 => (intro _ _ _ w hSw; have hcs := KS _ hSw; go_simp; try with_reducible rfl)
            simp only [Act.put, List.setIfInBounds_toArray, List.set_cons_zero, List.set_cons_succ]
            refine h_take 24 (some 188) (Op.fieldAddr 51 (Operand.tmp 14) 0) 0 ?v127 rfl rfl (by kernel_rfl) (by kernel_rfl) (by kernel_rfl) (fun _ _ _ h => h) ?hy127 hHeld ?_
            case hy127 => (intro _ _ _ w hSw; have hcs := KS _ hSw; go_simp; try with_reducible rfl)
            simp only [Act.put, List.setIfInBounds_toArray, List.set_cons_zero, List.set_cons_succ]
            refine h_take 25 (some 189) (Op.indexAddr 49 (Operand.tmp 188) (Operand.const (Value.int IntKind.i64 0))) 0 ?v128 rfl rfl (by kernel_rfl) (by kernel_rfl) (by kernel_rfl) (fun _ _ _ h => h) ?hy128 hHeld ?_
            case hy128 => (intro _ _ _ w hSw; have hcs := KS _ hSw; go_simp; try with_reducible rfl)
            simp only [Act.put, List.setIfInBounds_toArray, List.set_cons_zero, List.set_cons_succ]
            refine h_take 26 (some 190) (Op.load 3 (Operand.tmp 189)) 3 ?v129 rfl rfl (by kernel_rfl) (by kernel_rfl) (by kernel_rfl) (fun _ _ _ h => h) ?hy129 hHeld ?_
            case hy129 => (intro _ _ _ w hSw; have hcs := KS _ hSw; go_simp; try with_reducible rfl)
            simp only [Act.put, List.setIfInBounds_toArray, List.set_cons_zero, List.set_cons_succ]
            refine h_step 23 (some 187) (Op.call { callee := Callee.value (Operand.func 25), args := #[Operand.tmp 184, Operand.tmp 186], argTypes := #[24, 3] }) 3 rfl rfl (by kernel_rfl) (fun _ _ _ K hK => ?_)
            go_simp
            refine (kv_type hk5 qi).mono ?_
            rintro e w6 ⟨rfl, hk6, kp6⟩
            replace kp6 : Kept (fun n => n = N') wc w6 := kp5.trans kp6 (fun _ _ e => e)
            rw [hffx]
            rw [hfa] at hk6
            go_wp2_with fail
            refine hK.out _ _ (kp6) (fun hHeld => ?_)
            clear hK K
            try simp only [Act.put, List.setIfInBounds_toArray, List.set_cons_zero, List.set_cons_succ]
            clear kp5 hk5
            refine h_take 27 (some 191) (Op.binOp BinOp.neq 3 (Operand.tmp 187) (Operand.tmp 190) 3) 4 ?v130 rfl rfl (by kernel_rfl) (by kernel_rfl) (by kernel_rfl) (fun _ _ _ h => h) ?hy130 hHeld ?_
            case hy130 => (intro _ _ _ w hSw; have hcs := KS _ hSw; go_simp; try with_reducible rfl)
            simp only [Act.put, List.setIfInBounds_toArray, List.set_cons_zero, List.set_cons_succ]
            refine h_take 28 (some 192) (Op.pick (Operand.tmp 180) (Operand.const (Value.bool true)) (Operand.tmp 191)) 4 ?v131 rfl rfl (by kernel_rfl) (by kernel_rfl) (by kernel_rfl) (fun _ _ _ h => h) ?hy131 hHeld ?_
            case hy131 => (intro _ _ _ w hSw; have hcs := KS _ hSw; go_simp; try with_reducible rfl)
            simp only [Act.put, List.setIfInBounds_toArray, List.set_cons_zero, List.set_cons_succ]
            refine h_take 29 (some 193) (Op.move (Operand.tmp 192)) 4 ?v132 rfl rfl (by kernel_rfl) (by kernel_rfl) (by kernel_rfl) (fun _ _ _ h => h) ?hy132 hHeld ?_
            case hy132 => (intro _ _ _ w hSw; have hcs := KS _ hSw; go_simp; try with_reducible rfl)
            simp only [Act.put, List.setIfInBounds_toArray, List.set_cons_zero, List.set_cons_succ]
            refine h_take 30 (some 194) (Op.move (Operand.tmp 5)) 35 ?v133 rfl rfl (by kernel_rfl) (by kernel_rfl) (by kernel_rfl) (fun _ _ _ h => h) ?hy133 hHeld ?_
            case hy133 => (intro _ _ _ w hSw; have hcs := KS _ hSw; go_simp; try with_reducible rfl)
            simp only [Act.put, List.setIfInBounds_toArray, List.set_cons_zero, List.set_cons_succ]
            refine h_take 31 (some 195) (Op.nilCheck (Operand.tmp 194)) 0 ?v134 rfl rfl (by kernel_rfl) (by kernel_rfl) (by kernel_rfl) (fun _ _ _ h => h) ?hy134 hHeld ?_
            case hy134 => (intro _ _ _ w hSw; have hcs := KS _ hSw; go_simp; try with_reducible rfl)
            simp only [Act.put, List.setIfInBounds_toArray, List.set_cons_zero, List.set_cons_succ]
            refine h_take 32 (some 196) (Op.fieldAddr 42 (Operand.tmp 195) 1) 0 ?v135 rfl rfl (by kernel_rfl) (by kernel_rfl) (by kernel_rfl) (fun _ _ _ h => h) ?hy135 hHeld ?_
            case hy135 => (intro _ _ _ w hSw; have hcs := KS _ hSw; go_simp; try with_reducible rfl)
            simp only [Act.put, List.setIfInBounds_toArray, List.set_cons_zero, List.set_cons_succ]
            refine h_take 33 (some 197) (Op.load 24 (Operand.tmp 196)) 24 ?v136 rfl rfl (by kernel_rfl) (by kernel_rfl) (by kernel_rfl) (fun _ _ _ h => h) ?hy136 hHeld ?_
            case hy136 => (intro _ _ _ w hSw; have hcs := KS _ hSw; go_simp; try with_reducible rfl)
            simp only [Act.put, List.setIfInBounds_toArray, List.set_cons_zero, List.set_cons_succ]
            refine h_take 34 (some 198) (Op.fieldAddr 38 (Operand.tmp 7) 1) 0 ?v137 rfl rfl (by kernel_rfl) (by kernel_rfl) (by kernel_rfl) (fun _ _ _ h => h) ?hy137 hHeld ?_
            case hy137 => (intro _ _ _ w hSw; have hcs := KS _ hSw; go_simp; try with_reducible rfl)
            simp only [Act.put, List.setIfInBounds_toArray, List.set_cons_zero, List.set_cons_succ]
            refine h_take 35 (some 199) (Op.load 3 (Operand.tmp 198)) 3 ?v138 rfl rfl (by kernel_rfl) (by kernel_rfl) (by kernel_rfl) (fun _ _ _ h => h) ?hy138 hHeld ?_
            case hy138 => (intro _ _ _ w hSw; have hcs := KS _ hSw; go_simp; try with_reducible rfl)
            simp only [Act.put, List.setIfInBounds_toArray, List.set_cons_zero, List.set_cons_succ]
            refine h_take 37 (some 201) (Op.fieldAddr 51 (Operand.tmp 14) 0) 0 ?v139 rfl rfl (by kernel_rfl) (by kernel_rfl) (by kernel_rfl) (fun _ _ _ h => h) ?hy139 hHeld ?_
            case hy139 => (intro _ _ _ w hSw; have hcs := KS _ hSw; go_simp; try with_reducible rfl)
            simp only [Act.put, List.setIfInBounds_toArray, List.set_cons_zero, List.set_cons_succ]
            refine h_take 38 (some 202) (Op.indexAddr 49 (Operand.tmp 201) (Operand.const (Value.int IntKind.i64 1))) 0 ?v140 rfl rfl (by kernel_rfl) (by kernel_rfl) (by kernel_rfl) (fun _ _ _ h => h) ?hy140 hHeld ?_
            case hy140 => (intro _ _ _ w hSw; have hcs := KS _ hSw; go_simp; try with_reducible rfl)
            simp only [Act.put, List.setIfInBounds_toArray, List.set_cons_zero, List.set_cons_succ]
            refine h_take 39 (some 203) (Op.load 3 (Operand.tmp 202)) 3 ?v141 rfl rfl (by kernel_rfl) (by kernel_rfl) (by kernel_rfl) (fun _ _ _ h => h) ?hy141 hHeld ?_
            case hy141 => (intro _ _ _ w hSw; have hcs := KS _ hSw; go_simp; try with_reducible rfl)
            simp only [Act.put, List.setIfInBounds_toArray, List.set_cons_zero, List.set_cons_succ]
            refine h_step 36 (some 200) (Op.call { callee := Callee.value (Operand.func 26), args := #[Operand.tmp 197, Operand.tmp 199], argTypes := #[24, 3] }) 3 rfl rfl (by kernel_rfl) (fun _ _ _ K hK => ?_)
            go_simp
            refine (kv_links hk6 qi).mono ?_
            rintro e w7 ⟨rfl, hk7, kp7⟩
            replace kp7 : Kept (fun n => n = N') wc w7 := kp6.trans kp7 (fun _ _ e => e)
            rw [hffx]
            rw [hfa] at hk7
            go_wp2_with fail
            refine hK.out _ _ (kp7) (fun hHeld => ?_)
            clear hK K
            try simp only [Act.put, List.setIfInBounds_toArray, List.set_cons_zero, List.set_cons_succ]
            clear kp6 hk6
            refine h_take 40 (some 204) (Op.binOp BinOp.neq 3 (Operand.tmp 200) (Operand.tmp 203) 3) 4 ?v142 rfl rfl (by kernel_rfl) (by kernel_rfl) (by kernel_rfl) (fun _ _ _ h => h) ?hy142 hHeld ?_
            case hy142 => (intro _ _ _ w hSw; have hcs := KS _ hSw; go_simp; try with_reducible rfl)
            simp only [Act.put, List.setIfInBounds_toArray, List.set_cons_zero, List.set_cons_succ]
            refine h_take 41 (some 205) (Op.pick (Operand.tmp 193) (Operand.const (Value.bool true)) (Operand.tmp 204)) 4 ?v143 rfl rfl (by kernel_rfl) (by kernel_rfl) (by kernel_rfl) (fun _ _ _ h => h) ?hy143 hHeld ?_
            case hy143 => (intro _ _ _ w hSw; have hcs := KS _ hSw; go_simp; try with_reducible rfl)
            simp only [Act.put, List.setIfInBounds_toArray, List.set_cons_zero, List.set_cons_succ]
            refine h_take 42 (some 206) (Op.move (Operand.tmp 205)) 4 ?v144 rfl rfl (by kernel_rfl) (by kernel_rfl) (by kernel_rfl) (fun _ _ _ h => h) ?hy144 hHeld ?_
            case hy144 => (intro _ _ _ w hSw; have hcs := KS _ hSw; go_simp; try with_reducible rfl)
            simp only [Act.put, List.setIfInBounds_toArray, List.set_cons_zero, List.set_cons_succ]
            refine h_take 43 (some 207) (Op.move (Operand.tmp 5)) 35 ?v145 rfl rfl (by kernel_rfl) (by kernel_rfl) (by kernel_rfl) (fun _ _ _ h => h) ?hy145 hHeld ?_
            case hy145 => (intro _ _ _ w hSw; have hcs := KS _ hSw; go_simp; try with_reducible rfl)
            simp only [Act.put, List.setIfInBounds_toArray, List.set_cons_zero, List.set_cons_succ]
            refine h_take 44 (some 208) (Op.nilCheck (Operand.tmp 207)) 0 ?v146 rfl rfl (by kernel_rfl) (by kernel_rfl) (by kernel_rfl) (fun _ _ _ h => h) ?hy146 hHeld ?_
            case hy146 => (intro _ _ _ w hSw; have hcs := KS _ hSw; go_simp; try with_reducible rfl)
            simp only [Act.put, List.setIfInBounds_toArray, List.set_cons_zero, List.set_cons_succ]
            refine h_take 45 (some 209) (Op.fieldAddr 42 (Operand.tmp 208) 1) 0 ?v147 rfl rfl (by kernel_rfl) (by kernel_rfl) (by kernel_rfl) (fun _ _ _ h => h) ?hy147 hHeld ?_
            case hy147 => (intro _ _ _ w hSw; have hcs := KS _ hSw; go_simp; try with_reducible rfl)
            simp only [Act.put, List.setIfInBounds_toArray, List.set_cons_zero, List.set_cons_succ]
            refine h_take 46 (some 210) (Op.load 24 (Operand.tmp 209)) 24 ?v148 rfl rfl (by kernel_rfl) (by kernel_rfl) (by kernel_rfl) (fun _ _ _ h => h) ?hy148 hHeld ?_
            case hy148 => (intro _ _ _ w hSw; have hcs := KS _ hSw; go_simp; try with_reducible rfl)
            simp only [Act.put, List.setIfInBounds_toArray, List.set_cons_zero, List.set_cons_succ]
            refine h_take 47 (some 211) (Op.fieldAddr 38 (Operand.tmp 7) 1) 0 ?v149 rfl rfl (by kernel_rfl) (by kernel_rfl) (by kernel_rfl) (fun _ _ _ h => h) ?hy149 hHeld ?_
            case hy149 => (intro _ _ _ w hSw; have hcs := KS _ hSw; go_simp; try with_reducible rfl)
            simp only [Act.put, List.setIfInBounds_toArray, List.set_cons_zero, List.set_cons_succ]
            refine h_take 48 (some 212) (Op.load 3 (Operand.tmp 211)) 3 ?v150 rfl rfl (by kernel_rfl) (by kernel_rfl) (by kernel_rfl) (fun _ _ _ h => h) ?hy150 hHeld ?_
            case hy150 => (intro _ _ _ w hSw; have hcs := KS _ hSw; go_simp; try with_reducible rfl)
            simp only [Act.put, List.setIfInBounds_toArray, List.set_cons_zero, List.set_cons_succ]
            refine h_take 50 (some 214) (Op.fieldAddr 51 (Operand.tmp 14) 1) 0 ?v151 rfl rfl (by kernel_rfl) (by kernel_rfl) (by kernel_rfl) (fun _ _ _ h => h) ?hy151 hHeld ?_
            case hy151 => (intro _ _ _ w hSw; have hcs := KS _ hSw; go_simp; try with_reducible rfl)
            simp only [Act.put, List.setIfInBounds_toArray, List.set_cons_zero, List.set_cons_succ]
            refine h_take 51 (some 215) (Op.load 9 (Operand.tmp 214)) 9 ?v152 rfl rfl (by kernel_rfl) (by kernel_rfl) (by kernel_rfl) (fun _ _ _ h => h) ?hy152 hHeld ?_
            case hy152 => (intro _ _ _ w hSw; have hcs := KS _ hSw; go_simp; try with_reducible rfl)
            simp only [Act.put, List.setIfInBounds_toArray, List.set_cons_zero, List.set_cons_succ]
            refine h_take 52 (some 216) (Op.call { callee := Callee.builtin Builtin.len, args := #[Operand.tmp 215], argTypes := #[9] }) 3 ?v153 rfl rfl (by kernel_rfl) (by kernel_rfl) (by kernel_rfl) (fun _ _ _ h => h) ?hy153 hHeld ?_
            case hy153 => (intro _ _ _ w hSw; have hcs := KS _ hSw; go_simp; try with_reducible rfl)
            simp only [Act.put, List.setIfInBounds_toArray, List.set_cons_zero, List.set_cons_succ]
            refine h_step 49 (some 213) (Op.call { callee := Callee.value (Operand.func 27), args := #[Operand.tmp 210, Operand.tmp 212], argTypes := #[24, 3] }) 3 rfl rfl (by kernel_rfl) (fun _ _ _ K hK => ?_)
            go_simp
            refine (kv_size hk7 qi).mono ?_
            rintro e w8 ⟨rfl, hk8, kp8⟩
            replace kp8 : Kept (fun n => n = N') wc w8 := kp7.trans kp8 (fun _ _ e => e)
            rw [hffx]
            rw [hfa] at hk8
            go_wp2_with fail
            refine hK.out _ _ (kp8) (fun hHeld => ?_)
            clear hK K
            try simp only [Act.put, List.setIfInBounds_toArray, List.set_cons_zero, List.set_cons_succ]
            clear kp7 hk7
            refine h_take 53 (some 217) (Op.binOp BinOp.neq 3 (Operand.tmp 213) (Operand.tmp 216) 3) 4 ?v154 rfl rfl (by kernel_rfl) (by kernel_rfl) (by kernel_rfl) (fun _ _ _ h => h) ?hy154 hHeld ?_
            case hy154 => (intro _ _ _ w hSw; have hcs := KS _ hSw; go_simp; try with_reducible rfl)
            simp only [Act.put, List.setIfInBounds_toArray, List.set_cons_zero, List.set_cons_succ]
            refine h_take 54 (some 218) (Op.pick (Operand.tmp 206) (Operand.const (Value.bool true)) (Operand.tmp 217)) 4 ?v155 rfl rfl (by kernel_rfl) (by kernel_rfl) (by kernel_rfl) (fun _ _ _ h => h) ?hy155 hHeld ?_
            case hy155 => (intro _ _ _ w hSw; have hcs := KS _ hSw; go_simp; try with_reducible rfl)
            simp only [Act.put, List.setIfInBounds_toArray, List.set_cons_zero, List.set_cons_succ]
            refine h_take 55 (some 219) (Op.move (Operand.tmp 218)) 4 ?v156 rfl rfl (by kernel_rfl) (by kernel_rfl) (by kernel_rfl) (fun _ _ _ h => h) ?hy156 hHeld ?_
            case hy156 => (intro _ _ _ w hSw; have hcs := KS _ hSw; go_simp; try with_reducible rfl)
            simp only [Act.put, List.setIfInBounds_toArray, List.set_cons_zero, List.set_cons_succ]
            refine h_take 56 (some 220) (Op.move (Operand.tmp 5)) 35 ?v157 rfl rfl (by kernel_rfl) (by kernel_rfl) (by kernel_rfl) (fun _ _ _ h => h) ?hy157 hHeld ?_
            case hy157 => (intro _ _ _ w hSw; have hcs := KS _ hSw; go_simp; try with_reducible rfl)
            simp only [Act.put, List.setIfInBounds_toArray, List.set_cons_zero, List.set_cons_succ]
            refine h_step 57 (some 221) (Op.call { callee := Callee.value (Operand.func 28), args := #[Operand.tmp 220], argTypes := #[35] }) 4 rfl rfl (by kernel_rfl) (fun _ _ _ K hK => ?_)
            go_simp
            refine (two_same hk8).mono ?_
            rintro e w9 ⟨rfl, hk9⟩
            have hkz := hk8.still hk9
            replace hk9 : Kept (fun n => n = N') wc w9 := kp8.trans hk9 (fun _ _ e => e.elim)
            go_wp2_with fail
            refine hK.out _ _ (hk9) (fun hHeld => ?_)
            clear hK K
            try simp only [Act.put, List.setIfInBounds_toArray, List.set_cons_zero, List.set_cons_succ]
            refine h_take 58 (some 222) (Op.unOp UnOp.not 4 (Operand.tmp 221)) 4 ?v158 rfl rfl (by kernel_rfl) (by kernel_rfl) (by kernel_rfl) (fun _ _ _ h => h) ?hy158 hHeld ?_
            case hy158 => (intro _ _ _ w hSw; have hcs := KS _ hSw; go_simp; try with_reducible rfl)
            simp only [Act.put, List.setIfInBounds_toArray, List.set_cons_zero, List.set_cons_succ]
            refine h_take 59 (some 223) (Op.pick (Operand.tmp 219) (Operand.const (Value.bool true)) (Operand.tmp 222)) 4 ?v159 rfl rfl (by kernel_rfl) (by kernel_rfl) (by kernel_rfl) (fun _ _ _ h => h) ?hy159 hHeld ?_
            case hy159 => (intro _ _ _ w hSw; have hcs := KS _ hSw; go_simp; try with_reducible rfl)
            simp only [Act.put, List.setIfInBounds_toArray, List.set_cons_zero, List.set_cons_succ]
            refine wpAnyH_done (by kernel_rfl) ?_ _
            have HN : Hid (KeepIn w T p B q' N' rp rB rq' R' W' f' f' (findT g' qi) (findT g' qi) w9 ∧ Small f' (findT g' qi)) := ⟨hkz, HS2.out⟩
            clear hHeld KS kp8 hk8 hk9 hkz hk0 hD0' hX0 oD oT oX hisn hffx hfa hx HG hs HS2
            go_wp2
            go_roundw
            case rel => exact ⟨r + 1, _, _, _, _, _, _, _, by go_num, by omega, by omega, HN.out⟩
            case measure => simp [intOf]; omega
      | false =>
        as_aux_lemma =>
        clear hz
        go_wp2_with fail
        refine (two_put HH.out.1 hT).mono ?_
        rintro e w2 ⟨rfl, ⟨q', N', rq', R', W', h2⟩, -⟩
        have H2 : Hid (KeepIn w T p B q' N' rp rB rq' R' W' (putAll f (redoF g)) (putAll f (redoF g)) (fun _ => none) (fun _ => none) w2) := h2
        clear h2 HH
        go_wp2_with fail
        refine (two_stores H2.out).mono ?_
        rintro e w3 ⟨rfl, hk3⟩
        have H3 : Hid (Kept (fun _ => False) w w3) := H2.out.game.kept.thru hk3
        clear H2 hk3
        go_wp2_with fail
        refine (runs_w w3).mono ?_
        rintro e w4 ⟨rfl, hk4⟩
        have HK : Hid (Kept (fun _ => False) w w4) := H3.out.thru hk4
        clear H3 hk4
        go_wp2
        go_ret
        exact ⟨rfl, HK.out⟩
end Go.Proofs.Ytghgnapogomnlaa
