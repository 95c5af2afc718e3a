
/- Of any objects and any calls each answer, what is read and what is written is as chapter 13 says; no conditions. -/
import Derived.Test.YtdjdnjngelahjaaPpK
import Derived.Test.YtdjdnjngelahjaaOpenArgs
import Derived.Deep.CutBlock
namespace Go.Proofs.Ytdjdnjngelahjaa
open Go.RowKit
set_option maxRecDepth 100000
set_option linter.unusedSimpArgs false

def qcs (q : QA) : Array Value := #[.int .i64 q.k, .int .i64 q.q, .int .i64 q.n, .bool q.b]
/-- All that the statement has in memory. -/
def PlayIn (w0 : World) (T p B q N rp rB rq R W D : Nat) (f : StF) (g : VwF) (y : QA) (w : World) : Prop :=
  KeepIn w0 T p B q N rp rB rq R W f f g g w ∧ Small f g ∧ w.heap[D]? = some (.cells (qcs y) 42 (0, 0))

set_option maxHeartbeats 4000000 in
theorem plays_law (ao : Option Addr) (len cap lb off : Nat) (Q : Nat → K2 × V) (hao : 0 < len → ao = some ⟨lb, off, none⟩) (bo : Option Addr) (ln cp mb of : Nat) (A : Nat → QA) (hbo : 0 < ln → bo = some ⟨mb, of, none⟩) (w : World)
    (hc : ∀ i, i < len → w.rangeAt lb (off + i * 19) (wc (Q i))) (hd : ∀ i, i < ln → QAt w mb (of + i * 4) (A i)) :
    Calls Try.prog 4 #[.slice ao len cap, .slice bo ln cp] w fun e w' => e = .returned (.bool true) ∧ Kept (fun _ => False) w w' := by
  have HD : Hid (∀ i, i < ln → QAt w mb (of + i * 4) (A i)) := hd
  go_enter Try.func4, Try.ntmps4
  go_wp2_with fail
  refine (keepnew_w ao len cap lb off Q hao w hc).mono ?_
  rintro e w1 ⟨T, p, B, q, N, rp, rB, rq, R, W, rfl, h1, hT⟩
  have H0 : Hid (KeepIn w T p B q N rp rB rq R W (initF Q (min len 60)) (initF Q (min len 60)) (fun _ => none) (fun _ => none) w1 ∧ Small (initF Q (min len 60)) (fun _ => none)) := ⟨h1, small_init _ _⟩
  clear h1 hc hd
  go_wp2_with fail
  go_loopw [6, 7, 8, 9, 10, 11, 12, 13, 14, 15, 16, 17, 18, 19, 20, 21] (fun v _ _ _ _ _ _ _ _ _ _ _ _ _ _ _ wr => ∃ (r : Nat) (q N rq R W : Nat) (f : StF) (g : VwF), v = .int .i64 r ∧ r ≤ ln ∧ r ≤ 30 ∧ Hid (KeepIn w T p B q N rp rB rq R W f f g g wr ∧ Small f g)) (fun v _ _ _ _ _ _ _ _ _ _ _ _ _ _ _ _ => 30 - (intOf v).toNat)
  case atStart => exact ⟨0, q, N, rq, R, W, _, _, rfl, by omega, by omega, H0.out⟩
  case round =>
    clear H0
    clear q N rq R W
    obtain ⟨r, q, N, rq, R, W, f, g, rfl, hr1, hr2, HH⟩ := hrel
    obtain ⟨z, hz⟩ : ∃ z : Bool, decide ((r : Int) < (ln : Int) ∧ (r : Int) < 30) = z := ⟨_, rfl⟩
    go_upto_region 5 with fail
    go_cut [33] from 26 to 33 (fun v wx => v = .bool z ∧ wx = wr)
    case first =>
      as_aux_lemma =>
      by_cases p1 : (r : Int) < (ln : Int)
      · by_cases p2 : (r : Int) < 30
        · have hz' : z = true := by rw [← hz]; simp [p1, p2]
          subst hz'
          clear hz
          go_wp2
          go_meet
          case rel => exact ⟨rfl, rfl⟩
        · have hz' : z = false := by rw [← hz]; simp [p1, p2]
          subst hz'
          clear hz
          go_wp2
          go_meet
          case rel => exact ⟨rfl, rfl⟩
      · have hz' : z = false := by rw [← hz]; simp [p1]
        subst hz'
        clear hz
        go_wp2
        go_meet
        case rel => exact ⟨rfl, rfl⟩
    case rest =>
      obtain ⟨rfl, hwc⟩ := hcut
      subst hwc
      cases z with
      | true =>
        as_aux_lemma =>
        simp only [decide_eq_true_eq] at hz
        obtain ⟨t1, t2⟩ := hz
        have hl1 : r < ln := by omega
        have h0 := hbo (by omega)
        subst h0
        have hq0 := HD.out r hl1
        obtain ⟨⟨qk, qd, qn, qb⟩, hqe⟩ : ∃ y, A r = y := ⟨_, rfl⟩
        rw [hqe] at hq0
        obtain ⟨e0, e1, e2, e3⟩ := hq0.still HH.out.1.game.kept
        simp only at e0 e1 e2 e3
        clear hqe hq0 hbo
        obtain ⟨D, hD⟩ : ∃ D : Nat, wc.heap.size = D := ⟨_, rfl⟩
        have HP : Hid (PlayIn w T p B q N rp rB rq R W D f g ⟨qk, qd, qn, qb⟩ (wc.alloc (.cells #[.int .i64 qk, .int .i64 qd, .int .i64 qn, .bool qb] 42)) ∧ w.heap.size ≤ D ∧ T < D ∧ p < D ∧ rp < D) := by
          have hk := HH.out.1
          exact ⟨⟨hk.still ((Kept.refl _ _).alloc _), HH.out.2, alloc_at' _ hD⟩, by have := hk.game.kept.size; omega, by have := lt_at hk.cell; omega, by have := lt_at hk.game.s.cell; omega, by have := lt_at hk.game.rs.cell; omega⟩
        have c0 := cell_at HP.out.1.2.2 (i := 0) (v := .int .i64 qk) rfl
        have c2 := cell_at HP.out.1.2.2 (i := 2) (v := .int .i64 qn) rfl
        go_upto_region 8 with fail
        obtain ⟨w2, h2⟩ : ∃ w2, wc.alloc (.cells #[.int .i64 qk, .int .i64 qd, .int .i64 qn, .bool qb] 42) = w2 := ⟨_, rfl⟩
        rw [h2] at HP c0 c2 ⊢
        clear h2 HH hD e0 e1 e2 e3
        go_upto_block 2 with fail
        go_cut [8, 22, 23, 24, 25] from 9 to 191 (fun v v22 v23 v24 v25 wx => (v = .bool true ∧ v22 = .slice ao len cap ∧ v23 = .pointer (some ⟨T, 0, none⟩) ∧ v24 = .pointer (some ⟨T, 0, none⟩) ∧ v25 = .bool false) ∧ ∃ q N rq R W f g, Hid (PlayIn w T p B q N rp rB rq R W D f g ⟨qk, qd, qn, qb⟩ wx))
        case first =>
          as_aux_lemma =>
          have hk := HP.out.1.1
          have hs := HP.out.1.2.1
          have hD := HP.out.1.2.2
          have oD := hk.off hD
          have oT := hk.off hk.cell
          have hDT : D ≠ T := by have := HP.out.2.2.1; omega
          by_cases h1 : qk = 1
          · subst h1
            as_aux_lemma =>
            obtain ⟨pa, pb, hab⟩ : ∃ pa pb, palV (palA f g) = .tuple #[.int .i64 pa, .bool pb] := ⟨_, _, rfl⟩
            have x1 := hk.cells.2.1
            go_wp2_with fail
            refine (kv_pal hk).mono ?_
            rintro e w3 ⟨rfl, hk3, kp3⟩
            rw [hab]
            have x3 := hk3.cells.2.2.2
            clear x1
            go_wp2_with fail
            refine (kr_pal hk3).mono ?_
            rintro e w4 ⟨rfl, hk4, kp4⟩
            rw [hab]
            have k4 : Kept (fun n => n = N ∨ RW R W n) w2 w4 := (kp3.mono (fun _ _ e => .inl e)).trans kp4 (fun _ _ e => .inr e)
            have HN : Hid (PlayIn w T p B q N rp rB rq R W D f (palT f g) ⟨1, qd, qn, qb⟩ w4) := ⟨hk4, hs.pal, k4.at hD (fun e => e.elim oD.1 oD.2.1)⟩
            clear x3 kp3 kp4 k4 hk4 hk3 hk hs hD oD oT hab
            go_wp2_with fail
            go_meet
            case rel => exact ⟨⟨rfl, rfl, rfl, rfl, rfl⟩, _, _, _, _, _, _, _, HN.out⟩
          by_cases h2 : qk = 2
          · subst h2
            as_aux_lemma =>
            obtain ⟨ra, rb, hab⟩ : ∃ ra rb, prdV (prdS f g qd qn) (prdK f g qd qn) = .tuple #[.string ra, .int .i64 rb] := ⟨_, _, rfl⟩
            have KS : ∀ w', Kept (fun n => n = N ∨ RW R W n) w2 w' → (w'.cell? ⟨T, 1, none⟩ = some (.pointer (some ⟨q, 0, none⟩)) ∧ w'.cell? ⟨T, 3, none⟩ = some (.pointer (some ⟨rq, 0, none⟩)) ∧ w'.cell? ⟨D, 1, none⟩ = some (.int .i64 qd) ∧ w'.cell? ⟨D, 2, none⟩ = some (.int .i64 qn)) :=
              fun w' hk' => ⟨hk'.cell hk.cells.2.1 (fun e => e.elim oT.1 oT.2.1), hk'.cell hk.cells.2.2.2 (fun e => e.elim oT.1 oT.2.1), hk'.cell (cell_at hD rfl) (fun e => e.elim oD.1 oD.2.1), hk'.cell (cell_at hD rfl) (fun e => e.elim oD.1 oD.2.1)⟩
            go_wp2_with fail
            refine wp_region_held_drew (S := fun w' => Kept (fun n => n = N ∨ RW R W n) w2 w') (by kernel_rfl) ((Kept.refl _ _).drew) (fun hHeld => ?_)
            refine h_take 0 (some 71) (Op.move (Operand.tmp 5)) 22 ?v1 rfl rfl (by kernel_rfl) (by kernel_rfl) (by kernel_rfl) (fun _ _ _ h => h) ?hy1 hHeld ?_
            case hy1 => (intro _ _ _ w hSw; have hcs := KS _ hSw; go_simp; try with_reducible rfl)
            simp only [Act.put, List.setIfInBounds_toArray, List.set_cons_zero, List.set_cons_succ]
            refine h_take 1 (some 72) (Op.nilCheck (Operand.tmp 71)) 0 ?v2 rfl rfl (by kernel_rfl) (by kernel_rfl) (by kernel_rfl) (fun _ _ _ h => h) ?hy2 hHeld ?_
            case hy2 => (intro _ _ _ w hSw; have hcs := KS _ hSw; go_simp; try with_reducible rfl)
            simp only [Act.put, List.setIfInBounds_toArray, List.set_cons_zero, List.set_cons_succ]
            refine h_take 2 (some 73) (Op.fieldAddr 29 (Operand.tmp 72) 1) 0 ?v3 rfl rfl (by kernel_rfl) (by kernel_rfl) (by kernel_rfl) (fun _ _ _ h => h) ?hy3 hHeld ?_
            case hy3 => (intro _ _ _ w hSw; have hcs := KS _ hSw; go_simp; try with_reducible rfl)
            simp only [Act.put, List.setIfInBounds_toArray, List.set_cons_zero, List.set_cons_succ]
            refine h_take 3 (some 74) (Op.load 25 (Operand.tmp 73)) 25 ?v4 rfl rfl (by kernel_rfl) (by kernel_rfl) (by kernel_rfl) (fun _ _ _ h => h) ?hy4 hHeld ?_
            case hy4 => (intro _ _ _ w hSw; have hcs := KS _ hSw; go_simp; try with_reducible rfl)
            simp only [Act.put, List.setIfInBounds_toArray, List.set_cons_zero, List.set_cons_succ]
            refine h_take 4 (some 75) (Op.fieldAddr 42 (Operand.tmp 7) 1) 0 ?v5 rfl rfl (by kernel_rfl) (by kernel_rfl) (by kernel_rfl) (fun _ _ _ h => h) ?hy5 hHeld ?_
            case hy5 => (intro _ _ _ w hSw; have hcs := KS _ hSw; go_simp; try with_reducible rfl)
            simp only [Act.put, List.setIfInBounds_toArray, List.set_cons_zero, List.set_cons_succ]
            refine h_take 5 (some 76) (Op.load 3 (Operand.tmp 75)) 3 ?v6 rfl rfl (by kernel_rfl) (by kernel_rfl) (by kernel_rfl) (fun _ _ _ h => h) ?hy6 hHeld ?_
            case hy6 => (intro _ _ _ w hSw; have hcs := KS _ hSw; go_simp; try with_reducible rfl)
            simp only [Act.put, List.setIfInBounds_toArray, List.set_cons_zero, List.set_cons_succ]
            refine h_take 6 (some 77) (Op.fieldAddr 42 (Operand.tmp 7) 2) 0 ?v7 rfl rfl (by kernel_rfl) (by kernel_rfl) (by kernel_rfl) (fun _ _ _ h => h) ?hy7 hHeld ?_
            case hy7 => (intro _ _ _ w hSw; have hcs := KS _ hSw; go_simp; try with_reducible rfl)
            simp only [Act.put, List.setIfInBounds_toArray, List.set_cons_zero, List.set_cons_succ]
            refine h_take 7 (some 78) (Op.load 3 (Operand.tmp 77)) 3 ?v8 rfl rfl (by kernel_rfl) (by kernel_rfl) (by kernel_rfl) (fun _ _ _ h => h) ?hy8 hHeld ?_
            case hy8 => (intro _ _ _ w hSw; have hcs := KS _ hSw; go_simp; try with_reducible rfl)
            simp only [Act.put, List.setIfInBounds_toArray, List.set_cons_zero, List.set_cons_succ]
            refine h_step 8 (some 79) (Op.call { callee := Callee.value (Operand.func 11), args := #[Operand.tmp 74, Operand.tmp 76, Operand.tmp 78], argTypes := #[25, 3, 3] }) 34 rfl rfl (by kernel_rfl) (fun _ _ _ K hK => ?_)
            go_simp
            refine (kv_prd (hk.still (Kept.refl _ w2).drew) qd qn (hs.val _)).mono ?_
            rintro e w3 ⟨rfl, hk3, kp3⟩
            replace kp3 : Kept (fun n => n = N) w2 w3 := (Kept.refl _ w2).drew.trans kp3 (fun _ _ e => e)
            rw [hab]
            go_wp2_with fail
            refine hK.out _ _ (kp3.mono (fun _ _ e => .inl e)) (fun hHeld => ?_)
            clear hK K
            try simp only [Act.put, List.setIfInBounds_toArray, List.set_cons_zero, List.set_cons_succ]
            refine h_take 9 (some 70) (Op.move (Operand.tmp 79)) 34 ?v9 rfl rfl (by kernel_rfl) (by kernel_rfl) (by kernel_rfl) (fun _ _ _ h => h) ?hy9 hHeld ?_
            case hy9 => (intro _ _ _ w hSw; have hcs := KS _ hSw; go_simp; try with_reducible rfl)
            simp only [Act.put, List.setIfInBounds_toArray, List.set_cons_zero, List.set_cons_succ]
            refine h_take 10 (some 80) (Op.extract (Operand.tmp 70) 0) 9 ?v10 rfl rfl (by kernel_rfl) (by kernel_rfl) (by kernel_rfl) (fun _ _ _ h => h) ?hy10 hHeld ?_
            case hy10 => (intro _ _ _ w hSw; have hcs := KS _ hSw; go_simp; try with_reducible rfl)
            simp only [Act.put, List.setIfInBounds_toArray, List.set_cons_zero, List.set_cons_succ]
            refine h_take 11 (some 81) (Op.extract (Operand.tmp 70) 1) 3 ?v11 rfl rfl (by kernel_rfl) (by kernel_rfl) (by kernel_rfl) (fun _ _ _ h => h) ?hy11 hHeld ?_
            case hy11 => (intro _ _ _ w hSw; have hcs := KS _ hSw; go_simp; try with_reducible rfl)
            simp only [Act.put, List.setIfInBounds_toArray, List.set_cons_zero, List.set_cons_succ]
            refine h_take 12 (some 13) (Op.assign (Operand.tmp 80)) 9 ?v12 rfl rfl (by kernel_rfl) (by kernel_rfl) (by kernel_rfl) (fun _ _ _ h => h) ?hy12 hHeld ?_
            case hy12 => (intro _ _ _ w hSw; have hcs := KS _ hSw; go_simp; try with_reducible rfl)
            simp only [Act.put, List.setIfInBounds_toArray, List.set_cons_zero, List.set_cons_succ]
            refine h_take 13 (some 14) (Op.assign (Operand.tmp 81)) 3 ?v13 rfl rfl (by kernel_rfl) (by kernel_rfl) (by kernel_rfl) (fun _ _ _ h => h) ?hy13 hHeld ?_
            case hy13 => (intro _ _ _ w hSw; have hcs := KS _ hSw; go_simp; try with_reducible rfl)
            simp only [Act.put, List.setIfInBounds_toArray, List.set_cons_zero, List.set_cons_succ]
            refine wpAnyH_done (by kernel_rfl) ?_ _
            have KT : ∀ w', Kept (RW R W) w3 w' → (w'.cell? ⟨T, 3, none⟩ = some (.pointer (some ⟨rq, 0, none⟩)) ∧ w'.cell? ⟨D, 1, none⟩ = some (.int .i64 qd) ∧ w'.cell? ⟨D, 2, none⟩ = some (.int .i64 qn)) :=
              fun w' hk' => have k4 := (kp3.mono (Y := fun n => n = N ∨ RW R W n) (fun _ _ e => .inl e)).trans hk' (fun _ _ e => .inr e); ⟨(KS _ k4).2.1, (KS _ k4).2.2.1, (KS _ k4).2.2.2⟩
            clear hHeld KS
            have KS := KT
            clear KT
            go_wp2_with fail
            refine wp_region_held_drew (S := fun w' => Kept (RW R W) w3 w') (by kernel_rfl) ((Kept.refl _ _).drew) (fun hHeld => ?_)
            refine h_take 0 (some 83) (Op.move (Operand.tmp 5)) 22 ?v14 rfl rfl (by kernel_rfl) (by kernel_rfl) (by kernel_rfl) (fun _ _ _ h => h) ?hy14 hHeld ?_
            case hy14 => (intro _ _ _ w hSw; have hcs := KS _ hSw; go_simp; try with_reducible rfl)
            simp only [Act.put, List.setIfInBounds_toArray, List.set_cons_zero, List.set_cons_succ]
            refine h_take 1 (some 84) (Op.nilCheck (Operand.tmp 83)) 0 ?v15 rfl rfl (by kernel_rfl) (by kernel_rfl) (by kernel_rfl) (fun _ _ _ h => h) ?hy15 hHeld ?_
            case hy15 => (intro _ _ _ w hSw; have hcs := KS _ hSw; go_simp; try with_reducible rfl)
            simp only [Act.put, List.setIfInBounds_toArray, List.set_cons_zero, List.set_cons_succ]
            refine h_take 2 (some 85) (Op.fieldAddr 29 (Operand.tmp 84) 3) 0 ?v16 rfl rfl (by kernel_rfl) (by kernel_rfl) (by kernel_rfl) (fun _ _ _ h => h) ?hy16 hHeld ?_
            case hy16 => (intro _ _ _ w hSw; have hcs := KS _ hSw; go_simp; try with_reducible rfl)
            simp only [Act.put, List.setIfInBounds_toArray, List.set_cons_zero, List.set_cons_succ]
            refine h_take 3 (some 86) (Op.load 27 (Operand.tmp 85)) 27 ?v17 rfl rfl (by kernel_rfl) (by kernel_rfl) (by kernel_rfl) (fun _ _ _ h => h) ?hy17 hHeld ?_
            case hy17 => (intro _ _ _ w hSw; have hcs := KS _ hSw; go_simp; try with_reducible rfl)
            simp only [Act.put, List.setIfInBounds_toArray, List.set_cons_zero, List.set_cons_succ]
            refine h_take 4 (some 87) (Op.fieldAddr 42 (Operand.tmp 7) 1) 0 ?v18 rfl rfl (by kernel_rfl) (by kernel_rfl) (by kernel_rfl) (fun _ _ _ h => h) ?hy18 hHeld ?_
            case hy18 => (intro _ _ _ w hSw; have hcs := KS _ hSw; go_simp; try with_reducible rfl)
            simp only [Act.put, List.setIfInBounds_toArray, List.set_cons_zero, List.set_cons_succ]
            refine h_take 5 (some 88) (Op.load 3 (Operand.tmp 87)) 3 ?v19 rfl rfl (by kernel_rfl) (by kernel_rfl) (by kernel_rfl) (fun _ _ _ h => h) ?hy19 hHeld ?_
            case hy19 => (intro _ _ _ w hSw; have hcs := KS _ hSw; go_simp; try with_reducible rfl)
            simp only [Act.put, List.setIfInBounds_toArray, List.set_cons_zero, List.set_cons_succ]
            refine h_take 6 (some 89) (Op.fieldAddr 42 (Operand.tmp 7) 2) 0 ?v20 rfl rfl (by kernel_rfl) (by kernel_rfl) (by kernel_rfl) (fun _ _ _ h => h) ?hy20 hHeld ?_
            case hy20 => (intro _ _ _ w hSw; have hcs := KS _ hSw; go_simp; try with_reducible rfl)
            simp only [Act.put, List.setIfInBounds_toArray, List.set_cons_zero, List.set_cons_succ]
            refine h_take 7 (some 90) (Op.load 3 (Operand.tmp 89)) 3 ?v21 rfl rfl (by kernel_rfl) (by kernel_rfl) (by kernel_rfl) (fun _ _ _ h => h) ?hy21 hHeld ?_
            case hy21 => (intro _ _ _ w hSw; have hcs := KS _ hSw; go_simp; try with_reducible rfl)
            simp only [Act.put, List.setIfInBounds_toArray, List.set_cons_zero, List.set_cons_succ]
            refine h_step 8 (some 91) (Op.call { callee := Callee.value (Operand.func 15), args := #[Operand.tmp 86, Operand.tmp 88, Operand.tmp 90], argTypes := #[27, 3, 3] }) 34 rfl rfl (by kernel_rfl) (fun _ _ _ K hK => ?_)
            go_simp
            refine (kr_prd (hk3.still (Kept.refl _ w3).drew) qd qn (hs.val _)).mono ?_
            rintro e w4 ⟨rfl, hk4, kp4⟩
            replace kp4 : Kept (RW R W) w3 w4 := (Kept.refl _ w3).drew.trans kp4 (fun _ _ e => e)
            rw [hab]
            go_wp2_with fail
            refine hK.out _ _ (kp4) (fun hHeld => ?_)
            clear hK K
            try simp only [Act.put, List.setIfInBounds_toArray, List.set_cons_zero, List.set_cons_succ]
            refine h_take 9 (some 82) (Op.move (Operand.tmp 91)) 34 ?v22 rfl rfl (by kernel_rfl) (by kernel_rfl) (by kernel_rfl) (fun _ _ _ h => h) ?hy22 hHeld ?_
            case hy22 => (intro _ _ _ w hSw; have hcs := KS _ hSw; go_simp; try with_reducible rfl)
            simp only [Act.put, List.setIfInBounds_toArray, List.set_cons_zero, List.set_cons_succ]
            refine h_take 10 (some 92) (Op.extract (Operand.tmp 82) 0) 9 ?v23 rfl rfl (by kernel_rfl) (by kernel_rfl) (by kernel_rfl) (fun _ _ _ h => h) ?hy23 hHeld ?_
            case hy23 => (intro _ _ _ w hSw; have hcs := KS _ hSw; go_simp; try with_reducible rfl)
            simp only [Act.put, List.setIfInBounds_toArray, List.set_cons_zero, List.set_cons_succ]
            refine h_take 11 (some 93) (Op.extract (Operand.tmp 82) 1) 3 ?v24 rfl rfl (by kernel_rfl) (by kernel_rfl) (by kernel_rfl) (fun _ _ _ h => h) ?hy24 hHeld ?_
            case hy24 => (intro _ _ _ w hSw; have hcs := KS _ hSw; go_simp; try with_reducible rfl)
            simp only [Act.put, List.setIfInBounds_toArray, List.set_cons_zero, List.set_cons_succ]
            refine h_take 12 (some 15) (Op.assign (Operand.tmp 92)) 9 ?v25 rfl rfl (by kernel_rfl) (by kernel_rfl) (by kernel_rfl) (fun _ _ _ h => h) ?hy25 hHeld ?_
            case hy25 => (intro _ _ _ w hSw; have hcs := KS _ hSw; go_simp; try with_reducible rfl)
            simp only [Act.put, List.setIfInBounds_toArray, List.set_cons_zero, List.set_cons_succ]
            refine h_take 13 (some 16) (Op.assign (Operand.tmp 93)) 3 ?v26 rfl rfl (by kernel_rfl) (by kernel_rfl) (by kernel_rfl) (fun _ _ _ h => h) ?hy26 hHeld ?_
            case hy26 => (intro _ _ _ w hSw; have hcs := KS _ hSw; go_simp; try with_reducible rfl)
            simp only [Act.put, List.setIfInBounds_toArray, List.set_cons_zero, List.set_cons_succ]
            refine wpAnyH_done (by kernel_rfl) ?_ _
            have k4 : Kept (fun n => n = N ∨ RW R W n) w2 w4 := (kp3.mono (fun _ _ e => .inl e)).trans kp4 (fun _ _ e => .inr e)
            have HN : Hid (PlayIn w T p B q N rp rB rq R W D f (prdT f g qd qn) ⟨2, qd, qn, qb⟩ w4) := ⟨hk4, hs.prd qd qn, k4.at hD (fun e => e.elim oD.1 oD.2.1)⟩
            clear hHeld KS kp3 kp4 k4 hk4 hk3 hk hs hD oD oT hab
            go_wp2_with fail
            go_meet
            case rel => exact ⟨⟨rfl, rfl, rfl, rfl, rfl⟩, _, _, _, _, _, _, _, HN.out⟩
          by_cases h3 : qk = 3
          · subst h3
            as_aux_lemma =>
            obtain ⟨sz, hsz⟩ : ∃ sz, (0 : Int) + qn % (30 - 0 + 1) = sz := ⟨_, rfl⟩
            have hz0 : 0 ≤ sz ∧ sz ≤ 1000 := by omega
            go_wp2_with fail
            refine (within_any qn 0 30 (by omega) (by omega) (by omega) _).mono ?_
            rintro e w3 ⟨rfl, hw3⟩
            subst hw3
            rw [hsz]
            clear hsz
            go_wp2_with fail
            refine (text_w _ sz hz0.1 hz0.2 _).mono ?_
            rintro e w3 ⟨t, rfl, hts, hk3⟩
            replace hk := hk.still hk3
            replace hD := hk3.at hD (fun x => x)
            have oD := hk.off hD
            have oT := hk.off hk.cell
            clear hk3 hts
            obtain ⟨ra, rb, hab⟩ : ∃ ra rb, pwrV (pwrA f g qd t) (pwrK f g qd t) = .tuple #[.int .i64 ra, .int .i64 rb] := ⟨_, _, rfl⟩
            have KS : ∀ w', Kept (fun n => n = N ∨ RW R W n) w3 w' → (w'.cell? ⟨T, 1, none⟩ = some (.pointer (some ⟨q, 0, none⟩)) ∧ w'.cell? ⟨T, 3, none⟩ = some (.pointer (some ⟨rq, 0, none⟩)) ∧ w'.cell? ⟨D, 1, none⟩ = some (.int .i64 qd)) :=
              fun w' hk' => ⟨hk'.cell hk.cells.2.1 (fun e => e.elim oT.1 oT.2.1), hk'.cell hk.cells.2.2.2 (fun e => e.elim oT.1 oT.2.1), hk'.cell (cell_at hD rfl) (fun e => e.elim oD.1 oD.2.1)⟩
            go_wp2_with fail
            refine wp_region_held_drew (S := fun w' => Kept (fun n => n = N ∨ RW R W n) w3 w') (by kernel_rfl) ((Kept.refl _ _).drew) (fun hHeld => ?_)
            refine h_take 0 (some 110) (Op.move (Operand.tmp 5)) 22 ?v27 rfl rfl (by kernel_rfl) (by kernel_rfl) (by kernel_rfl) (fun _ _ _ h => h) ?hy27 hHeld ?_
            case hy27 => (intro _ _ _ w hSw; have hcs := KS _ hSw; go_simp; try with_reducible rfl)
            simp only [Act.put, List.setIfInBounds_toArray, List.set_cons_zero, List.set_cons_succ]
            refine h_take 1 (some 111) (Op.nilCheck (Operand.tmp 110)) 0 ?v28 rfl rfl (by kernel_rfl) (by kernel_rfl) (by kernel_rfl) (fun _ _ _ h => h) ?hy28 hHeld ?_
            case hy28 => (intro _ _ _ w hSw; have hcs := KS _ hSw; go_simp; try with_reducible rfl)
            simp only [Act.put, List.setIfInBounds_toArray, List.set_cons_zero, List.set_cons_succ]
            refine h_take 2 (some 112) (Op.fieldAddr 29 (Operand.tmp 111) 1) 0 ?v29 rfl rfl (by kernel_rfl) (by kernel_rfl) (by kernel_rfl) (fun _ _ _ h => h) ?hy29 hHeld ?_
            case hy29 => (intro _ _ _ w hSw; have hcs := KS _ hSw; go_simp; try with_reducible rfl)
            simp only [Act.put, List.setIfInBounds_toArray, List.set_cons_zero, List.set_cons_succ]
            refine h_take 3 (some 113) (Op.load 25 (Operand.tmp 112)) 25 ?v30 rfl rfl (by kernel_rfl) (by kernel_rfl) (by kernel_rfl) (fun _ _ _ h => h) ?hy30 hHeld ?_
            case hy30 => (intro _ _ _ w hSw; have hcs := KS _ hSw; go_simp; try with_reducible rfl)
            simp only [Act.put, List.setIfInBounds_toArray, List.set_cons_zero, List.set_cons_succ]
            refine h_take 4 (some 114) (Op.fieldAddr 42 (Operand.tmp 7) 1) 0 ?v31 rfl rfl (by kernel_rfl) (by kernel_rfl) (by kernel_rfl) (fun _ _ _ h => h) ?hy31 hHeld ?_
            case hy31 => (intro _ _ _ w hSw; have hcs := KS _ hSw; go_simp; try with_reducible rfl)
            simp only [Act.put, List.setIfInBounds_toArray, List.set_cons_zero, List.set_cons_succ]
            refine h_take 5 (some 115) (Op.load 3 (Operand.tmp 114)) 3 ?v32 rfl rfl (by kernel_rfl) (by kernel_rfl) (by kernel_rfl) (fun _ _ _ h => h) ?hy32 hHeld ?_
            case hy32 => (intro _ _ _ w hSw; have hcs := KS _ hSw; go_simp; try with_reducible rfl)
            simp only [Act.put, List.setIfInBounds_toArray, List.set_cons_zero, List.set_cons_succ]
            refine h_take 6 (some 116) (Op.move (Operand.tmp 17)) 9 ?v33 rfl rfl (by kernel_rfl) (by kernel_rfl) (by kernel_rfl) (fun _ _ _ h => h) ?hy33 hHeld ?_
            case hy33 => (intro _ _ _ w hSw; have hcs := KS _ hSw; go_simp; try with_reducible rfl)
            simp only [Act.put, List.setIfInBounds_toArray, List.set_cons_zero, List.set_cons_succ]
            refine h_step 7 (some 117) (Op.call { callee := Callee.value (Operand.func 10), args := #[Operand.tmp 113, Operand.tmp 115, Operand.tmp 116], argTypes := #[25, 3, 9] }) 32 rfl rfl (by kernel_rfl) (fun _ _ _ K hK => ?_)
            go_simp
            refine (kv_pwr (hk.still (Kept.refl _ w3).drew) qd t (hs.val _)).mono ?_
            rintro e w4 ⟨rfl, hk4, kp4⟩
            replace kp4 : Kept (fun n => n = N) w3 w4 := (Kept.refl _ w3).drew.trans kp4 (fun _ _ e => e)
            rw [hab]
            go_wp2_with fail
            refine hK.out _ _ (kp4.mono (fun _ _ e => .inl e)) (fun hHeld => ?_)
            clear hK K
            try simp only [Act.put, List.setIfInBounds_toArray, List.set_cons_zero, List.set_cons_succ]
            refine h_take 8 (some 109) (Op.move (Operand.tmp 117)) 32 ?v34 rfl rfl (by kernel_rfl) (by kernel_rfl) (by kernel_rfl) (fun _ _ _ h => h) ?hy34 hHeld ?_
            case hy34 => (intro _ _ _ w hSw; have hcs := KS _ hSw; go_simp; try with_reducible rfl)
            simp only [Act.put, List.setIfInBounds_toArray, List.set_cons_zero, List.set_cons_succ]
            refine h_take 9 (some 118) (Op.extract (Operand.tmp 109) 0) 3 ?v35 rfl rfl (by kernel_rfl) (by kernel_rfl) (by kernel_rfl) (fun _ _ _ h => h) ?hy35 hHeld ?_
            case hy35 => (intro _ _ _ w hSw; have hcs := KS _ hSw; go_simp; try with_reducible rfl)
            simp only [Act.put, List.setIfInBounds_toArray, List.set_cons_zero, List.set_cons_succ]
            refine h_take 10 (some 119) (Op.extract (Operand.tmp 109) 1) 3 ?v36 rfl rfl (by kernel_rfl) (by kernel_rfl) (by kernel_rfl) (fun _ _ _ h => h) ?hy36 hHeld ?_
            case hy36 => (intro _ _ _ w hSw; have hcs := KS _ hSw; go_simp; try with_reducible rfl)
            simp only [Act.put, List.setIfInBounds_toArray, List.set_cons_zero, List.set_cons_succ]
            refine h_take 11 (some 18) (Op.assign (Operand.tmp 118)) 3 ?v37 rfl rfl (by kernel_rfl) (by kernel_rfl) (by kernel_rfl) (fun _ _ _ h => h) ?hy37 hHeld ?_
            case hy37 => (intro _ _ _ w hSw; have hcs := KS _ hSw; go_simp; try with_reducible rfl)
            simp only [Act.put, List.setIfInBounds_toArray, List.set_cons_zero, List.set_cons_succ]
            refine h_take 12 (some 19) (Op.assign (Operand.tmp 119)) 3 ?v38 rfl rfl (by kernel_rfl) (by kernel_rfl) (by kernel_rfl) (fun _ _ _ h => h) ?hy38 hHeld ?_
            case hy38 => (intro _ _ _ w hSw; have hcs := KS _ hSw; go_simp; try with_reducible rfl)
            simp only [Act.put, List.setIfInBounds_toArray, List.set_cons_zero, List.set_cons_succ]
            refine wpAnyH_done (by kernel_rfl) ?_ _
            have KT : ∀ w', Kept (RW R W) w4 w' → (w'.cell? ⟨T, 3, none⟩ = some (.pointer (some ⟨rq, 0, none⟩)) ∧ w'.cell? ⟨D, 1, none⟩ = some (.int .i64 qd)) :=
              fun w' hk' => have k4 := (kp4.mono (Y := fun n => n = N ∨ RW R W n) (fun _ _ e => .inl e)).trans hk' (fun _ _ e => .inr e); ⟨(KS _ k4).2.1, (KS _ k4).2.2⟩
            clear hHeld KS
            have KS := KT
            clear KT
            go_wp2_with fail
            refine wp_region_held_drew (S := fun w' => Kept (RW R W) w4 w') (by kernel_rfl) ((Kept.refl _ _).drew) (fun hHeld => ?_)
            refine h_take 0 (some 121) (Op.move (Operand.tmp 5)) 22 ?v39 rfl rfl (by kernel_rfl) (by kernel_rfl) (by kernel_rfl) (fun _ _ _ h => h) ?hy39 hHeld ?_
            case hy39 => (intro _ _ _ w hSw; have hcs := KS _ hSw; go_simp; try with_reducible rfl)
            simp only [Act.put, List.setIfInBounds_toArray, List.set_cons_zero, List.set_cons_succ]
            refine h_take 1 (some 122) (Op.nilCheck (Operand.tmp 121)) 0 ?v40 rfl rfl (by kernel_rfl) (by kernel_rfl) (by kernel_rfl) (fun _ _ _ h => h) ?hy40 hHeld ?_
            case hy40 => (intro _ _ _ w hSw; have hcs := KS _ hSw; go_simp; try with_reducible rfl)
            simp only [Act.put, List.setIfInBounds_toArray, List.set_cons_zero, List.set_cons_succ]
            refine h_take 2 (some 123) (Op.fieldAddr 29 (Operand.tmp 122) 3) 0 ?v41 rfl rfl (by kernel_rfl) (by kernel_rfl) (by kernel_rfl) (fun _ _ _ h => h) ?hy41 hHeld ?_
            case hy41 => (intro _ _ _ w hSw; have hcs := KS _ hSw; go_simp; try with_reducible rfl)
            simp only [Act.put, List.setIfInBounds_toArray, List.set_cons_zero, List.set_cons_succ]
            refine h_take 3 (some 124) (Op.load 27 (Operand.tmp 123)) 27 ?v42 rfl rfl (by kernel_rfl) (by kernel_rfl) (by kernel_rfl) (fun _ _ _ h => h) ?hy42 hHeld ?_
            case hy42 => (intro _ _ _ w hSw; have hcs := KS _ hSw; go_simp; try with_reducible rfl)
            simp only [Act.put, List.setIfInBounds_toArray, List.set_cons_zero, List.set_cons_succ]
            refine h_take 4 (some 125) (Op.fieldAddr 42 (Operand.tmp 7) 1) 0 ?v43 rfl rfl (by kernel_rfl) (by kernel_rfl) (by kernel_rfl) (fun _ _ _ h => h) ?hy43 hHeld ?_
            case hy43 => (intro _ _ _ w hSw; have hcs := KS _ hSw; go_simp; try with_reducible rfl)
            simp only [Act.put, List.setIfInBounds_toArray, List.set_cons_zero, List.set_cons_succ]
            refine h_take 5 (some 126) (Op.load 3 (Operand.tmp 125)) 3 ?v44 rfl rfl (by kernel_rfl) (by kernel_rfl) (by kernel_rfl) (fun _ _ _ h => h) ?hy44 hHeld ?_
            case hy44 => (intro _ _ _ w hSw; have hcs := KS _ hSw; go_simp; try with_reducible rfl)
            simp only [Act.put, List.setIfInBounds_toArray, List.set_cons_zero, List.set_cons_succ]
            refine h_take 6 (some 127) (Op.move (Operand.tmp 17)) 9 ?v45 rfl rfl (by kernel_rfl) (by kernel_rfl) (by kernel_rfl) (fun _ _ _ h => h) ?hy45 hHeld ?_
            case hy45 => (intro _ _ _ w hSw; have hcs := KS _ hSw; go_simp; try with_reducible rfl)
            simp only [Act.put, List.setIfInBounds_toArray, List.set_cons_zero, List.set_cons_succ]
            refine h_step 7 (some 128) (Op.call { callee := Callee.value (Operand.func 18), args := #[Operand.tmp 124, Operand.tmp 126, Operand.tmp 127], argTypes := #[27, 3, 9] }) 32 rfl rfl (by kernel_rfl) (fun _ _ _ K hK => ?_)
            go_simp
            refine (kr_pwr (hk4.still (Kept.refl _ w4).drew) qd t (hs.val _)).mono ?_
            rintro e w5 ⟨rfl, hk5, kp5⟩
            replace kp5 : Kept (RW R W) w4 w5 := (Kept.refl _ w4).drew.trans kp5 (fun _ _ e => e)
            rw [hab]
            go_wp2_with fail
            refine hK.out _ _ (kp5) (fun hHeld => ?_)
            clear hK K
            try simp only [Act.put, List.setIfInBounds_toArray, List.set_cons_zero, List.set_cons_succ]
            refine h_take 8 (some 120) (Op.move (Operand.tmp 128)) 32 ?v46 rfl rfl (by kernel_rfl) (by kernel_rfl) (by kernel_rfl) (fun _ _ _ h => h) ?hy46 hHeld ?_
            case hy46 => (intro _ _ _ w hSw; have hcs := KS _ hSw; go_simp; try with_reducible rfl)
            simp only [Act.put, List.setIfInBounds_toArray, List.set_cons_zero, List.set_cons_succ]
            refine h_take 9 (some 129) (Op.extract (Operand.tmp 120) 0) 3 ?v47 rfl rfl (by kernel_rfl) (by kernel_rfl) (by kernel_rfl) (fun _ _ _ h => h) ?hy47 hHeld ?_
            case hy47 => (intro _ _ _ w hSw; have hcs := KS _ hSw; go_simp; try with_reducible rfl)
            simp only [Act.put, List.setIfInBounds_toArray, List.set_cons_zero, List.set_cons_succ]
            refine h_take 10 (some 130) (Op.extract (Operand.tmp 120) 1) 3 ?v48 rfl rfl (by kernel_rfl) (by kernel_rfl) (by kernel_rfl) (fun _ _ _ h => h) ?hy48 hHeld ?_
            case hy48 => (intro _ _ _ w hSw; have hcs := KS _ hSw; go_simp; try with_reducible rfl)
            simp only [Act.put, List.setIfInBounds_toArray, List.set_cons_zero, List.set_cons_succ]
            refine h_take 11 (some 20) (Op.assign (Operand.tmp 129)) 3 ?v49 rfl rfl (by kernel_rfl) (by kernel_rfl) (by kernel_rfl) (fun _ _ _ h => h) ?hy49 hHeld ?_
            case hy49 => (intro _ _ _ w hSw; have hcs := KS _ hSw; go_simp; try with_reducible rfl)
            simp only [Act.put, List.setIfInBounds_toArray, List.set_cons_zero, List.set_cons_succ]
            refine h_take 12 (some 21) (Op.assign (Operand.tmp 130)) 3 ?v50 rfl rfl (by kernel_rfl) (by kernel_rfl) (by kernel_rfl) (fun _ _ _ h => h) ?hy50 hHeld ?_
            case hy50 => (intro _ _ _ w hSw; have hcs := KS _ hSw; go_simp; try with_reducible rfl)
            simp only [Act.put, List.setIfInBounds_toArray, List.set_cons_zero, List.set_cons_succ]
            refine wpAnyH_done (by kernel_rfl) ?_ _
            have k5 : Kept (fun n => n = N ∨ RW R W n) w3 w5 := (kp4.mono (fun _ _ e => .inl e)).trans kp5 (fun _ _ e => .inr e)
            have HN : Hid (PlayIn w T p B q N rp rB rq R W D f (pwrT f g qd t) ⟨3, qd, qn, qb⟩ w5) := ⟨hk5, hs.pwr qd t, k5.at hD (fun e => e.elim oD.1 oD.2.1)⟩
            clear hHeld KS kp4 kp5 k5 hk5 hk4 hk hs hD oD oT hab
            go_wp2_with fail
            go_meet
            case rel => exact ⟨⟨rfl, rfl, rfl, rfl, rfl⟩, _, _, _, _, _, _, _, HN.out⟩
          by_cases h4 : qk = 4
          · subst h4
            as_aux_lemma =>
            obtain ⟨ia, hia⟩ : ∃ b, isP f g qd = b := ⟨_, rfl⟩
            have KS : ∀ w', Kept (fun n => n = N ∨ RW R W n) w2 w' → (w'.cell? ⟨T, 1, none⟩ = some (.pointer (some ⟨q, 0, none⟩)) ∧ w'.cell? ⟨T, 3, none⟩ = some (.pointer (some ⟨rq, 0, none⟩)) ∧ w'.cell? ⟨D, 1, none⟩ = some (.int .i64 qd) ∧ w'.cell? ⟨D, 2, none⟩ = some (.int .i64 qn) ∧ w'.cell? ⟨D, 3, none⟩ = some (.bool qb)) :=
              fun w' hk' => ⟨hk'.cell hk.cells.2.1 (fun e => e.elim oT.1 oT.2.1), hk'.cell hk.cells.2.2.2 (fun e => e.elim oT.1 oT.2.1), hk'.cell (cell_at hD rfl) (fun e => e.elim oD.1 oD.2.1), hk'.cell (cell_at hD rfl) (fun e => e.elim oD.1 oD.2.1), hk'.cell (cell_at hD rfl) (fun e => e.elim oD.1 oD.2.1)⟩
            go_wp2_with fail
            refine wp_region_held_drew (S := fun w' => Kept (fun n => n = N ∨ RW R W n) w2 w') (by kernel_rfl) ((Kept.refl _ _).drew) (fun hHeld => ?_)
            refine h_take 0 (some 141) (Op.move (Operand.tmp 5)) 22 ?v51 rfl rfl (by kernel_rfl) (by kernel_rfl) (by kernel_rfl) (fun _ _ _ h => h) ?hy51 hHeld ?_
            case hy51 => (intro _ _ _ w hSw; have hcs := KS _ hSw; go_simp; try with_reducible rfl)
            simp only [Act.put, List.setIfInBounds_toArray, List.set_cons_zero, List.set_cons_succ]
            refine h_take 1 (some 142) (Op.nilCheck (Operand.tmp 141)) 0 ?v52 rfl rfl (by kernel_rfl) (by kernel_rfl) (by kernel_rfl) (fun _ _ _ h => h) ?hy52 hHeld ?_
            case hy52 => (intro _ _ _ w hSw; have hcs := KS _ hSw; go_simp; try with_reducible rfl)
            simp only [Act.put, List.setIfInBounds_toArray, List.set_cons_zero, List.set_cons_succ]
            refine h_take 2 (some 143) (Op.fieldAddr 29 (Operand.tmp 142) 1) 0 ?v53 rfl rfl (by kernel_rfl) (by kernel_rfl) (by kernel_rfl) (fun _ _ _ h => h) ?hy53 hHeld ?_
            case hy53 => (intro _ _ _ w hSw; have hcs := KS _ hSw; go_simp; try with_reducible rfl)
            simp only [Act.put, List.setIfInBounds_toArray, List.set_cons_zero, List.set_cons_succ]
            refine h_take 3 (some 144) (Op.load 25 (Operand.tmp 143)) 25 ?v54 rfl rfl (by kernel_rfl) (by kernel_rfl) (by kernel_rfl) (fun _ _ _ h => h) ?hy54 hHeld ?_
            case hy54 => (intro _ _ _ w hSw; have hcs := KS _ hSw; go_simp; try with_reducible rfl)
            simp only [Act.put, List.setIfInBounds_toArray, List.set_cons_zero, List.set_cons_succ]
            refine h_take 4 (some 145) (Op.fieldAddr 42 (Operand.tmp 7) 1) 0 ?v55 rfl rfl (by kernel_rfl) (by kernel_rfl) (by kernel_rfl) (fun _ _ _ h => h) ?hy55 hHeld ?_
            case hy55 => (intro _ _ _ w hSw; have hcs := KS _ hSw; go_simp; try with_reducible rfl)
            simp only [Act.put, List.setIfInBounds_toArray, List.set_cons_zero, List.set_cons_succ]
            refine h_take 5 (some 146) (Op.load 3 (Operand.tmp 145)) 3 ?v56 rfl rfl (by kernel_rfl) (by kernel_rfl) (by kernel_rfl) (fun _ _ _ h => h) ?hy56 hHeld ?_
            case hy56 => (intro _ _ _ w hSw; have hcs := KS _ hSw; go_simp; try with_reducible rfl)
            simp only [Act.put, List.setIfInBounds_toArray, List.set_cons_zero, List.set_cons_succ]
            refine h_take 6 (some 147) (Op.fieldAddr 42 (Operand.tmp 7) 3) 0 ?v57 rfl rfl (by kernel_rfl) (by kernel_rfl) (by kernel_rfl) (fun _ _ _ h => h) ?hy57 hHeld ?_
            case hy57 => (intro _ _ _ w hSw; have hcs := KS _ hSw; go_simp; try with_reducible rfl)
            simp only [Act.put, List.setIfInBounds_toArray, List.set_cons_zero, List.set_cons_succ]
            refine h_take 7 (some 148) (Op.load 4 (Operand.tmp 147)) 4 ?v58 rfl rfl (by kernel_rfl) (by kernel_rfl) (by kernel_rfl) (fun _ _ _ h => h) ?hy58 hHeld ?_
            case hy58 => (intro _ _ _ w hSw; have hcs := KS _ hSw; go_simp; try with_reducible rfl)
            simp only [Act.put, List.setIfInBounds_toArray, List.set_cons_zero, List.set_cons_succ]
            refine h_take 8 (some 149) (Op.fieldAddr 42 (Operand.tmp 7) 2) 0 ?v59 rfl rfl (by kernel_rfl) (by kernel_rfl) (by kernel_rfl) (fun _ _ _ h => h) ?hy59 hHeld ?_
            case hy59 => (intro _ _ _ w hSw; have hcs := KS _ hSw; go_simp; try with_reducible rfl)
            simp only [Act.put, List.setIfInBounds_toArray, List.set_cons_zero, List.set_cons_succ]
            refine h_take 9 (some 150) (Op.load 3 (Operand.tmp 149)) 3 ?v60 rfl rfl (by kernel_rfl) (by kernel_rfl) (by kernel_rfl) (fun _ _ _ h => h) ?hy60 hHeld ?_
            case hy60 => (intro _ _ _ w hSw; have hcs := KS _ hSw; go_simp; try with_reducible rfl)
            simp only [Act.put, List.setIfInBounds_toArray, List.set_cons_zero, List.set_cons_succ]
            refine h_take 11 (some 152) (Op.move (Operand.tmp 5)) 22 ?v61 rfl rfl (by kernel_rfl) (by kernel_rfl) (by kernel_rfl) (fun _ _ _ h => h) ?hy61 hHeld ?_
            case hy61 => (intro _ _ _ w hSw; have hcs := KS _ hSw; go_simp; try with_reducible rfl)
            simp only [Act.put, List.setIfInBounds_toArray, List.set_cons_zero, List.set_cons_succ]
            refine h_take 12 (some 153) (Op.nilCheck (Operand.tmp 152)) 0 ?v62 rfl rfl (by kernel_rfl) (by kernel_rfl) (by kernel_rfl) (fun _ _ _ h => h) ?hy62 hHeld ?_
            case hy62 => (intro _ _ _ w hSw; have hcs := KS _ hSw; go_simp; try with_reducible rfl)
            simp only [Act.put, List.setIfInBounds_toArray, List.set_cons_zero, List.set_cons_succ]
            refine h_take 13 (some 154) (Op.fieldAddr 29 (Operand.tmp 153) 3) 0 ?v63 rfl rfl (by kernel_rfl) (by kernel_rfl) (by kernel_rfl) (fun _ _ _ h => h) ?hy63 hHeld ?_
            case hy63 => (intro _ _ _ w hSw; have hcs := KS _ hSw; go_simp; try with_reducible rfl)
            simp only [Act.put, List.setIfInBounds_toArray, List.set_cons_zero, List.set_cons_succ]
            refine h_take 14 (some 155) (Op.load 27 (Operand.tmp 154)) 27 ?v64 rfl rfl (by kernel_rfl) (by kernel_rfl) (by kernel_rfl) (fun _ _ _ h => h) ?hy64 hHeld ?_
            case hy64 => (intro _ _ _ w hSw; have hcs := KS _ hSw; go_simp; try with_reducible rfl)
            simp only [Act.put, List.setIfInBounds_toArray, List.set_cons_zero, List.set_cons_succ]
            refine h_take 15 (some 156) (Op.fieldAddr 42 (Operand.tmp 7) 1) 0 ?v65 rfl rfl (by kernel_rfl) (by kernel_rfl) (by kernel_rfl) (fun _ _ _ h => h) ?hy65 hHeld ?_
            case hy65 => (intro _ _ _ w hSw; have hcs := KS _ hSw; go_simp; try with_reducible rfl)
            simp only [Act.put, List.setIfInBounds_toArray, List.set_cons_zero, List.set_cons_succ]
            refine h_take 16 (some 157) (Op.load 3 (Operand.tmp 156)) 3 ?v66 rfl rfl (by kernel_rfl) (by kernel_rfl) (by kernel_rfl) (fun _ _ _ h => h) ?hy66 hHeld ?_
            case hy66 => (intro _ _ _ w hSw; have hcs := KS _ hSw; go_simp; try with_reducible rfl)
            simp only [Act.put, List.setIfInBounds_toArray, List.set_cons_zero, List.set_cons_succ]
            refine h_take 17 (some 158) (Op.fieldAddr 42 (Operand.tmp 7) 3) 0 ?v67 rfl rfl (by kernel_rfl) (by kernel_rfl) (by kernel_rfl) (fun _ _ _ h => h) ?hy67 hHeld ?_
            case hy67 => (intro _ _ _ w hSw; have hcs := KS _ hSw; go_simp; try with_reducible rfl)
            simp only [Act.put, List.setIfInBounds_toArray, List.set_cons_zero, List.set_cons_succ]
            refine h_take 18 (some 159) (Op.load 4 (Operand.tmp 158)) 4 ?v68 rfl rfl (by kernel_rfl) (by kernel_rfl) (by kernel_rfl) (fun _ _ _ h => h) ?hy68 hHeld ?_
            case hy68 => (intro _ _ _ w hSw; have hcs := KS _ hSw; go_simp; try with_reducible rfl)
            simp only [Act.put, List.setIfInBounds_toArray, List.set_cons_zero, List.set_cons_succ]
            refine h_take 19 (some 160) (Op.fieldAddr 42 (Operand.tmp 7) 2) 0 ?v69 rfl rfl (by kernel_rfl) (by kernel_rfl) (by kernel_rfl) (fun _ _ _ h => h) ?hy69 hHeld ?_
            case hy69 => (intro _ _ _ w hSw; have hcs := KS _ hSw; go_simp; try with_reducible rfl)
            simp only [Act.put, List.setIfInBounds_toArray, List.set_cons_zero, List.set_cons_succ]
            refine h_take 20 (some 161) (Op.load 3 (Operand.tmp 160)) 3 ?v70 rfl rfl (by kernel_rfl) (by kernel_rfl) (by kernel_rfl) (fun _ _ _ h => h) ?hy70 hHeld ?_
            case hy70 => (intro _ _ _ w hSw; have hcs := KS _ hSw; go_simp; try with_reducible rfl)
            simp only [Act.put, List.setIfInBounds_toArray, List.set_cons_zero, List.set_cons_succ]
            refine h_step 10 (some 151) (Op.call { callee := Callee.value (Operand.func 12), args := #[Operand.tmp 144, Operand.tmp 146, Operand.tmp 148, Operand.tmp 150], argTypes := #[25, 3, 4, 3] }) 4 rfl rfl (by kernel_rfl) (fun _ _ _ K hK => ?_)
            go_simp
            refine (kv_pend (hk.still (Kept.refl _ w2).drew) qd qb qn).mono ?_
            rintro e w3 ⟨rfl, hk3, kp3⟩
            replace kp3 : Kept (fun n => n = N) w2 w3 := (Kept.refl _ w2).drew.trans kp3 (fun _ _ e => e)
            rw [hia]
            go_wp2_with fail
            refine hK.out _ _ (kp3.mono (fun _ _ e => .inl e)) (fun hHeld => ?_)
            clear hK K
            try simp only [Act.put, List.setIfInBounds_toArray, List.set_cons_zero, List.set_cons_succ]
            refine h_step 21 (some 162) (Op.call { callee := Callee.value (Operand.func 19), args := #[Operand.tmp 155, Operand.tmp 157, Operand.tmp 159, Operand.tmp 161], argTypes := #[27, 3, 4, 3] }) 4 rfl rfl (by kernel_rfl) (fun _ _ _ K hK => ?_)
            go_simp
            refine (kr_pend hk3 qd qb qn).mono ?_
            rintro e w4 ⟨rfl, hk4, kp4⟩
            have k4 : Kept (fun n => n = N ∨ RW R W n) w2 w4 := (kp3.mono (fun _ _ e => .inl e)).trans kp4 (fun _ _ e => .inr e)
            rw [hia]
            go_wp2_with fail
            refine hK.out _ _ (k4) (fun hHeld => ?_)
            clear hK K
            try simp only [Act.put, List.setIfInBounds_toArray, List.set_cons_zero, List.set_cons_succ]
            refine h_take 22 (some 163) (Op.binOp BinOp.eql 4 (Operand.tmp 151) (Operand.tmp 162) 4) 4 ?v71 rfl rfl (by kernel_rfl) (by kernel_rfl) (by kernel_rfl) (fun _ _ _ h => h) ?hy71 hHeld ?_
            case hy71 => (intro _ _ _ w hSw; have hcs := KS _ hSw; go_simp; try with_reducible rfl)
            simp only [Act.put, List.setIfInBounds_toArray, List.set_cons_zero, List.set_cons_succ]
            refine h_take 23 (some 8) (Op.assign (Operand.tmp 163)) 4 ?v72 rfl rfl (by kernel_rfl) (by kernel_rfl) (by kernel_rfl) (fun _ _ _ h => h) ?hy72 hHeld ?_
            case hy72 => (intro _ _ _ w hSw; have hcs := KS _ hSw; go_simp; try with_reducible rfl)
            simp only [Act.put, List.setIfInBounds_toArray, List.set_cons_zero, List.set_cons_succ]
            refine wpAnyH_done (by kernel_rfl) ?_ _
            have HN : Hid (PlayIn w T p B q N rp rB rq R W D f (endT f g qd qb qn) ⟨4, qd, qn, qb⟩ w4) := ⟨hk4, hs.ends qd qb qn, k4.at hD (fun e => e.elim oD.1 oD.2.1)⟩
            clear hHeld KS kp3 kp4 k4 hk4 hk3 hk hs hD oD oT hia
            go_wp2
            go_meet
            case rel => exact ⟨⟨rfl, rfl, rfl, rfl, rfl⟩, _, _, _, _, _, _, _, HN.out⟩
          by_cases h5 : qk = 5
          · subst h5
            as_aux_lemma =>
            go_wp2_with fail
            refine (two_put hk hT).mono ?_
            rintro e w3 ⟨rfl, ⟨q', N', rq', R', W', h3⟩, hkp⟩
            have HN : Hid (PlayIn w T p B q' N' rp rB rq' R' W' D (putAll f (redoF g)) (fun _ => none) ⟨5, qd, qn, qb⟩ w3) := ⟨h3, hs.redo, hkp.at hD (by have := oD.2.2; omega)⟩
            clear hk hs hD oD oT h3 hkp
            go_wp2
            go_meet
            case rel => exact ⟨⟨rfl, rfl, rfl, rfl, rfl⟩, _, _, _, _, _, _, _, HN.out⟩
          ·
            as_aux_lemma =>
            have HN : Hid (PlayIn w T p B q N rp rB rq R W D f g ⟨qk, qd, qn, qb⟩ w2) := HP.out.1
            clear hk hs hD oD oT
            go_wp2
            go_meet
            case rel => exact ⟨⟨rfl, rfl, rfl, rfl, rfl⟩, _, _, _, _, _, _, _, HN.out⟩
        case rest =>
          as_aux_lemma =>
          obtain ⟨⟨rfl, rfl, rfl, rfl, rfl⟩, q', N', rq', R', W', f', g', HG⟩ := hcut
          clear c0 c2
          have hk := HG.out.1
          have hs := HG.out.2.1
          have hD := HG.out.2.2
          have oD := hk.off hD
          have oT := hk.off hk.cell
          obtain ⟨ia, hia⟩ : ∃ b, isP f' g' qd = b := ⟨_, rfl⟩
          have hsz := hs.isPT qd
          obtain ⟨g1, hg1⟩ : ∃ g1, isPT g' qd = g1 := ⟨_, rfl⟩
          rw [hg1] at hsz
          have KS : ∀ w', Kept (fun n => n = N' ∨ RW R' W' n) wc w' → (w'.cell? ⟨T, 1, none⟩ = some (.pointer (some ⟨q', 0, none⟩)) ∧ w'.cell? ⟨T, 3, none⟩ = some (.pointer (some ⟨rq', 0, none⟩)) ∧ w'.cell? ⟨D, 1, none⟩ = some (.int .i64 qd)) :=
            fun w' hk' => ⟨hk'.cell hk.cells.2.1 (fun e => e.elim oT.1 oT.2.1), hk'.cell hk.cells.2.2.2 (fun e => e.elim oT.1 oT.2.1), hk'.cell (cell_at hD rfl) (fun e => e.elim oD.1 oD.2.1)⟩
          go_upto_region 27 with fail
          refine wp_region_held_drew (S := fun w' => Kept (fun n => n = N' ∨ RW R' W' n) wc w') (by kernel_rfl) ((Kept.refl _ _).drew) (fun hHeld => ?_)
          refine h_take 0 (some 168) (Op.move (Operand.tmp 8)) 4 ?v73 rfl rfl (by kernel_rfl) (by kernel_rfl) (by kernel_rfl) (fun _ _ _ h => h) ?hy73 hHeld ?_
          case hy73 => (intro _ _ _ w hSw; have hcs := KS _ hSw; go_simp; try with_reducible rfl)
          simp only [Act.put, List.setIfInBounds_toArray, List.set_cons_zero, List.set_cons_succ]
          refine h_take 1 (some 169) (Op.unOp UnOp.not 4 (Operand.tmp 168)) 4 ?v74 rfl rfl (by kernel_rfl) (by kernel_rfl) (by kernel_rfl) (fun _ _ _ h => h) ?hy74 hHeld ?_
          case hy74 => (intro _ _ _ w hSw; have hcs := KS _ hSw; go_simp; try with_reducible rfl)
          simp only [Act.put, List.setIfInBounds_toArray, List.set_cons_zero, List.set_cons_succ]
          refine h_take 2 (some 170) (Op.move (Operand.tmp 169)) 4 ?v75 rfl rfl (by kernel_rfl) (by kernel_rfl) (by kernel_rfl) (fun _ _ _ h => h) ?hy75 hHeld ?_
          case hy75 => (intro _ _ _ w hSw; have hcs := KS _ hSw; go_simp; try with_reducible rfl)
          simp only [Act.put, List.setIfInBounds_toArray, List.set_cons_zero, List.set_cons_succ]
          refine h_take 3 (some 171) (Op.move (Operand.tmp 5)) 22 ?v76 rfl rfl (by kernel_rfl) (by kernel_rfl) (by kernel_rfl) (fun _ _ _ h => h) ?hy76 hHeld ?_
          case hy76 => (intro _ _ _ w hSw; have hcs := KS _ hSw; go_simp; try with_reducible rfl)
          simp only [Act.put, List.setIfInBounds_toArray, List.set_cons_zero, List.set_cons_succ]
          refine h_take 4 (some 172) (Op.nilCheck (Operand.tmp 171)) 0 ?v77 rfl rfl (by kernel_rfl) (by kernel_rfl) (by kernel_rfl) (fun _ _ _ h => h) ?hy77 hHeld ?_
          case hy77 => (intro _ _ _ w hSw; have hcs := KS _ hSw; go_simp; try with_reducible rfl)
          simp only [Act.put, List.setIfInBounds_toArray, List.set_cons_zero, List.set_cons_succ]
          refine h_take 5 (some 173) (Op.fieldAddr 29 (Operand.tmp 172) 1) 0 ?v78 rfl rfl (by kernel_rfl) (by kernel_rfl) (by kernel_rfl) (fun _ _ _ h => h) ?hy78 hHeld ?_
          case hy78 => (intro _ _ _ w hSw; have hcs := KS _ hSw; go_simp; try with_reducible rfl)
          simp only [Act.put, List.setIfInBounds_toArray, List.set_cons_zero, List.set_cons_succ]
          refine h_take 6 (some 174) (Op.load 25 (Operand.tmp 173)) 25 ?v79 rfl rfl (by kernel_rfl) (by kernel_rfl) (by kernel_rfl) (fun _ _ _ h => h) ?hy79 hHeld ?_
          case hy79 => (intro _ _ _ w hSw; have hcs := KS _ hSw; go_simp; try with_reducible rfl)
          simp only [Act.put, List.setIfInBounds_toArray, List.set_cons_zero, List.set_cons_succ]
          refine h_take 7 (some 175) (Op.fieldAddr 42 (Operand.tmp 7) 1) 0 ?v80 rfl rfl (by kernel_rfl) (by kernel_rfl) (by kernel_rfl) (fun _ _ _ h => h) ?hy80 hHeld ?_
          case hy80 => (intro _ _ _ w hSw; have hcs := KS _ hSw; go_simp; try with_reducible rfl)
          simp only [Act.put, List.setIfInBounds_toArray, List.set_cons_zero, List.set_cons_succ]
          refine h_take 8 (some 176) (Op.load 3 (Operand.tmp 175)) 3 ?v81 rfl rfl (by kernel_rfl) (by kernel_rfl) (by kernel_rfl) (fun _ _ _ h => h) ?hy81 hHeld ?_
          case hy81 => (intro _ _ _ w hSw; have hcs := KS _ hSw; go_simp; try with_reducible rfl)
          simp only [Act.put, List.setIfInBounds_toArray, List.set_cons_zero, List.set_cons_succ]
          refine h_take 10 (some 178) (Op.move (Operand.tmp 5)) 22 ?v82 rfl rfl (by kernel_rfl) (by kernel_rfl) (by kernel_rfl) (fun _ _ _ h => h) ?hy82 hHeld ?_
          case hy82 => (intro _ _ _ w hSw; have hcs := KS _ hSw; go_simp; try with_reducible rfl)
          simp only [Act.put, List.setIfInBounds_toArray, List.set_cons_zero, List.set_cons_succ]
          refine h_take 11 (some 179) (Op.nilCheck (Operand.tmp 178)) 0 ?v83 rfl rfl (by kernel_rfl) (by kernel_rfl) (by kernel_rfl) (fun _ _ _ h => h) ?hy83 hHeld ?_
          case hy83 => (intro _ _ _ w hSw; have hcs := KS _ hSw; go_simp; try with_reducible rfl)
          simp only [Act.put, List.setIfInBounds_toArray, List.set_cons_zero, List.set_cons_succ]
          refine h_take 12 (some 180) (Op.fieldAddr 29 (Operand.tmp 179) 3) 0 ?v84 rfl rfl (by kernel_rfl) (by kernel_rfl) (by kernel_rfl) (fun _ _ _ h => h) ?hy84 hHeld ?_
          case hy84 => (intro _ _ _ w hSw; have hcs := KS _ hSw; go_simp; try with_reducible rfl)
          simp only [Act.put, List.setIfInBounds_toArray, List.set_cons_zero, List.set_cons_succ]
          refine h_take 13 (some 181) (Op.load 27 (Operand.tmp 180)) 27 ?v85 rfl rfl (by kernel_rfl) (by kernel_rfl) (by kernel_rfl) (fun _ _ _ h => h) ?hy85 hHeld ?_
          case hy85 => (intro _ _ _ w hSw; have hcs := KS _ hSw; go_simp; try with_reducible rfl)
          simp only [Act.put, List.setIfInBounds_toArray, List.set_cons_zero, List.set_cons_succ]
          refine h_take 14 (some 182) (Op.fieldAddr 42 (Operand.tmp 7) 1) 0 ?v86 rfl rfl (by kernel_rfl) (by kernel_rfl) (by kernel_rfl) (fun _ _ _ h => h) ?hy86 hHeld ?_
          case hy86 => (intro _ _ _ w hSw; have hcs := KS _ hSw; go_simp; try with_reducible rfl)
          simp only [Act.put, List.setIfInBounds_toArray, List.set_cons_zero, List.set_cons_succ]
          refine h_take 15 (some 183) (Op.load 3 (Operand.tmp 182)) 3 ?v87 rfl rfl (by kernel_rfl) (by kernel_rfl) (by kernel_rfl) (fun _ _ _ h => h) ?hy87 hHeld ?_
          case hy87 => (intro _ _ _ w hSw; have hcs := KS _ hSw; go_simp; try with_reducible rfl)
          simp only [Act.put, List.setIfInBounds_toArray, List.set_cons_zero, List.set_cons_succ]
          refine h_step 9 (some 177) (Op.call { callee := Callee.value (Operand.func 13), args := #[Operand.tmp 174, Operand.tmp 176], argTypes := #[25, 3] }) 4 rfl rfl (by kernel_rfl) (fun _ _ _ K hK => ?_)
          go_simp
          refine (kv_pis (hk.still (Kept.refl _ wc).drew) qd).mono ?_
          rintro e w5 ⟨rfl, hk5, kp5⟩
          replace kp5 : Kept (fun n => n = N' ∨ RW R' W' n) wc w5 := ((Kept.refl (fun n => n = N') wc).drew.trans kp5 (fun _ _ e => e)).mono (fun _ _ e => .inl e)
          rw [hia]
          rw [hg1] at hk5
          go_wp2_with fail
          refine hK.out _ _ (kp5) (fun hHeld => ?_)
          clear hK K
          try simp only [Act.put, List.setIfInBounds_toArray, List.set_cons_zero, List.set_cons_succ]
          refine h_step 16 (some 184) (Op.call { callee := Callee.value (Operand.func 21), args := #[Operand.tmp 181, Operand.tmp 183], argTypes := #[27, 3] }) 4 rfl rfl (by kernel_rfl) (fun _ _ _ K hK => ?_)
          go_simp
          refine (kr_pis hk5 qd).mono ?_
          rintro e w6 ⟨rfl, hk6, kp6⟩
          replace kp6 : Kept (fun n => n = N' ∨ RW R' W' n) wc w6 := kp5.trans kp6 (fun _ _ e => .inr e)
          rw [hia]
          rw [hg1] at hk6
          go_wp2_with fail
          refine hK.out _ _ (kp6) (fun hHeld => ?_)
          clear hK K
          try simp only [Act.put, List.setIfInBounds_toArray, List.set_cons_zero, List.set_cons_succ]
          clear kp5 hk5
          refine h_take 17 (some 185) (Op.binOp BinOp.neq 4 (Operand.tmp 177) (Operand.tmp 184) 4) 4 ?v88 rfl rfl (by kernel_rfl) (by kernel_rfl) (by kernel_rfl) (fun _ _ _ h => h) ?hy88 hHeld ?_
          case hy88 => (intro _ _ _ w hSw; have hcs := KS _ hSw; go_simp; try with_reducible rfl)
          simp only [Act.put, List.setIfInBounds_toArray, List.set_cons_zero, List.set_cons_succ]
          refine h_take 18 (some 186) (Op.pick (Operand.tmp 170) (Operand.const (Value.bool true)) (Operand.tmp 185)) 4 ?v89 rfl rfl (by kernel_rfl) (by kernel_rfl) (by kernel_rfl) (fun _ _ _ h => h) ?hy89 hHeld ?_
          case hy89 => (intro _ _ _ w hSw; have hcs := KS _ hSw; go_simp; try with_reducible rfl)
          simp only [Act.put, List.setIfInBounds_toArray, List.set_cons_zero, List.set_cons_succ]
          refine h_take 19 (some 187) (Op.move (Operand.tmp 186)) 4 ?v90 rfl rfl (by kernel_rfl) (by kernel_rfl) (by kernel_rfl) (fun _ _ _ h => h) ?hy90 hHeld ?_
          case hy90 => (intro _ _ _ w hSw; have hcs := KS _ hSw; go_simp; try with_reducible rfl)
          simp only [Act.put, List.setIfInBounds_toArray, List.set_cons_zero, List.set_cons_succ]
          refine h_take 20 (some 188) (Op.move (Operand.tmp 5)) 22 ?v91 rfl rfl (by kernel_rfl) (by kernel_rfl) (by kernel_rfl) (fun _ _ _ h => h) ?hy91 hHeld ?_
          case hy91 => (intro _ _ _ w hSw; have hcs := KS _ hSw; go_simp; try with_reducible rfl)
          simp only [Act.put, List.setIfInBounds_toArray, List.set_cons_zero, List.set_cons_succ]
          refine h_step 21 (some 189) (Op.call { callee := Callee.value (Operand.func 22), args := #[Operand.tmp 188], argTypes := #[22] }) 4 rfl rfl (by kernel_rfl) (fun _ _ _ K hK => ?_)
          go_simp
          refine (two_same hk6).mono ?_
          rintro e w7 ⟨rfl, hk7⟩
          have hkz := hk6.still hk7
          have kp7 : Kept (fun n => n = N' ∨ RW R' W' n) wc w7 := kp6.trans hk7 (fun _ _ e => e.elim)
          go_wp2_with fail
          refine hK.out _ _ (kp7) (fun hHeld => ?_)
          clear hK K
          try simp only [Act.put, List.setIfInBounds_toArray, List.set_cons_zero, List.set_cons_succ]
          refine h_take 22 (some 190) (Op.unOp UnOp.not 4 (Operand.tmp 189)) 4 ?v92 rfl rfl (by kernel_rfl) (by kernel_rfl) (by kernel_rfl) (fun _ _ _ h => h) ?hy92 hHeld ?_
          case hy92 => (intro _ _ _ w hSw; have hcs := KS _ hSw; go_simp; try with_reducible rfl)
          simp only [Act.put, List.setIfInBounds_toArray, List.set_cons_zero, List.set_cons_succ]
          refine h_take 23 (some 191) (Op.pick (Operand.tmp 187) (Operand.const (Value.bool true)) (Operand.tmp 190)) 4 ?v93 rfl rfl (by kernel_rfl) (by kernel_rfl) (by kernel_rfl) (fun _ _ _ h => h) ?hy93 hHeld ?_
          case hy93 => (intro _ _ _ w hSw; have hcs := KS _ hSw; go_simp; try with_reducible rfl)
          simp only [Act.put, List.setIfInBounds_toArray, List.set_cons_zero, List.set_cons_succ]
          refine wpAnyH_done (by kernel_rfl) ?_ _
          have HN : Hid (KeepIn w T p B q' N' rp rB rq' R' W' f' f' g1 g1 w7 ∧ Small f' g1) := ⟨hkz, hsz⟩
          clear hHeld KS kp6 hk6 hk7 kp7 hkz hk hD oD oT hs hsz hia hg1 HG
          go_wp2
          go_roundw
          case rel =>
            exact ⟨r + 1, _, _, _, _, _, _, _, by go_num, by omega, by omega, HN.out⟩
          case measure => simp [intOf]; omega
      | false =>
        as_aux_lemma =>
        clear hz
        have H3 : Hid (Kept (fun _ => False) w wc) := HH.out.1.game.kept
        clear HH
        go_wp2_with fail
        refine (runs_w wc).mono ?_
        rintro e w4 ⟨rfl, hk4⟩
        have HK : Hid (Kept (fun _ => False) w w4) := H3.out.thru hk4
        clear H3 hk4
        go_wp2
        go_ret
        exact ⟨rfl, HK.out⟩
end Go.Proofs.Ytdjdnjngelahjaa
