
/- Of any objects and any calls each answer, what is read and what is written is as chapter 16 says; whatever code does what space does. -/
import Derived.Test.YtbhpkjedkccdpaaDoorSgY
import Derived.Deep.CutBlock
namespace Go.Proofs.YtbhpkjedkccdpaaDoor
open Go.RowKit
set_option maxRecDepth 100000
set_option linter.unusedSimpArgs false

/-- What an ask has. -/
structure QB where
  k : Int
  p : Int
  n : Int
def QBt (w : World) (b o : Nat) (q : QB) : Prop := w.cell? ⟨b, o, none⟩ = some (.int .i64 q.k) ∧ w.cell? ⟨b, o + 1, none⟩ = some (.int .i64 q.p) ∧ w.cell? ⟨b, o + 2, none⟩ = some (.int .i64 q.n) ∧ q.n ≤ 9223372036854775807
theorem QBt.still {w w' : World} {b o : Nat} {q : QB} (h : QBt w b o q) (hk : Kept (fun _ => False) w w') : QBt w' b o q :=
  ⟨hk.cell h.1 (fun x => x), hk.cell h.2.1 (fun x => x), hk.cell h.2.2.1 (fun x => x), h.2.2.2⟩
def qbs (q : QB) : Array Value := #[.int .i64 q.k, .int .i64 q.p, .int .i64 q.n]
/-- All that the statement has in memory. -/
def PlayB (w0 : World) (T p B q N rp rB rq R W D : Nat) (b : Nat) (f : StF) (g : VwF) (y : QB) (w : World) : Prop :=
  KeepIn w0 T p B q N rp rB rq R W f f g g w ∧ SmallB b f g ∧ w.heap[D]? = some (.cells (qbs y) 43 (0, 0))

set_option maxHeartbeats 4000000 in
theorem plays_of (S : SpaceV) (ao : Option Addr) (len cap lb off : Nat) (Q : Nat → K2 × V) (hao : 0 < len → ao = some ⟨lb, off, none⟩) (bo : Option Addr) (ln cp mb of : Nat) (A : Nat → QB) (hbo : 0 < ln → bo = some ⟨mb, of, none⟩) (w : World)
    (hc : ∀ i, i < len → w.rangeAt lb (off + i * 19) (wc (Q i))) (hd : ∀ i, i < ln → QBt w mb (of + i * 3) (A i)) (ht : TabIn w) :
    Calls Tryd.prog 4 #[.slice ao len cap, .slice bo ln cp] w fun e w' => e = .returned (.bool true) ∧ Kept (fun _ => False) w w' := by
  have HT : Hid (TabIn w) := ht
  clear ht
  have HD : Hid (∀ i, i < ln → QBt w mb (of + i * 3) (A i)) := hd
  go_enter Tryd.func4, Tryd.ntmps4
  go_wp2_with fail
  refine (keepnew_w ao len cap lb off Q hao w hc).mono ?_
  rintro e w1 ⟨T, p, B, q, N, rp, rB, rq, R, W, rfl, h1, hT⟩
  have H0 : Hid (KeepIn w T p B q N rp rB rq R W (initF Q (min len 60)) (initF Q (min len 60)) (fun _ => none) (fun _ => none) w1 ∧ SmallB (200 + 100 * 0) (initF Q (min len 60)) (fun _ => none)) := ⟨h1, (small_init _ _).toB⟩
  clear h1 hc hd
  go_wp2_with fail
  go_loopw [6, 7, 8, 9, 10, 11, 12] (fun v _ _ _ _ _ _ wr => ∃ (r : Nat) (q N rq R W : Nat) (f : StF) (g : VwF), v = .int .i64 r ∧ r ≤ ln ∧ r ≤ 25 ∧ Hid (KeepIn w T p B q N rp rB rq R W f f g g wr ∧ SmallB (200 + 100 * r) f g)) (fun v _ _ _ _ _ _ _ => 25 - (intOf v).toNat)
  case atStart => exact ⟨0, q, N, rq, R, W, _, _, rfl, by omega, by omega, H0.out⟩
  case round =>
    clear H0
    clear q N rq R W
    obtain ⟨r, q, N, rq, R, W, f, g, rfl, hr1, hr2, HH⟩ := hrel
    obtain ⟨z, hz⟩ : ∃ z : Bool, decide ((r : Int) < (ln : Int) ∧ (r : Int) < 25) = z := ⟨_, rfl⟩
    go_upto_region 5 with fail
    go_cut [24] from 17 to 24 (fun v wx => v = .bool z ∧ wx = wr)
    case first =>
      as_aux_lemma =>
      by_cases p1 : (r : Int) < (ln : Int)
      · by_cases p2 : (r : Int) < 25
        · have hz' : z = true := by rw [← hz]; simp [p1, p2]
          subst hz'
          clear hz
          go_wp2
          go_meet
          case rel => exact ⟨rfl, rfl⟩
        · have hz' : z = false := by rw [← hz]; simp [p1, p2]
          subst hz'
          clear hz
          go_wp2
          go_meet
          case rel => exact ⟨rfl, rfl⟩
      · have hz' : z = false := by rw [← hz]; simp [p1]
        subst hz'
        clear hz
        go_wp2
        go_meet
        case rel => exact ⟨rfl, rfl⟩
    case rest =>
      obtain ⟨rfl, hwc⟩ := hcut
      subst hwc
      cases z with
      | true =>
        as_aux_lemma =>
        simp only [decide_eq_true_eq] at hz
        obtain ⟨t1, t2⟩ := hz
        have hl1 : r < ln := by omega
        have h0 := hbo (by omega)
        subst h0
        have hq0 := HD.out r hl1
        obtain ⟨⟨qk, qp, qn⟩, hqe⟩ : ∃ y, A r = y := ⟨_, rfl⟩
        rw [hqe] at hq0
        obtain ⟨e0, e1, e2, e3⟩ := hq0.still HH.out.1.game.kept
        simp only at e0 e1 e2 e3
        have HQ : Hid (qn ≤ 9223372036854775807) := e3
        clear e3
        clear hqe hq0 hbo
        obtain ⟨D, hD⟩ : ∃ D : Nat, wc.heap.size = D := ⟨_, rfl⟩
        have HP : Hid (PlayB w T p B q N rp rB rq R W D (200 + 100 * r) f g ⟨qk, qp, qn⟩ (wc.alloc (.cells #[.int .i64 qk, .int .i64 qp, .int .i64 qn] 43)) ∧ w.heap.size ≤ D ∧ T < D ∧ p < D ∧ rp < D) := by
          have hk := HH.out.1
          exact ⟨⟨hk.still ((Kept.refl _ _).alloc _), HH.out.2, alloc_at' _ hD⟩, by have := hk.game.kept.size; omega, by have := lt_at hk.cell; omega, by have := lt_at hk.game.s.cell; omega, by have := lt_at hk.game.rs.cell; omega⟩
        have c0 := cell_at HP.out.1.2.2 (i := 0) (v := .int .i64 qk) rfl
        go_upto_region 8 with fail
        obtain ⟨w2, h2⟩ : ∃ w2, wc.alloc (.cells #[.int .i64 qk, .int .i64 qp, .int .i64 qn] 43) = w2 := ⟨_, rfl⟩
        rw [h2] at HP c0 ⊢
        clear h2 HH hD e0 e1 e2
        go_upto_block 2 with fail
        go_cut [8, 13, 14, 15, 16] from 9 to 122 (fun v v13 v14 v15 v16 wx => (v = .bool true ∧ v13 = .slice ao len cap ∧ v14 = .pointer (some ⟨T, 0, none⟩) ∧ v15 = .pointer (some ⟨T, 0, none⟩) ∧ v16 = .bool false) ∧ ∃ q N rq R W f g, Hid (PlayB w T p B q N rp rB rq R W D (200 + 100 * (r + 1)) f g ⟨qk, qp, qn⟩ wx))
        case first =>
          as_aux_lemma =>
          have hk := HP.out.1.1
          have hs := HP.out.1.2.1
          have hD := HP.out.1.2.2
          have oD := hk.off hD
          have oT := hk.off hk.cell
          have hDT : D ≠ T := by have := HP.out.2.2.1; omega
          by_cases h1 : qk = 1
          · subst h1
            as_aux_lemma =>
            obtain ⟨ia, hia⟩ : ∃ b, grOk f g qp qn = b := ⟨_, rfl⟩
            have bx : (prV f g qp).s.size ≤ 1000000 := Nat.le_trans (hs.val (4, qp)) (by omega)
            have bm : (meV f g qp).s.size ≤ 1000000 := Nat.le_trans (hs.val (12, qp)) (by omega)
            have hs2 : SmallB (200 + 100 * (r + 1)) f (grT f g qp qn) := hs.grow qp qn (by omega) (fun _ => by omega) (fun _ => by have : (meV f g qp).s.size ≤ 200 + 100 * r := hs.val (12, qp); omega)
            have KS : ∀ w', Kept (fun n => n = N ∨ RW R W n) w2 w' → (w'.cell? ⟨T, 1, none⟩ = some (.pointer (some ⟨q, 0, none⟩)) ∧ w'.cell? ⟨T, 3, none⟩ = some (.pointer (some ⟨rq, 0, none⟩)) ∧ w'.cell? ⟨D, 1, none⟩ = some (.int .i64 qp) ∧ w'.cell? ⟨D, 2, none⟩ = some (.int .i64 qn)) :=
              fun w' hk' => ⟨hk'.cell hk.cells.2.1 (fun e => e.elim oT.1 oT.2.1), hk'.cell hk.cells.2.2.2 (fun e => e.elim oT.1 oT.2.1), hk'.cell (cell_at hD rfl) (fun e => e.elim oD.1 oD.2.1), hk'.cell (cell_at hD rfl) (fun e => e.elim oD.1 oD.2.1)⟩
            go_wp2_with fail
            refine wp_region_held_drew (S := fun w' => Kept (fun n => n = N ∨ RW R W n) w2 w') (by kernel_rfl) ((Kept.refl _ _).drew) (fun hHeld => ?_)
            refine h_take 0 (some 35) (Op.move (Operand.tmp 5)) 22 ?v1 rfl rfl (by kernel_rfl) (by kernel_rfl) (by kernel_rfl) (fun _ _ _ h => h) ?hy1 hHeld ?_
            case hy1 => (intro _ _ _ w hSw; have hcs := KS _ hSw; go_simp; try with_reducible rfl)
            simp only [Act.put, List.setIfInBounds_toArray, List.set_cons_zero, List.set_cons_succ]
            refine h_take 1 (some 36) (Op.nilCheck (Operand.tmp 35)) 0 ?v2 rfl rfl (by kernel_rfl) (by kernel_rfl) (by kernel_rfl) (fun _ _ _ h => h) ?hy2 hHeld ?_
            case hy2 => (intro _ _ _ w hSw; have hcs := KS _ hSw; go_simp; try with_reducible rfl)
            simp only [Act.put, List.setIfInBounds_toArray, List.set_cons_zero, List.set_cons_succ]
            refine h_take 2 (some 37) (Op.fieldAddr 29 (Operand.tmp 36) 1) 0 ?v3 rfl rfl (by kernel_rfl) (by kernel_rfl) (by kernel_rfl) (fun _ _ _ h => h) ?hy3 hHeld ?_
            case hy3 => (intro _ _ _ w hSw; have hcs := KS _ hSw; go_simp; try with_reducible rfl)
            simp only [Act.put, List.setIfInBounds_toArray, List.set_cons_zero, List.set_cons_succ]
            refine h_take 3 (some 38) (Op.load 25 (Operand.tmp 37)) 25 ?v4 rfl rfl (by kernel_rfl) (by kernel_rfl) (by kernel_rfl) (fun _ _ _ h => h) ?hy4 hHeld ?_
            case hy4 => (intro _ _ _ w hSw; have hcs := KS _ hSw; go_simp; try with_reducible rfl)
            simp only [Act.put, List.setIfInBounds_toArray, List.set_cons_zero, List.set_cons_succ]
            refine h_take 4 (some 39) (Op.fieldAddr 43 (Operand.tmp 7) 1) 0 ?v5 rfl rfl (by kernel_rfl) (by kernel_rfl) (by kernel_rfl) (fun _ _ _ h => h) ?hy5 hHeld ?_
            case hy5 => (intro _ _ _ w hSw; have hcs := KS _ hSw; go_simp; try with_reducible rfl)
            simp only [Act.put, List.setIfInBounds_toArray, List.set_cons_zero, List.set_cons_succ]
            refine h_take 5 (some 40) (Op.load 3 (Operand.tmp 39)) 3 ?v6 rfl rfl (by kernel_rfl) (by kernel_rfl) (by kernel_rfl) (fun _ _ _ h => h) ?hy6 hHeld ?_
            case hy6 => (intro _ _ _ w hSw; have hcs := KS _ hSw; go_simp; try with_reducible rfl)
            simp only [Act.put, List.setIfInBounds_toArray, List.set_cons_zero, List.set_cons_succ]
            refine h_take 6 (some 41) (Op.fieldAddr 43 (Operand.tmp 7) 2) 0 ?v7 rfl rfl (by kernel_rfl) (by kernel_rfl) (by kernel_rfl) (fun _ _ _ h => h) ?hy7 hHeld ?_
            case hy7 => (intro _ _ _ w hSw; have hcs := KS _ hSw; go_simp; try with_reducible rfl)
            simp only [Act.put, List.setIfInBounds_toArray, List.set_cons_zero, List.set_cons_succ]
            refine h_take 7 (some 42) (Op.load 3 (Operand.tmp 41)) 3 ?v8 rfl rfl (by kernel_rfl) (by kernel_rfl) (by kernel_rfl) (fun _ _ _ h => h) ?hy8 hHeld ?_
            case hy8 => (intro _ _ _ w hSw; have hcs := KS _ hSw; go_simp; try with_reducible rfl)
            simp only [Act.put, List.setIfInBounds_toArray, List.set_cons_zero, List.set_cons_succ]
            refine h_take 9 (some 44) (Op.move (Operand.tmp 5)) 22 ?v9 rfl rfl (by kernel_rfl) (by kernel_rfl) (by kernel_rfl) (fun _ _ _ h => h) ?hy9 hHeld ?_
            case hy9 => (intro _ _ _ w hSw; have hcs := KS _ hSw; go_simp; try with_reducible rfl)
            simp only [Act.put, List.setIfInBounds_toArray, List.set_cons_zero, List.set_cons_succ]
            refine h_take 10 (some 45) (Op.nilCheck (Operand.tmp 44)) 0 ?v10 rfl rfl (by kernel_rfl) (by kernel_rfl) (by kernel_rfl) (fun _ _ _ h => h) ?hy10 hHeld ?_
            case hy10 => (intro _ _ _ w hSw; have hcs := KS _ hSw; go_simp; try with_reducible rfl)
            simp only [Act.put, List.setIfInBounds_toArray, List.set_cons_zero, List.set_cons_succ]
            refine h_take 11 (some 46) (Op.fieldAddr 29 (Operand.tmp 45) 3) 0 ?v11 rfl rfl (by kernel_rfl) (by kernel_rfl) (by kernel_rfl) (fun _ _ _ h => h) ?hy11 hHeld ?_
            case hy11 => (intro _ _ _ w hSw; have hcs := KS _ hSw; go_simp; try with_reducible rfl)
            simp only [Act.put, List.setIfInBounds_toArray, List.set_cons_zero, List.set_cons_succ]
            refine h_take 12 (some 47) (Op.load 27 (Operand.tmp 46)) 27 ?v12 rfl rfl (by kernel_rfl) (by kernel_rfl) (by kernel_rfl) (fun _ _ _ h => h) ?hy12 hHeld ?_
            case hy12 => (intro _ _ _ w hSw; have hcs := KS _ hSw; go_simp; try with_reducible rfl)
            simp only [Act.put, List.setIfInBounds_toArray, List.set_cons_zero, List.set_cons_succ]
            refine h_take 13 (some 48) (Op.fieldAddr 43 (Operand.tmp 7) 1) 0 ?v13 rfl rfl (by kernel_rfl) (by kernel_rfl) (by kernel_rfl) (fun _ _ _ h => h) ?hy13 hHeld ?_
            case hy13 => (intro _ _ _ w hSw; have hcs := KS _ hSw; go_simp; try with_reducible rfl)
            simp only [Act.put, List.setIfInBounds_toArray, List.set_cons_zero, List.set_cons_succ]
            refine h_take 14 (some 49) (Op.load 3 (Operand.tmp 48)) 3 ?v14 rfl rfl (by kernel_rfl) (by kernel_rfl) (by kernel_rfl) (fun _ _ _ h => h) ?hy14 hHeld ?_
            case hy14 => (intro _ _ _ w hSw; have hcs := KS _ hSw; go_simp; try with_reducible rfl)
            simp only [Act.put, List.setIfInBounds_toArray, List.set_cons_zero, List.set_cons_succ]
            refine h_take 15 (some 50) (Op.fieldAddr 43 (Operand.tmp 7) 2) 0 ?v15 rfl rfl (by kernel_rfl) (by kernel_rfl) (by kernel_rfl) (fun _ _ _ h => h) ?hy15 hHeld ?_
            case hy15 => (intro _ _ _ w hSw; have hcs := KS _ hSw; go_simp; try with_reducible rfl)
            simp only [Act.put, List.setIfInBounds_toArray, List.set_cons_zero, List.set_cons_succ]
            refine h_take 16 (some 51) (Op.load 3 (Operand.tmp 50)) 3 ?v16 rfl rfl (by kernel_rfl) (by kernel_rfl) (by kernel_rfl) (fun _ _ _ h => h) ?hy16 hHeld ?_
            case hy16 => (intro _ _ _ w hSw; have hcs := KS _ hSw; go_simp; try with_reducible rfl)
            simp only [Act.put, List.setIfInBounds_toArray, List.set_cons_zero, List.set_cons_succ]
            refine h_step 8 (some 43) (Op.call { callee := Callee.value (Operand.func 9), args := #[Operand.tmp 38, Operand.tmp 40, Operand.tmp 42], argTypes := #[25, 3, 3] }) 4 rfl rfl (by kernel_rfl) (fun _ _ _ K hK => ?_)
            go_simp
            refine (kv_grow S (hk.still (Kept.refl _ w2).drew) HT.out qp qn bx bm).mono ?_
            rintro e w3 ⟨rfl, hk3, kp3⟩
            replace kp3 : Kept (fun n => n = N) w2 w3 := (Kept.refl _ w2).drew.trans kp3 (fun _ _ e => e)
            rw [hia]
            go_wp2_with fail
            refine hK.out _ _ (kp3.mono (fun _ _ e => .inl e)) (fun hHeld => ?_)
            clear hK K
            try simp only [Act.put, List.setIfInBounds_toArray, List.set_cons_zero, List.set_cons_succ]
            refine h_step 17 (some 52) (Op.call { callee := Callee.value (Operand.func 16), args := #[Operand.tmp 47, Operand.tmp 49, Operand.tmp 51], argTypes := #[27, 3, 3] }) 4 rfl rfl (by kernel_rfl) (fun _ _ _ K hK => ?_)
            go_simp
            refine (kr_grow hk3 qp qn bx bm).mono ?_
            rintro e w4 ⟨rfl, hk4, kp4⟩
            have k4 : Kept (fun n => n = N ∨ RW R W n) w2 w4 := (kp3.mono (fun _ _ e => .inl e)).trans kp4 (fun _ _ e => .inr e)
            rw [hia]
            go_wp2_with fail
            refine hK.out _ _ (k4) (fun hHeld => ?_)
            clear hK K
            try simp only [Act.put, List.setIfInBounds_toArray, List.set_cons_zero, List.set_cons_succ]
            refine h_take 18 (some 53) (Op.binOp BinOp.eql 4 (Operand.tmp 43) (Operand.tmp 52) 4) 4 ?v17 rfl rfl (by kernel_rfl) (by kernel_rfl) (by kernel_rfl) (fun _ _ _ h => h) ?hy17 hHeld ?_
            case hy17 => (intro _ _ _ w hSw; have hcs := KS _ hSw; go_simp; try with_reducible rfl)
            simp only [Act.put, List.setIfInBounds_toArray, List.set_cons_zero, List.set_cons_succ]
            refine h_take 19 (some 8) (Op.assign (Operand.tmp 53)) 4 ?v18 rfl rfl (by kernel_rfl) (by kernel_rfl) (by kernel_rfl) (fun _ _ _ h => h) ?hy18 hHeld ?_
            case hy18 => (intro _ _ _ w hSw; have hcs := KS _ hSw; go_simp; try with_reducible rfl)
            simp only [Act.put, List.setIfInBounds_toArray, List.set_cons_zero, List.set_cons_succ]
            refine wpAnyH_done (by kernel_rfl) ?_ _
            have HN : Hid (PlayB w T p B q N rp rB rq R W D (200 + 100 * (r + 1)) f (grT f g qp qn) ⟨1, qp, qn⟩ w4) := ⟨hk4, hs2, k4.at hD (fun e => e.elim oD.1 oD.2.1)⟩
            clear hHeld KS kp3 kp4 k4 hk4 hk3 hk hs hs2 hD oD oT hia bx bm
            go_wp2
            go_meet
            case rel => exact ⟨⟨rfl, rfl, rfl, rfl, rfl⟩, _, _, _, _, _, _, _, HN.out⟩
          by_cases h2 : qk = 2
          · subst h2
            as_aux_lemma =>
            obtain ⟨ia, hia⟩ : ∃ b, shOk f g qp qn = b := ⟨_, rfl⟩
            obtain ⟨l, hl⟩ : ∃ l, shL f g qp qn = l := ⟨_, rfl⟩
            have bx : (prV f g qp).s.size ≤ 1000000 := Nat.le_trans (hs.val (4, qp)) (by omega)
            have bm : (meV f g qp).s.size ≤ 1000000 := Nat.le_trans (hs.val (12, qp)) (by omega)
            have hll : l.length ≤ 1000000 := by
              rw [← hl]
              unfold shL
              split
              · rw [List.length_map]
                unfold goneN pagesN
                rw [List.length_drop, List.length_map, bl_len]
                omega
              · simp
            have hs2 : SmallB (200 + 100 * (r + 1)) f (shT f g qp qn) := (hs.shrink qp qn).mono (by omega)
            have KS : ∀ w', Kept (fun n => n = N ∨ RW R W n) w2 w' → (w'.cell? ⟨T, 1, none⟩ = some (.pointer (some ⟨q, 0, none⟩)) ∧ w'.cell? ⟨T, 3, none⟩ = some (.pointer (some ⟨rq, 0, none⟩)) ∧ w'.cell? ⟨D, 1, none⟩ = some (.int .i64 qp) ∧ w'.cell? ⟨D, 2, none⟩ = some (.int .i64 qn)) :=
              fun w' hk' => ⟨hk'.cell hk.cells.2.1 (fun e => e.elim oT.1 oT.2.1), hk'.cell hk.cells.2.2.2 (fun e => e.elim oT.1 oT.2.1), hk'.cell (cell_at hD rfl) (fun e => e.elim oD.1 oD.2.1), hk'.cell (cell_at hD rfl) (fun e => e.elim oD.1 oD.2.1)⟩
            have hRW : R < w2.heap.size ∧ W < w2.heap.size := ⟨hk.game.rv.r.lt, hk.game.rv.w.lt⟩
            go_wp2_with fail
            refine wp_region_held_drew (S := fun w' => Kept (fun n => n = N ∨ RW R W n) w2 w') (by kernel_rfl) ((Kept.refl _ _).drew) (fun hHeld => ?_)
            refine h_take 0 (some 57) (Op.move (Operand.tmp 5)) 22 ?v19 rfl rfl (by kernel_rfl) (by kernel_rfl) (by kernel_rfl) (fun _ _ _ h => h) ?hy19 hHeld ?_
            case hy19 => (intro _ _ _ w hSw; have hcs := KS _ hSw; go_simp; try with_reducible rfl)
            simp only [Act.put, List.setIfInBounds_toArray, List.set_cons_zero, List.set_cons_succ]
            refine h_take 1 (some 58) (Op.nilCheck (Operand.tmp 57)) 0 ?v20 rfl rfl (by kernel_rfl) (by kernel_rfl) (by kernel_rfl) (fun _ _ _ h => h) ?hy20 hHeld ?_
            case hy20 => (intro _ _ _ w hSw; have hcs := KS _ hSw; go_simp; try with_reducible rfl)
            simp only [Act.put, List.setIfInBounds_toArray, List.set_cons_zero, List.set_cons_succ]
            refine h_take 2 (some 59) (Op.fieldAddr 29 (Operand.tmp 58) 1) 0 ?v21 rfl rfl (by kernel_rfl) (by kernel_rfl) (by kernel_rfl) (fun _ _ _ h => h) ?hy21 hHeld ?_
            case hy21 => (intro _ _ _ w hSw; have hcs := KS _ hSw; go_simp; try with_reducible rfl)
            simp only [Act.put, List.setIfInBounds_toArray, List.set_cons_zero, List.set_cons_succ]
            refine h_take 3 (some 60) (Op.load 25 (Operand.tmp 59)) 25 ?v22 rfl rfl (by kernel_rfl) (by kernel_rfl) (by kernel_rfl) (fun _ _ _ h => h) ?hy22 hHeld ?_
            case hy22 => (intro _ _ _ w hSw; have hcs := KS _ hSw; go_simp; try with_reducible rfl)
            simp only [Act.put, List.setIfInBounds_toArray, List.set_cons_zero, List.set_cons_succ]
            refine h_take 4 (some 61) (Op.fieldAddr 43 (Operand.tmp 7) 1) 0 ?v23 rfl rfl (by kernel_rfl) (by kernel_rfl) (by kernel_rfl) (fun _ _ _ h => h) ?hy23 hHeld ?_
            case hy23 => (intro _ _ _ w hSw; have hcs := KS _ hSw; go_simp; try with_reducible rfl)
            simp only [Act.put, List.setIfInBounds_toArray, List.set_cons_zero, List.set_cons_succ]
            refine h_take 5 (some 62) (Op.load 3 (Operand.tmp 61)) 3 ?v24 rfl rfl (by kernel_rfl) (by kernel_rfl) (by kernel_rfl) (fun _ _ _ h => h) ?hy24 hHeld ?_
            case hy24 => (intro _ _ _ w hSw; have hcs := KS _ hSw; go_simp; try with_reducible rfl)
            simp only [Act.put, List.setIfInBounds_toArray, List.set_cons_zero, List.set_cons_succ]
            refine h_take 6 (some 63) (Op.fieldAddr 43 (Operand.tmp 7) 2) 0 ?v25 rfl rfl (by kernel_rfl) (by kernel_rfl) (by kernel_rfl) (fun _ _ _ h => h) ?hy25 hHeld ?_
            case hy25 => (intro _ _ _ w hSw; have hcs := KS _ hSw; go_simp; try with_reducible rfl)
            simp only [Act.put, List.setIfInBounds_toArray, List.set_cons_zero, List.set_cons_succ]
            refine h_take 7 (some 64) (Op.load 3 (Operand.tmp 63)) 3 ?v26 rfl rfl (by kernel_rfl) (by kernel_rfl) (by kernel_rfl) (fun _ _ _ h => h) ?hy26 hHeld ?_
            case hy26 => (intro _ _ _ w hSw; have hcs := KS _ hSw; go_simp; try with_reducible rfl)
            simp only [Act.put, List.setIfInBounds_toArray, List.set_cons_zero, List.set_cons_succ]
            refine h_step 8 (some 65) (Op.call { callee := Callee.value (Operand.func 11), args := #[Operand.tmp 60, Operand.tmp 62, Operand.tmp 64], argTypes := #[25, 3, 3] }) 33 rfl rfl (by kernel_rfl) (fun _ _ _ K hK => ?_)
            go_simp
            refine (kv_shrink S (hk.still (Kept.refl _ w2).drew) qp qn HQ.out bx bm).mono ?_
            rintro e w3 ⟨v3, rfl, s3, y3, hk3, kp3⟩
            replace kp3 : Kept (fun n => n = N) w2 w3 := (Kept.refl _ w2).drew.trans kp3 (fun _ _ e => e)
            rw [hia]
            rw [hl] at s3
            have y3' : ∀ b, v3.ownBlock = some b → w2.heap.size ≤ b := y3
            go_wp2_with fail
            refine hK.out _ _ (kp3.mono (fun _ _ e => .inl e)) (fun hHeld => ?_)
            clear hK K
            try simp only [Act.put, List.setIfInBounds_toArray, List.set_cons_zero, List.set_cons_succ]
            refine h_take 9 (some 56) (Op.move (Operand.tmp 65)) 33 ?v27 rfl rfl (by kernel_rfl) (by kernel_rfl) (by kernel_rfl) (fun _ _ _ h => h) ?hy27 hHeld ?_
            case hy27 => (intro _ _ _ w hSw; have hcs := KS _ hSw; go_simp; try with_reducible rfl)
            simp only [Act.put, List.setIfInBounds_toArray, List.set_cons_zero, List.set_cons_succ]
            refine h_take 10 (some 66) (Op.extract (Operand.tmp 56) 0) 31 ?v28 rfl rfl (by kernel_rfl) (by kernel_rfl) (by kernel_rfl) (fun _ _ _ h => h) ?hy28 hHeld ?_
            case hy28 => (intro _ _ _ w hSw; have hcs := KS _ hSw; go_simp; try with_reducible rfl)
            simp only [Act.put, List.setIfInBounds_toArray, List.set_cons_zero, List.set_cons_succ]
            refine h_take 11 (some 67) (Op.extract (Operand.tmp 56) 1) 4 ?v29 rfl rfl (by kernel_rfl) (by kernel_rfl) (by kernel_rfl) (fun _ _ _ h => h) ?hy29 hHeld ?_
            case hy29 => (intro _ _ _ w hSw; have hcs := KS _ hSw; go_simp; try with_reducible rfl)
            simp only [Act.put, List.setIfInBounds_toArray, List.set_cons_zero, List.set_cons_succ]
            refine h_take 12 (some 9) (Op.assign (Operand.tmp 66)) 31 ?v30 rfl rfl (by kernel_rfl) (by kernel_rfl) (by kernel_rfl) (fun _ _ _ h => h) ?hy30 hHeld ?_
            case hy30 => (intro _ _ _ w hSw; have hcs := KS _ hSw; go_simp; try with_reducible rfl)
            simp only [Act.put, List.setIfInBounds_toArray, List.set_cons_zero, List.set_cons_succ]
            refine h_take 13 (some 10) (Op.assign (Operand.tmp 67)) 4 ?v31 rfl rfl (by kernel_rfl) (by kernel_rfl) (by kernel_rfl) (fun _ _ _ h => h) ?hy31 hHeld ?_
            case hy31 => (intro _ _ _ w hSw; have hcs := KS _ hSw; go_simp; try with_reducible rfl)
            simp only [Act.put, List.setIfInBounds_toArray, List.set_cons_zero, List.set_cons_succ]
            refine wpAnyH_done (by kernel_rfl) ?_ _
            have KT : ∀ w', Kept (RW R W) w3 w' → (w'.cell? ⟨T, 3, none⟩ = some (.pointer (some ⟨rq, 0, none⟩)) ∧ w'.cell? ⟨D, 1, none⟩ = some (.int .i64 qp) ∧ w'.cell? ⟨D, 2, none⟩ = some (.int .i64 qn)) :=
              fun w' hk' => have k4 := (kp3.mono (Y := fun n => n = N ∨ RW R W n) (fun _ _ e => .inl e)).trans hk' (fun _ _ e => .inr e); ⟨(KS _ k4).2.1, (KS _ k4).2.2.1, (KS _ k4).2.2.2⟩
            clear hHeld KS y3
            have KS := KT
            clear KT
            go_wp2_with fail
            refine wp_region_held_drew (S := fun w' => Kept (RW R W) w3 w') (by kernel_rfl) ((Kept.refl _ _).drew) (fun hHeld => ?_)
            refine h_take 0 (some 69) (Op.move (Operand.tmp 5)) 22 ?v32 rfl rfl (by kernel_rfl) (by kernel_rfl) (by kernel_rfl) (fun _ _ _ h => h) ?hy32 hHeld ?_
            case hy32 => (intro _ _ _ w hSw; have hcs := KS _ hSw; go_simp; try with_reducible rfl)
            simp only [Act.put, List.setIfInBounds_toArray, List.set_cons_zero, List.set_cons_succ]
            refine h_take 1 (some 70) (Op.nilCheck (Operand.tmp 69)) 0 ?v33 rfl rfl (by kernel_rfl) (by kernel_rfl) (by kernel_rfl) (fun _ _ _ h => h) ?hy33 hHeld ?_
            case hy33 => (intro _ _ _ w hSw; have hcs := KS _ hSw; go_simp; try with_reducible rfl)
            simp only [Act.put, List.setIfInBounds_toArray, List.set_cons_zero, List.set_cons_succ]
            refine h_take 2 (some 71) (Op.fieldAddr 29 (Operand.tmp 70) 3) 0 ?v34 rfl rfl (by kernel_rfl) (by kernel_rfl) (by kernel_rfl) (fun _ _ _ h => h) ?hy34 hHeld ?_
            case hy34 => (intro _ _ _ w hSw; have hcs := KS _ hSw; go_simp; try with_reducible rfl)
            simp only [Act.put, List.setIfInBounds_toArray, List.set_cons_zero, List.set_cons_succ]
            refine h_take 3 (some 72) (Op.load 27 (Operand.tmp 71)) 27 ?v35 rfl rfl (by kernel_rfl) (by kernel_rfl) (by kernel_rfl) (fun _ _ _ h => h) ?hy35 hHeld ?_
            case hy35 => (intro _ _ _ w hSw; have hcs := KS _ hSw; go_simp; try with_reducible rfl)
            simp only [Act.put, List.setIfInBounds_toArray, List.set_cons_zero, List.set_cons_succ]
            refine h_take 4 (some 73) (Op.fieldAddr 43 (Operand.tmp 7) 1) 0 ?v36 rfl rfl (by kernel_rfl) (by kernel_rfl) (by kernel_rfl) (fun _ _ _ h => h) ?hy36 hHeld ?_
            case hy36 => (intro _ _ _ w hSw; have hcs := KS _ hSw; go_simp; try with_reducible rfl)
            simp only [Act.put, List.setIfInBounds_toArray, List.set_cons_zero, List.set_cons_succ]
            refine h_take 5 (some 74) (Op.load 3 (Operand.tmp 73)) 3 ?v37 rfl rfl (by kernel_rfl) (by kernel_rfl) (by kernel_rfl) (fun _ _ _ h => h) ?hy37 hHeld ?_
            case hy37 => (intro _ _ _ w hSw; have hcs := KS _ hSw; go_simp; try with_reducible rfl)
            simp only [Act.put, List.setIfInBounds_toArray, List.set_cons_zero, List.set_cons_succ]
            refine h_take 6 (some 75) (Op.fieldAddr 43 (Operand.tmp 7) 2) 0 ?v38 rfl rfl (by kernel_rfl) (by kernel_rfl) (by kernel_rfl) (fun _ _ _ h => h) ?hy38 hHeld ?_
            case hy38 => (intro _ _ _ w hSw; have hcs := KS _ hSw; go_simp; try with_reducible rfl)
            simp only [Act.put, List.setIfInBounds_toArray, List.set_cons_zero, List.set_cons_succ]
            refine h_take 7 (some 76) (Op.load 3 (Operand.tmp 75)) 3 ?v39 rfl rfl (by kernel_rfl) (by kernel_rfl) (by kernel_rfl) (fun _ _ _ h => h) ?hy39 hHeld ?_
            case hy39 => (intro _ _ _ w hSw; have hcs := KS _ hSw; go_simp; try with_reducible rfl)
            simp only [Act.put, List.setIfInBounds_toArray, List.set_cons_zero, List.set_cons_succ]
            refine h_step 8 (some 77) (Op.call { callee := Callee.value (Operand.func 17), args := #[Operand.tmp 72, Operand.tmp 74, Operand.tmp 76], argTypes := #[27, 3, 3] }) 33 rfl rfl (by kernel_rfl) (fun _ _ _ K hK => ?_)
            go_simp
            refine (kr_shrink (hk3.still (Kept.refl _ w3).drew) qp qn bx).mono ?_
            rintro e w4 ⟨v4, rfl, s4, -, hk4, kp4⟩
            replace kp4 : Kept (RW R W) w3 w4 := (Kept.refl _ w3).drew.trans kp4 (fun _ _ e => e)
            rw [hia]
            rw [hl] at s4
            go_wp2_with fail
            refine hK.out _ _ (kp4) (fun hHeld => ?_)
            clear hK K
            try simp only [Act.put, List.setIfInBounds_toArray, List.set_cons_zero, List.set_cons_succ]
            refine h_take 9 (some 68) (Op.move (Operand.tmp 77)) 33 ?v40 rfl rfl (by kernel_rfl) (by kernel_rfl) (by kernel_rfl) (fun _ _ _ h => h) ?hy40 hHeld ?_
            case hy40 => (intro _ _ _ w hSw; have hcs := KS _ hSw; go_simp; try with_reducible rfl)
            simp only [Act.put, List.setIfInBounds_toArray, List.set_cons_zero, List.set_cons_succ]
            refine h_take 10 (some 78) (Op.extract (Operand.tmp 68) 0) 31 ?v41 rfl rfl (by kernel_rfl) (by kernel_rfl) (by kernel_rfl) (fun _ _ _ h => h) ?hy41 hHeld ?_
            case hy41 => (intro _ _ _ w hSw; have hcs := KS _ hSw; go_simp; try with_reducible rfl)
            simp only [Act.put, List.setIfInBounds_toArray, List.set_cons_zero, List.set_cons_succ]
            refine h_take 11 (some 79) (Op.extract (Operand.tmp 68) 1) 4 ?v42 rfl rfl (by kernel_rfl) (by kernel_rfl) (by kernel_rfl) (fun _ _ _ h => h) ?hy42 hHeld ?_
            case hy42 => (intro _ _ _ w hSw; have hcs := KS _ hSw; go_simp; try with_reducible rfl)
            simp only [Act.put, List.setIfInBounds_toArray, List.set_cons_zero, List.set_cons_succ]
            refine h_take 12 (some 11) (Op.assign (Operand.tmp 78)) 31 ?v43 rfl rfl (by kernel_rfl) (by kernel_rfl) (by kernel_rfl) (fun _ _ _ h => h) ?hy43 hHeld ?_
            case hy43 => (intro _ _ _ w hSw; have hcs := KS _ hSw; go_simp; try with_reducible rfl)
            simp only [Act.put, List.setIfInBounds_toArray, List.set_cons_zero, List.set_cons_succ]
            refine h_take 13 (some 12) (Op.assign (Operand.tmp 79)) 4 ?v44 rfl rfl (by kernel_rfl) (by kernel_rfl) (by kernel_rfl) (fun _ _ _ h => h) ?hy44 hHeld ?_
            case hy44 => (intro _ _ _ w hSw; have hcs := KS _ hSw; go_simp; try with_reducible rfl)
            simp only [Act.put, List.setIfInBounds_toArray, List.set_cons_zero, List.set_cons_succ]
            refine wpAnyH_done (by kernel_rfl) ?_ _
            have k4 : Kept (fun n => n = N ∨ RW R W n) w2 w4 := (kp3.mono (fun _ _ e => .inl e)).trans kp4 (fun _ _ e => .inr e)
            have s34 : SrcI v3 l w4 := s3.kept kp4 (fun b e x => by have := y3' b e; unfold RW at x; omega)
            have HN : Hid (PlayB w T p B q N rp rB rq R W D (200 + 100 * (r + 1)) f (shT f g qp qn) ⟨2, qp, qn⟩ w4) := ⟨hk4, hs2, k4.at hD (fun e => e.elim oD.1 oD.2.1)⟩
            have HS3 : Hid (SrcI v3 l w4 ∧ SrcI v4 l w4) := ⟨s34, s4⟩
            clear hHeld KS kp3 kp4 k4 hk4 hk3 hk hs hs2 hD oD oT hia bx bm s3 s4 s34 hl y3' hRW
            go_wp2_with fail
            refine (sameI_w v3 v4 l hll _ HS3.out.1 HS3.out.2).mono ?_
            rintro e w5 ⟨rfl, m5, rfl⟩
            have HN5 : Hid (PlayB w T p B q N rp rB rq R W D (200 + 100 * (r + 1)) f (shT f g qp qn) ⟨2, qp, qn⟩ (w4.drewN m5)) := ⟨HN.out.1.still (kept_drewN _ _), HN.out.2.1, (kept_drewN w4 m5).at HN.out.2.2 (fun e => e)⟩
            clear HN HS3
            go_wp2_with fail
            go_meet
            case rel => exact ⟨⟨rfl, rfl, rfl, rfl, rfl⟩, _, _, _, _, _, _, _, HN5.out⟩
          by_cases h3 : qk = 3
          · subst h3
            as_aux_lemma =>
            obtain ⟨m, hm⟩ : ∃ m, IntKind.i64.wrap (qn + 1) = m := ⟨_, rfl⟩
            have hs2 : SmallB (200 + 100 * (r + 1)) f (baT f g [qn, m, -1, 64]) := (hs.back _).mono (by omega)
            have hN2 : N < w2.heap.size := hk.game.v.map.lt
            have KS : ∀ w', Kept (fun n => n = N ∨ RW R W n) w2 w' → (w'.cell? ⟨T, 1, none⟩ = some (.pointer (some ⟨q, 0, none⟩)) ∧ w'.cell? ⟨T, 3, none⟩ = some (.pointer (some ⟨rq, 0, none⟩)) ∧ w'.cell? ⟨D, 2, none⟩ = some (.int .i64 qn)) :=
              fun w' hk' => ⟨hk'.cell hk.cells.2.1 (fun e => e.elim oT.1 oT.2.1), hk'.cell hk.cells.2.2.2 (fun e => e.elim oT.1 oT.2.1), hk'.cell (cell_at hD rfl) (fun e => e.elim oD.1 oD.2.1)⟩
            go_wp2_with fail
            refine wp_region_held_drew (S := fun w' => Kept (fun n => n = N ∨ RW R W n) w2 w') (by kernel_rfl) ((Kept.refl _ _).drew) (fun hHeld => ?_)
            have j0 : Kept (fun _ => False) w2 w2.drew := (Kept.refl _ _).drew
            obtain ⟨x0, hx0⟩ : ∃ x0, w2.drew = x0 := ⟨_, rfl⟩
            rw [hx0] at j0 hHeld ⊢
            clear hx0
            refine h_take 0 (some 90) (Op.move (Operand.tmp 5)) 22 ?v45 rfl rfl (by kernel_rfl) (by kernel_rfl) (by kernel_rfl) (fun _ _ _ h => h) ?hy45 hHeld ?_
            case hy45 => (intro _ _ _ w hSw; have hcs := KS _ hSw; go_simp; try with_reducible rfl)
            simp only [Act.put, List.setIfInBounds_toArray, List.set_cons_zero, List.set_cons_succ]
            refine h_take 1 (some 91) (Op.nilCheck (Operand.tmp 90)) 0 ?v46 rfl rfl (by kernel_rfl) (by kernel_rfl) (by kernel_rfl) (fun _ _ _ h => h) ?hy46 hHeld ?_
            case hy46 => (intro _ _ _ w hSw; have hcs := KS _ hSw; go_simp; try with_reducible rfl)
            simp only [Act.put, List.setIfInBounds_toArray, List.set_cons_zero, List.set_cons_succ]
            refine h_take 2 (some 92) (Op.fieldAddr 29 (Operand.tmp 91) 1) 0 ?v47 rfl rfl (by kernel_rfl) (by kernel_rfl) (by kernel_rfl) (fun _ _ _ h => h) ?hy47 hHeld ?_
            case hy47 => (intro _ _ _ w hSw; have hcs := KS _ hSw; go_simp; try with_reducible rfl)
            simp only [Act.put, List.setIfInBounds_toArray, List.set_cons_zero, List.set_cons_succ]
            refine h_take 3 (some 93) (Op.load 25 (Operand.tmp 92)) 25 ?v48 rfl rfl (by kernel_rfl) (by kernel_rfl) (by kernel_rfl) (fun _ _ _ h => h) ?hy48 hHeld ?_
            case hy48 => (intro _ _ _ w hSw; have hcs := KS _ hSw; go_simp; try with_reducible rfl)
            simp only [Act.put, List.setIfInBounds_toArray, List.set_cons_zero, List.set_cons_succ]
            refine h_take 4 (some 94) (Op.fieldAddr 43 (Operand.tmp 7) 2) 0 ?v49 rfl rfl (by kernel_rfl) (by kernel_rfl) (by kernel_rfl) (fun _ _ _ h => h) ?hy49 hHeld ?_
            case hy49 => (intro _ _ _ w hSw; have hcs := KS _ hSw; go_simp; try with_reducible rfl)
            simp only [Act.put, List.setIfInBounds_toArray, List.set_cons_zero, List.set_cons_succ]
            refine h_take 5 (some 95) (Op.load 3 (Operand.tmp 94)) 3 ?v50 rfl rfl (by kernel_rfl) (by kernel_rfl) (by kernel_rfl) (fun _ _ _ h => h) ?hy50 hHeld ?_
            case hy50 => (intro _ _ _ w hSw; have hcs := KS _ hSw; go_simp; try with_reducible rfl)
            simp only [Act.put, List.setIfInBounds_toArray, List.set_cons_zero, List.set_cons_succ]
            refine h_take 6 (some 96) (Op.fieldAddr 43 (Operand.tmp 7) 2) 0 ?v51 rfl rfl (by kernel_rfl) (by kernel_rfl) (by kernel_rfl) (fun _ _ _ h => h) ?hy51 hHeld ?_
            case hy51 => (intro _ _ _ w hSw; have hcs := KS _ hSw; go_simp; try with_reducible rfl)
            simp only [Act.put, List.setIfInBounds_toArray, List.set_cons_zero, List.set_cons_succ]
            refine h_take 7 (some 97) (Op.load 3 (Operand.tmp 96)) 3 ?v52 rfl rfl (by kernel_rfl) (by kernel_rfl) (by kernel_rfl) (fun _ _ _ h => h) ?hy52 hHeld ?_
            case hy52 => (intro _ _ _ w hSw; have hcs := KS _ hSw; go_simp; try with_reducible rfl)
            simp only [Act.put, List.setIfInBounds_toArray, List.set_cons_zero, List.set_cons_succ]
            refine h_take 8 (some 98) (Op.binOp BinOp.add 3 (Operand.tmp 97) (Operand.const (Value.int IntKind.i64 1)) 3) 3 (.int .i64 m) rfl rfl (by kernel_rfl) (by kernel_rfl) (by kernel_rfl) (fun _ _ _ h => h) ?_ hHeld ?_
            · intro _ _ _ w hSw; have hcs := KS _ hSw; go_simp
            simp only [Act.put, List.setIfInBounds_toArray, List.set_cons_zero, List.set_cons_succ]
            refine h_step 9 (some 99) (Op.buildSlice 31 4 #[(0, Operand.tmp 95), (1, Operand.tmp 98), (2, Operand.const (Value.int IntKind.i64 (-1))), (3, Operand.const (Value.int IntKind.i64 64))]) 31 rfl rfl (by kernel_rfl) (fun _ _ _ K hK => ?_)
            go_simp
            obtain ⟨E, hE⟩ : ∃ E, x0.heap.size = E := ⟨_, rfl⟩
            have j1 : Kept (fun _ => False) w2 (x0.alloc (.cells #[.int .i64 qn, .int .i64 m, .int .i64 (-1), .int .i64 64] 3)) := j0.alloc _
            have z1 : SrcI (.slice (some ⟨E, 0, none⟩) 4 4) [qn, m, -1, 64] (x0.alloc (.cells #[.int .i64 qn, .int .i64 m, .int .i64 (-1), .int .i64 64] 3)) := SrcI.row (l := [qn, m, -1, 64]) (alloc_at' _ hE) rfl 4
            have lE : w2.heap.size ≤ E := by have := j0.size; omega
            have lE2 : E < (x0.alloc (.cells #[.int .i64 qn, .int .i64 m, .int .i64 (-1), .int .i64 64] 3)).heap.size := by simp [hE]
            refine hK.out _ _ (j1.mono (fun _ _ e => e.elim)) (fun hHeld => ?_)
            clear hK K
            try simp only [Act.put, List.setIfInBounds_toArray, List.set_cons_zero, List.set_cons_succ]
            refine h_step 10 (some 100) (Op.call { callee := Callee.value (Operand.func 13), args := #[Operand.tmp 93, Operand.tmp 99], argTypes := #[25, 31] }) 0 rfl rfl (by kernel_rfl) (fun _ _ _ K hK => ?_)
            go_simp
            try rw [hE]
            refine (kv_back S (hk.still j1) (.slice (some ⟨E, 0, none⟩) 4 4) [qn, m, -1, 64] (by simp) z1 (fun b e => by
              have : E = b := by simpa [Value.ownBlock] using e
              omega)).mono ?_
            rintro e w3 ⟨rfl, hk3, kp3⟩
            replace kp3 : Kept (fun n => n = N) w2 w3 := (j1.mono (fun _ _ e => e.elim)).trans kp3 (fun _ _ e => e)
            go_wp2_with fail
            refine hK.out _ _ (kp3.mono (fun _ _ e => .inl e)) (fun hHeld => ?_)
            clear hK K
            try simp only [Act.put, List.setIfInBounds_toArray, List.set_cons_zero, List.set_cons_succ]
            refine wpAnyH_done (by kernel_rfl) ?_ _
            have KT : ∀ w', Kept (RW R W) w3 w' → (w'.cell? ⟨T, 3, none⟩ = some (.pointer (some ⟨rq, 0, none⟩)) ∧ w'.cell? ⟨D, 2, none⟩ = some (.int .i64 qn)) :=
              fun w' hk' => have k4 := (kp3.mono (Y := fun n => n = N ∨ RW R W n) (fun _ _ e => .inl e)).trans hk' (fun _ _ e => .inr e); ⟨(KS _ k4).2.1, (KS _ k4).2.2⟩
            have hRW : R < w3.heap.size ∧ W < w3.heap.size := ⟨hk3.game.rv.r.lt, hk3.game.rv.w.lt⟩
            clear hHeld KS z1 lE lE2 j0 j1 hE
            have KS := KT
            clear KT
            go_wp2_with fail
            refine wp_region_held_drew (S := fun w' => Kept (RW R W) w3 w') (by kernel_rfl) ((Kept.refl _ _).drew) (fun hHeld => ?_)
            have j0 : Kept (fun _ => False) w3 w3.drew := (Kept.refl _ _).drew
            obtain ⟨x0, hx0⟩ : ∃ x0, w3.drew = x0 := ⟨_, rfl⟩
            rw [hx0] at j0 hHeld ⊢
            clear hx0
            refine h_take 0 (some 101) (Op.move (Operand.tmp 5)) 22 ?v53 rfl rfl (by kernel_rfl) (by kernel_rfl) (by kernel_rfl) (fun _ _ _ h => h) ?hy53 hHeld ?_
            case hy53 => (intro _ _ _ w hSw; have hcs := KS _ hSw; go_simp; try with_reducible rfl)
            simp only [Act.put, List.setIfInBounds_toArray, List.set_cons_zero, List.set_cons_succ]
            refine h_take 1 (some 102) (Op.nilCheck (Operand.tmp 101)) 0 ?v54 rfl rfl (by kernel_rfl) (by kernel_rfl) (by kernel_rfl) (fun _ _ _ h => h) ?hy54 hHeld ?_
            case hy54 => (intro _ _ _ w hSw; have hcs := KS _ hSw; go_simp; try with_reducible rfl)
            simp only [Act.put, List.setIfInBounds_toArray, List.set_cons_zero, List.set_cons_succ]
            refine h_take 2 (some 103) (Op.fieldAddr 29 (Operand.tmp 102) 3) 0 ?v55 rfl rfl (by kernel_rfl) (by kernel_rfl) (by kernel_rfl) (fun _ _ _ h => h) ?hy55 hHeld ?_
            case hy55 => (intro _ _ _ w hSw; have hcs := KS _ hSw; go_simp; try with_reducible rfl)
            simp only [Act.put, List.setIfInBounds_toArray, List.set_cons_zero, List.set_cons_succ]
            refine h_take 3 (some 104) (Op.load 27 (Operand.tmp 103)) 27 ?v56 rfl rfl (by kernel_rfl) (by kernel_rfl) (by kernel_rfl) (fun _ _ _ h => h) ?hy56 hHeld ?_
            case hy56 => (intro _ _ _ w hSw; have hcs := KS _ hSw; go_simp; try with_reducible rfl)
            simp only [Act.put, List.setIfInBounds_toArray, List.set_cons_zero, List.set_cons_succ]
            refine h_take 4 (some 105) (Op.fieldAddr 43 (Operand.tmp 7) 2) 0 ?v57 rfl rfl (by kernel_rfl) (by kernel_rfl) (by kernel_rfl) (fun _ _ _ h => h) ?hy57 hHeld ?_
            case hy57 => (intro _ _ _ w hSw; have hcs := KS _ hSw; go_simp; try with_reducible rfl)
            simp only [Act.put, List.setIfInBounds_toArray, List.set_cons_zero, List.set_cons_succ]
            refine h_take 5 (some 106) (Op.load 3 (Operand.tmp 105)) 3 ?v58 rfl rfl (by kernel_rfl) (by kernel_rfl) (by kernel_rfl) (fun _ _ _ h => h) ?hy58 hHeld ?_
            case hy58 => (intro _ _ _ w hSw; have hcs := KS _ hSw; go_simp; try with_reducible rfl)
            simp only [Act.put, List.setIfInBounds_toArray, List.set_cons_zero, List.set_cons_succ]
            refine h_take 6 (some 107) (Op.fieldAddr 43 (Operand.tmp 7) 2) 0 ?v59 rfl rfl (by kernel_rfl) (by kernel_rfl) (by kernel_rfl) (fun _ _ _ h => h) ?hy59 hHeld ?_
            case hy59 => (intro _ _ _ w hSw; have hcs := KS _ hSw; go_simp; try with_reducible rfl)
            simp only [Act.put, List.setIfInBounds_toArray, List.set_cons_zero, List.set_cons_succ]
            refine h_take 7 (some 108) (Op.load 3 (Operand.tmp 107)) 3 ?v60 rfl rfl (by kernel_rfl) (by kernel_rfl) (by kernel_rfl) (fun _ _ _ h => h) ?hy60 hHeld ?_
            case hy60 => (intro _ _ _ w hSw; have hcs := KS _ hSw; go_simp; try with_reducible rfl)
            simp only [Act.put, List.setIfInBounds_toArray, List.set_cons_zero, List.set_cons_succ]
            refine h_take 8 (some 109) (Op.binOp BinOp.add 3 (Operand.tmp 108) (Operand.const (Value.int IntKind.i64 1)) 3) 3 (.int .i64 m) rfl rfl (by kernel_rfl) (by kernel_rfl) (by kernel_rfl) (fun _ _ _ h => h) ?_ hHeld ?_
            · intro _ _ _ w hSw; have hcs := KS _ hSw; go_simp
            simp only [Act.put, List.setIfInBounds_toArray, List.set_cons_zero, List.set_cons_succ]
            refine h_step 9 (some 110) (Op.buildSlice 31 4 #[(0, Operand.tmp 106), (1, Operand.tmp 109), (2, Operand.const (Value.int IntKind.i64 (-1))), (3, Operand.const (Value.int IntKind.i64 64))]) 31 rfl rfl (by kernel_rfl) (fun _ _ _ K hK => ?_)
            go_simp
            obtain ⟨E, hE⟩ : ∃ E, x0.heap.size = E := ⟨_, rfl⟩
            have j1 : Kept (fun _ => False) w3 (x0.alloc (.cells #[.int .i64 qn, .int .i64 m, .int .i64 (-1), .int .i64 64] 3)) := j0.alloc _
            have z1 : SrcI (.slice (some ⟨E, 0, none⟩) 4 4) [qn, m, -1, 64] (x0.alloc (.cells #[.int .i64 qn, .int .i64 m, .int .i64 (-1), .int .i64 64] 3)) := SrcI.row (l := [qn, m, -1, 64]) (alloc_at' _ hE) rfl 4
            have lE : w3.heap.size ≤ E := by have := j0.size; omega
            have lE2 : E < (x0.alloc (.cells #[.int .i64 qn, .int .i64 m, .int .i64 (-1), .int .i64 64] 3)).heap.size := by simp [hE]
            refine hK.out _ _ (j1.mono (fun _ _ e => e.elim)) (fun hHeld => ?_)
            clear hK K
            try simp only [Act.put, List.setIfInBounds_toArray, List.set_cons_zero, List.set_cons_succ]
            refine h_step 10 (some 111) (Op.call { callee := Callee.value (Operand.func 18), args := #[Operand.tmp 104, Operand.tmp 110], argTypes := #[27, 31] }) 0 rfl rfl (by kernel_rfl) (fun _ _ _ K hK => ?_)
            go_simp
            try rw [hE]
            refine (kr_back (hk3.still j1) (.slice (some ⟨E, 0, none⟩) 4 4) [qn, m, -1, 64] (by simp) z1 (fun b e => by
              have : E = b := by simpa [Value.ownBlock] using e
              unfold RW
              omega)).mono ?_
            rintro e w4 ⟨rfl, hk4, kp4⟩
            replace kp4 : Kept (RW R W) w3 w4 := (j1.mono (fun _ _ e => e.elim)).trans kp4 (fun _ _ e => e)
            go_wp2_with fail
            refine hK.out _ _ (kp4) (fun hHeld => ?_)
            clear hK K
            try simp only [Act.put, List.setIfInBounds_toArray, List.set_cons_zero, List.set_cons_succ]
            refine wpAnyH_done (by kernel_rfl) ?_ _
            have k4 : Kept (fun n => n = N ∨ RW R W n) w2 w4 := (kp3.mono (fun _ _ e => .inl e)).trans kp4 (fun _ _ e => .inr e)
            have HN : Hid (PlayB w T p B q N rp rB rq R W D (200 + 100 * (r + 1)) f (baT f g [qn, m, -1, 64]) ⟨3, qp, qn⟩ w4) := ⟨hk4, hs2, k4.at hD (fun e => e.elim oD.1 oD.2.1)⟩
            clear hHeld KS kp3 kp4 k4 hk4 hk3 hk hs hs2 hD oD oT z1 lE lE2 j0 j1 hE hRW hm
            go_wp2
            go_meet
            case rel => exact ⟨⟨rfl, rfl, rfl, rfl, rfl⟩, _, _, _, _, _, _, _, HN.out⟩
          by_cases h4 : qk = 4
          · subst h4
            as_aux_lemma =>
            go_wp2_with fail
            refine (two_put hk hT).mono ?_
            rintro e w3 ⟨rfl, ⟨q', N', rq', R', W', h3⟩, hkp⟩
            have HN : Hid (PlayB w T p B q' N' rp rB rq' R' W' D (200 + 100 * (r + 1)) (putAll f (redoF g)) (fun _ => none) ⟨4, qp, qn⟩ w3) := ⟨h3, hs.redo.mono (by omega), hkp.at hD (by have := oD.2.2; omega)⟩
            clear hk hs hD oD oT h3 hkp
            go_wp2
            go_meet
            case rel => exact ⟨⟨rfl, rfl, rfl, rfl, rfl⟩, _, _, _, _, _, _, _, HN.out⟩
          ·
            as_aux_lemma =>
            have HN : Hid (PlayB w T p B q N rp rB rq R W D (200 + 100 * (r + 1)) f g ⟨qk, qp, qn⟩ w2) := ⟨hk, hs.mono (by omega), hD⟩
            clear hk hs hD oD oT
            go_wp2
            go_meet
            case rel => exact ⟨⟨rfl, rfl, rfl, rfl, rfl⟩, _, _, _, _, _, _, _, HN.out⟩
        case rest =>
          as_aux_lemma =>
          obtain ⟨⟨rfl, rfl, rfl, rfl, rfl⟩, q', N', rq', R', W', f', g', HG⟩ := hcut
          clear c0
          obtain ⟨hk, hs, -⟩ := HG.out
          clear HG
          go_wp2_with fail
          refine (two_same hk).mono ?_
          rintro e w7 ⟨rfl, hk7⟩
          have HN : Hid (KeepIn w T p B q' N' rp rB rq' R' W' f' f' g' g' w7 ∧ SmallB (200 + 100 * (r + 1)) f' g') := ⟨hk.still hk7, hs⟩
          clear hk hs hk7
          go_wp2
          go_roundw
          case rel =>
            exact ⟨r + 1, _, _, _, _, _, _, _, by go_num, by omega, by omega, HN.out⟩
          case measure => simp [intOf]; omega
      | false =>
        as_aux_lemma =>
        clear hz
        obtain ⟨hk, hs⟩ := HH.out
        clear HH
        go_wp2_with fail
        refine (two_put hk hT).mono ?_
        rintro e w3 ⟨rfl, ⟨q', N', rq', R', W', h3⟩, hkp⟩
        clear hk hs hkp
        go_wp2_with fail
        refine (two_stores h3).mono ?_
        rintro e w4 ⟨rfl, hk4⟩
        have H3 : Hid (Kept (fun _ => False) w w4) := h3.game.kept.thru hk4
        clear h3 hk4
        go_wp2_with fail
        refine (runs_of S.does w4 (HT.out.still H3.out)).mono ?_
        rintro e w5 ⟨rfl, hk5⟩
        have HK : Hid (Kept (fun _ => False) w w5) := H3.out.thru hk5
        clear H3 hk5
        go_wp2_with fail
        go_ret
        exact ⟨rfl, HK.out⟩
end Go.Proofs.YtbhpkjedkccdpaaDoor
