
/- What is done in one directory changes no other one, nor what its names say; no conditions. -/
import Derived.Test.YtkpcillgoeidaaaDirG
import Derived.Test.YtkpcillgoeidaaaOpenArgs
import Derived.Deep.CutBlock
namespace Go.Proofs.Ytkpcillgoeidaaa
open Go.RowKit
set_option maxRecDepth 100000
set_option linter.unusedSimpArgs false

set_option maxHeartbeats 4000000 in
theorem apart_law (ao : Option Addr) (len cap lb off : Nat) (Q : Nat → QA) (hao : 0 < len → ao = some ⟨lb, off, none⟩) (i0 : Int) (w : World) (hc : ∀ i, i < len → QAt w lb (off + i * 4) (Q i)) :
    Calls Try.prog 7 #[.slice ao len cap, .int .i64 i0] w fun e w' => e = .returned (.bool true) ∧ Kept (fun _ => False) w w' := by
  have HC : Hid (∀ i, i < len → QAt w lb (off + i * 4) (Q i)) := hc
  clear hc
  go_enter Try.func7, Try.ntmps7
  go_wp2_with fail
  refine (side_new w).mono ?_
  rintro e w1 ⟨T, p, B, q, N, rfl, h1, hT⟩
  have c1 := h1.t
  go_wp2_with fail
  refine (side_alloc h1 1).mono ?_
  rintro e w2 ⟨rfl, h2, -⟩
  rw [ra]
  change SideIn _ _ _ _ _ _ u1 _ at h2
  clear h1 c1
  have c1 := h2.t
  go_wp2_with fail
  refine (side_alloc h2 1).mono ?_
  rintro e w3 ⟨rfl, h3, -⟩
  rw [u_a]
  change SideIn _ _ _ _ _ _ u2 _ at h3
  clear h2 c1
  go_wp2_with fail
  refine (within_any i0 1 15 (by omega) (by omega) (by omega) w3).mono ?_
  rintro e w3' ⟨rfl, hw⟩
  subst hw
  obtain ⟨i, hi⟩ : ∃ i : Int, 1 + i0 % (15 - 1 + 1) = i := ⟨_, rfl⟩
  have hi1 : 1 ≤ i := by omega
  have hi2 : i < 16 := by omega
  rw [hi]
  clear hi
  obtain ⟨x1, x2, x3⟩ := u_at hi1 hi2
  have c1 := h3.t
  go_wp2_with fail
  refine (side_dadd h3 1 ⟨#[107, 101, 101, 112]⟩ (by decide) i).mono ?_
  rintro e w4 ⟨rfl, h4, -⟩
  rw [show addOk f0 u2 1 (bl ⟨#[107, 101, 101, 112]⟩) i = true from x1]
  change SideIn _ _ _ _ _ _ (u3 i) _ at h4
  clear h3 c1 x1
  have c1 := h4.t
  go_wp2_with fail
  refine (side_size h4 1).mono ?_
  rintro e w5 ⟨rfl, h5, -⟩
  obtain ⟨Z, hZ⟩ : ∃ Z, (findV f0 (u3 i) 1).s.size = Z := ⟨_, rfl⟩
  rw [hZ]
  have HX : Hid (foundE (dirE f0 (u3 i) 1) keepB = some i ∧ namesE (dirE f0 (u3 i) 1) = [keepB] ∧ (findV f0 (u3 i) 1).s.size = Z) := ⟨x2, x3, hZ⟩
  have H0 : Hid (SideIn w T p B q N (findT (u3 i) 1) w5 ∧ ApF i (findT (u3 i) 1)) := ⟨h5, (ap_new i).find 1⟩
  clear h4 h5 c1 x2 x3 hZ
  go_wp2_with fail
  go_loopw [12, 13, 14, 15] (fun v _ _ _ wr => ∃ (r : Nat) (g : VwF), v = .int .i64 r ∧ r ≤ len ∧ r ≤ 20 ∧ Hid (SideIn w T p B q N g wr ∧ ApF i g)) (fun v _ _ _ _ => 20 - (intOf v).toNat)
  case atStart => exact ⟨0, _, rfl, by omega, by omega, H0.out⟩
  case round =>
    clear H0
    obtain ⟨r, g, rfl, hr1, hr2, HH⟩ := hrel
    obtain ⟨z, hz⟩ : ∃ z : Bool, decide ((r : Int) < (len : Int) ∧ (r : Int) < 20) = z := ⟨_, rfl⟩
    go_upto_region 11 with fail
    go_cut [62] from 55 to 62 (fun v wx => v = .bool z ∧ wx = wr)
    case first =>
      as_aux_lemma =>
      by_cases p1 : (r : Int) < (len : Int)
      · by_cases p2 : (r : Int) < 20
        · have hz' : z = true := by rw [← hz]; simp [p1, p2]
          subst hz'
          clear hz
          go_wp2
          go_meet
          case rel => exact ⟨rfl, rfl⟩
        · have hz' : z = false := by rw [← hz]; simp [p1, p2]
          subst hz'
          clear hz
          go_wp2
          go_meet
          case rel => exact ⟨rfl, rfl⟩
      · have hz' : z = false := by rw [← hz]; simp [p1]
        subst hz'
        clear hz
        go_wp2
        go_meet
        case rel => exact ⟨rfl, rfl⟩
    case rest =>
      obtain ⟨rfl, hwc⟩ := hcut
      subst hwc
      cases z with
      | true =>
        as_aux_lemma =>
        simp only [decide_eq_true_eq] at hz
        obtain ⟨t1, t2⟩ := hz
        have hl1 : r < len := by omega
        have h0 := hao (by omega)
        subst h0
        have hq0 := HC.out r hl1
        obtain ⟨⟨qk, qd, qi, qs⟩, hqe⟩ : ∃ y, Q r = y := ⟨_, rfl⟩
        rw [hqe] at hq0
        have HQ : Hid (QAt w lb (off + r * 4) ⟨qk, qd, qi, qs⟩) := hq0
        obtain ⟨e0, e1, e2, e3⟩ := hq0.still HH.out.1.kept
        simp only at e0 e1 e2 e3
        clear hqe hq0 hao e0 e1 e2
        obtain ⟨t, ht⟩ : ∃ t, qs.extract 0 (min qs.size 14) = t := ⟨_, rfl⟩
        have hts : t.size ≤ 1000000 := by rw [← ht, ByteArray.size_extract]; omega
        go_upto_region 13 with fail
        go_cut [13] from 55 to 139 (fun v wx => v = .string t ∧ Hid (Kept (fun _ => False) wc wx))
        case first =>
          as_aux_lemma =>
          by_cases hm : (14 : Int) < qs.size
          · have e1 : qs.extract 0 14 = t := by rw [← ht]; congr 1; omega
            clear ht
            go_quiet (fail)
            have HK : Hid (Kept (fun _ => False) wc (wc.drewN nq)) := kept_drewN wc nq
            go_wp2
            go_meet
            case rel => exact ⟨rfl, HK.out⟩
          · have e1 : qs.extract 0 qs.size = t := by rw [← ht]; congr 1; omega
            clear ht
            go_quiet (fail)
            have HK : Hid (Kept (fun _ => False) wc (wc.drewN nq)) := kept_drewN wc nq
            go_wp2
            go_meet
            case rel => exact ⟨rfl, HK.out⟩
        case rest =>
          obtain ⟨rfl, hk⟩ := hcut
          have hS := HH.out.1.still hk.out
          have hA := HH.out.2
          obtain ⟨e0, e1, e2, e3⟩ := HQ.out.still hS.kept
          simp only at e0 e1 e2 e3
          clear hk HH ht
          go_upto_if 83 with fail
          go_cut [13] from 55 to 139 (fun v wx => v = .string t ∧ ∃ g', Hid (SideIn w T p B q N g' wx ∧ ApF i g'))
          case first =>
            as_aux_lemma =>
            by_cases h2 : qk = 2
            · subst h2
              have c1 := hS.t
              go_wp2_with fail
              refine (side_drm hS 2 t hts).mono ?_
              rintro e w6 ⟨rfl, h6, -⟩
              generalize (foundE (dirE f0 g 2) (bl t)).isSome = z1 at *
              have HN : Hid (SideIn w T p B q N (rmT f0 g 2 (bl t)) w6 ∧ ApF i (rmT f0 g 2 (bl t))) := ⟨h6, hA.rm _⟩
              clear h6 hS hA c1 e0 e1 e2 e3
              go_wp2
              go_meet
              case rel => exact ⟨rfl, _, HN.out⟩
            · have hlb : lb ≠ N := by have h1 := World.block_lt_of_cell? w _ HQ.out.1; have h2 := hS.nN; simp only at h1; omega
              have KS : ∀ w', Kept (fun n => n = N) wc w' → (w'.cell? ⟨T, 1, none⟩ = some (.pointer (some ⟨q, 0, none⟩)) ∧ w'.cell? ⟨lb, off + r * 4 + 2, none⟩ = some (.int .i64 qi)) :=
                fun w' hk' => ⟨hk'.cell hS.t hS.tn, hk'.cell e2 hlb⟩
              go_wp2_with fail
              refine wp_region_held_drew (S := fun w' => Kept (fun n => n = N) wc w') (by kernel_rfl) ((Kept.refl _ _).drew) (fun hHeld => ?_)
              refine h_take 0 (some 91) (Op.move (Operand.tmp 5)) 22 ?v1 rfl rfl (by kernel_rfl) (by kernel_rfl) (by kernel_rfl) (fun _ _ _ h => h) ?hy1 hHeld ?_
              case hy1 => (intro _ _ _ w hSw; have hcs := KS _ hSw; go_simp; try with_reducible rfl)
              simp only [Act.put, List.setIfInBounds_toArray, List.set_cons_zero, List.set_cons_succ]
              refine h_take 1 (some 92) (Op.nilCheck (Operand.tmp 91)) 0 ?v2 rfl rfl (by kernel_rfl) (by kernel_rfl) (by kernel_rfl) (fun _ _ _ h => h) ?hy2 hHeld ?_
              case hy2 => (intro _ _ _ w hSw; have hcs := KS _ hSw; go_simp; try with_reducible rfl)
              simp only [Act.put, List.setIfInBounds_toArray, List.set_cons_zero, List.set_cons_succ]
              refine h_take 2 (some 93) (Op.fieldAddr 31 (Operand.tmp 92) 1) 0 ?v3 rfl rfl (by kernel_rfl) (by kernel_rfl) (by kernel_rfl) (fun _ _ _ h => h) ?hy3 hHeld ?_
              case hy3 => (intro _ _ _ w hSw; have hcs := KS _ hSw; go_simp; try with_reducible rfl)
              simp only [Act.put, List.setIfInBounds_toArray, List.set_cons_zero, List.set_cons_succ]
              refine h_take 3 (some 94) (Op.load 27 (Operand.tmp 93)) 27 ?v4 rfl rfl (by kernel_rfl) (by kernel_rfl) (by kernel_rfl) (fun _ _ _ h => h) ?hy4 hHeld ?_
              case hy4 => (intro _ _ _ w hSw; have hcs := KS _ hSw; go_simp; try with_reducible rfl)
              simp only [Act.put, List.setIfInBounds_toArray, List.set_cons_zero, List.set_cons_succ]
              refine h_take 4 (some 95) (Op.move (Operand.tmp 8)) 3 ?v5 rfl rfl (by kernel_rfl) (by kernel_rfl) (by kernel_rfl) (fun _ _ _ h => h) ?hy5 hHeld ?_
              case hy5 => (intro _ _ _ w hSw; have hcs := KS _ hSw; go_simp; try with_reducible rfl)
              simp only [Act.put, List.setIfInBounds_toArray, List.set_cons_zero, List.set_cons_succ]
              refine h_take 5 (some 96) (Op.move (Operand.tmp 13)) 9 ?v6 rfl rfl (by kernel_rfl) (by kernel_rfl) (by kernel_rfl) (fun _ _ _ h => h) ?hy6 hHeld ?_
              case hy6 => (intro _ _ _ w hSw; have hcs := KS _ hSw; go_simp; try with_reducible rfl)
              simp only [Act.put, List.setIfInBounds_toArray, List.set_cons_zero, List.set_cons_succ]
              refine h_take 6 (some 97) (Op.move (Operand.tmp 0)) 40 ?v7 rfl rfl (by kernel_rfl) (by kernel_rfl) (by kernel_rfl) (fun _ _ _ h => h) ?hy7 hHeld ?_
              case hy7 => (intro _ _ _ w hSw; have hcs := KS _ hSw; go_simp; try with_reducible rfl)
              simp only [Act.put, List.setIfInBounds_toArray, List.set_cons_zero, List.set_cons_succ]
              refine h_take 7 (some 98) (Op.move (Operand.tmp 12)) 3 ?v8 rfl rfl (by kernel_rfl) (by kernel_rfl) (by kernel_rfl) (fun _ _ _ h => h) ?hy8 hHeld ?_
              case hy8 => (intro _ _ _ w hSw; have hcs := KS _ hSw; go_simp; try with_reducible rfl)
              simp only [Act.put, List.setIfInBounds_toArray, List.set_cons_zero, List.set_cons_succ]
              refine h_take 8 (some 99) (Op.indexAddr 40 (Operand.tmp 97) (Operand.tmp 98)) 0 ?v9 rfl rfl (by kernel_rfl) (by kernel_rfl) (by kernel_rfl) (fun _ _ _ h => h) ?hy9 hHeld ?_
              case hy9 => (intro _ _ _ w hSw; have hcs := KS _ hSw; go_simp; try with_reducible rfl)
              simp only [Act.put, List.setIfInBounds_toArray, List.set_cons_zero, List.set_cons_succ]
              refine h_take 9 (some 100) (Op.fieldAddr 42 (Operand.tmp 99) 2) 0 ?v10 rfl rfl (by kernel_rfl) (by kernel_rfl) (by kernel_rfl) (fun _ _ _ h => h) ?hy10 hHeld ?_
              case hy10 => (intro _ _ _ w hSw; have hcs := KS _ hSw; go_simp; try with_reducible rfl)
              simp only [Act.put, List.setIfInBounds_toArray, List.set_cons_zero, List.set_cons_succ]
              refine h_take 10 (some 101) (Op.load 3 (Operand.tmp 100)) 3 ?v11 rfl rfl (by kernel_rfl) (by kernel_rfl) (by kernel_rfl) (fun _ _ _ h => h) ?hy11 hHeld ?_
              case hy11 => (intro _ _ _ w hSw; have hcs := KS _ hSw; go_simp; try with_reducible rfl)
              simp only [Act.put, List.setIfInBounds_toArray, List.set_cons_zero, List.set_cons_succ]
              refine h_step 11 (some 102) (Op.call { callee := Callee.value (Operand.func 10), args := #[Operand.tmp 94, Operand.tmp 95, Operand.tmp 96, Operand.tmp 101], argTypes := #[27, 3, 9, 3] }) 4 rfl rfl (by kernel_rfl) (fun _ _ _ K hK => ?_)
              go_simp
              refine (side_dadd (hS.still (Kept.refl _ wc).drew) 2 t hts qi).mono ?_
              rintro e w6 ⟨rfl, h6, k6⟩
              replace k6 : Kept (fun n => n = N) wc w6 := (Kept.refl _ wc).drew.trans k6 (fun _ _ e => e)
              generalize addOk f0 g 2 (bl t) qi = z1 at *
              have HN : Hid (SideIn w T p B q N (addT f0 g 2 (bl t) qi) w6 ∧ ApF i (addT f0 g 2 (bl t) qi)) := ⟨h6, hA.add _ _⟩
              clear h6 e0 e1 e2 e3
              go_wp2_with fail
              refine hK.out _ _ (k6) (fun hHeld => ?_)
              clear hK K
              try simp only [Act.put, List.setIfInBounds_toArray, List.set_cons_zero, List.set_cons_succ]
              refine wpAnyH_done (by kernel_rfl) ?_ _
              clear hHeld KS k6 hS hA
              go_wp2
              go_meet
              case rel => exact ⟨rfl, _, HN.out⟩
          case rest =>
            as_aux_lemma =>
            obtain ⟨rfl, g', HG⟩ := hcut
            clear hS hA e0 e1 e2 e3
            have h1 := HG.out.1
            have hA := HG.out.2
            have HD : Hid (ApF i (findT (findT (findT g' 1) 1) 1)) := ((hA.find 1).find 1).find 1
            have hd1 := hA.dir
            have hd3 := ((hA.find 1).find 1).dir
            have hz2 := (hA.find 1).one
            obtain ⟨x2, x3, x4⟩ := HX.out
            clear HG hA
            have c1 := h1.t
            go_wp2_with fail
            refine (side_dfind h1 1 ⟨#[107, 101, 101, 112]⟩ (by decide)).mono ?_
            rintro e w6 ⟨rfl, h6, -⟩
            rw [hd1, show foundE (dirE f0 (u3 i) 1) (bl ⟨#[107, 101, 101, 112]⟩) = some i from x2, show foundV (some i) = .tuple #[.int .i64 i, .bool true] from rfl]
            clear h1 c1 hd1 x2
            have c1 := h6.t
            go_wp2_with fail
            refine (side_size h6 1).mono ?_
            rintro e w7 ⟨rfl, h7, -⟩
            rw [hz2, x4]
            clear h6 c1 hz2 x4
            have c1 := h7.t
            go_wp2_with fail
            refine (side_dnames h7 1).mono ?_
            rintro e w8 ⟨v8, rfl, hv8, h8, -⟩
            rw [hd3, x3] at hv8
            clear h7 c1 hd3 x3
            have kA : Kept (fun _ => False) w8 (w8.alloc (.cells #[.string ⟨#[107, 101, 101, 112]⟩] 9)) := (Kept.refl _ _).alloc _
            go_wp2_with fail
            refine (Nm.same_w v8 (.slice (some ⟨w8.heap.size, 0, none⟩) 1 1) [keepB] [keepB] (by decide) (by decide) _ (hv8.still kA) (Nm.SrcS.row (l := [keepB]) (alloc_at _ _) rfl 1)).mono ?_
            rintro e w9 ⟨rfl, hk9⟩
            have HN : Hid (SideIn w T p B q N (findT (findT (findT g' 1) 1) 1) w9 ∧ ApF i (findT (findT (findT g' 1) 1) 1)) := ⟨h8.still (kA.thru hk9), HD.out⟩
            clear h8 kA hk9 hv8 HD
            go_wp2
            go_roundw
            case rel => exact ⟨r + 1, _, by go_num, by omega, by omega, HN.out⟩
            case measure => simp [intOf]; omega
      | false =>
        as_aux_lemma =>
        clear hz
        have h1 := HH.out.1
        have hA := HH.out.2
        have c1 := h1.t
        clear HH
        go_wp2_with fail
        refine (side_type h1 2).mono ?_
        rintro e w6 ⟨rfl, h6, -⟩
        rw [hA.two]
        have H3 : Hid (Kept (fun _ => False) w w6) := h6.kept
        clear h1 h6 hA c1
        go_wp2_with fail
        refine (runs_w w6).mono ?_
        rintro e w7 ⟨rfl, hk7⟩
        have HK : Hid (Kept (fun _ => False) w w7) := H3.out.thru hk7
        clear H3 hk7
        go_wp2
        go_ret
        exact ⟨rfl, HK.out⟩
end Go.Proofs.Ytkpcillgoeidaaa
