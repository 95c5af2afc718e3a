
/- As many files are open as may be, each once, the least first; had again; what isn't open is refused; no conditions. -/
import Derived.Test.YtdgkhfhlbjpaoaaFiM
import Derived.Test.YtdgkhfhlbjpaoaaOpenArgs
import Derived.Deep.CutBlock
namespace Go.Proofs.Ytdgkhfhlbjpaoaa
open Go.RowKit
set_option maxRecDepth 100000
set_option linter.unusedSimpArgs false

theorem ManyF.like {S S' : Nat → Bool} {g : VwF} (h : ManyF S g) (hs : ∀ j, j < 12 → S' j = S j) : ManyF S' g := by
  obtain ⟨m, m1, m2, m3⟩ := h.tab
  exact ⟨⟨m, m1, m2, fun j hj => by rw [m3 j hj, hs j hj]⟩, fun i h1 h2 => h.fil i h1 (by rw [← hs i h1]; exact h2), h.is, h.lk⟩

structure ClIn (w0 : World) (T p B q N O : Nat) (g : VwF) (o : Int → Option Bool) (w : World) : Prop where
  side : SideIn w0 T p B q N g w
  own : MapIn iv bv O o w
  nN : N ≠ O
  nB : B ≠ O
  lo : w0.heap.size ≤ O

section
variable {w0 : World} {T p B q N O : Nat} {g g' : VwF} {o o' : Int → Option Bool} {w w' : World}
theorem ClIn.still (h : ClIn w0 T p B q N O g o w) (hk : Kept (fun _ => False) w w') : ClIn w0 T p B q N O g o w' := { h with side := h.side.still hk, own := h.own.still hk }
theorem ClIn.view (h : ClIn w0 T p B q N O g o w) (hs : SideIn w0 T p B q N g' w') (hk : Kept (fun n => n = N) w w') : ClIn w0 T p B q N O g' o w' := { h with side := hs, own := h.own.kept hk (fun e => h.nN e.symm) }
theorem ClIn.put (h : ClIn w0 T p B q N O g o w) (hm : MapIn iv bv O o' w') (hk : Kept (fun n => n = O) w w') : ClIn w0 T p B q N O g o' w' :=
  { h with
    own := hm
    side := { h.side with
      v := h.side.v.kept hk (fun e => h.own.off h.side.v.cell e) h.nN
      s := h.side.s.kept hk (fun e => h.own.off h.side.s.cell e) h.nB
      t := hk.cell h.side.t (fun e => by
        obtain ⟨es, clock, hb, _⟩ := h.own
        have ht := h.side.t
        simp only at e
        subst e
        simp [World.cell?, hb] at ht)
      kept := h.side.kept.trans hk (fun k h1 h2 => by have := h.lo; omega) } }
theorem look_b {O : Nat} {o : Int → Option Bool} {w : World} (h : MapIn iv bv O o w) (n : Int) : (Instr.lookup 58 (.map (some O)) (.int .i64 n) false).run Try.prog w = .ok (.bool ((o n).getD false)) w := by
  have := h.look keyok_iv Try.underlying58 (z := .bool false) (fun w => by kernel_rfl) n false
  unfold iv at this
  rw [this]
  cases o n <;> rfl
theorem ClIn.store (h : ClIn w0 T p B q N O g o w) (n : Int) : ∃ w', (Instr.mapUpdate 58 (.map (some O)) (.int .i64 n) (.bool true)).run Try.prog w = .ok () w' ∧ ClIn w0 T p B q N O g (upd o n true) w' := by
  obtain ⟨w', h1, h2, h3, -⟩ := h.own.store keyok_iv Try.underlying58 n true
  exact ⟨w', h1, h.put h2 h3⟩
end

/-- Which are closed. -/
def clS (o : Int → Option Bool) (j : Nat) : Bool := (o (j : Int)).getD false
theorem clS_upd (o : Int → Option Bool) (i j : Nat) : clS (upd o (i : Int) true) j = if j = i then true else clS o j := by
  unfold clS upd
  by_cases c : j = i
  · subst c; simp
  · rw [if_neg c, if_neg (by omega)]

set_option maxHeartbeats 4000000 in
theorem many_law (ao : Option Addr) (len cap lb off : Nat) (L : Nat → Int) (hao : 0 < len → ao = some ⟨lb, off, none⟩) (f : Int) (w : World) (hc : ∀ i, i < len → w.cell? ⟨lb, off + i, none⟩ = some (.int .i64 (L i))) :
    Calls Try.prog 6 #[.slice ao len cap, .int .i64 f] w fun e w' => e = .returned (.bool true) ∧ Kept (fun _ => False) w w' := by
  have HC : Hid (∀ i, i < len → w.cell? ⟨lb, off + i, none⟩ = some (.int .i64 (L i))) := hc
  clear hc
  go_enter Try.func6, Try.ntmps6
  go_wp2_with fail
  refine (side_new w).mono ?_
  rintro e w1 ⟨T, p, B, q, N, rfl, h1, hT⟩
  clear hT
  have c1 := h1.t
  go_wp2_with fail
  refine (side_alloc h1 2).mono ?_
  rintro e w2 ⟨rfl, h2, -⟩
  rw [ra1, show allocV 1 = .tuple #[.int .i64 1, .bool true] from rfl]
  change SideIn _ _ _ _ _ _ m1 _ at h2
  clear h1 c1
  go_wp2_with fail
  refine (side_change h2 1 1 0).mono ?_
  rintro e w3 ⟨rfl, h3, -⟩
  rw [many0.1]
  have H0 : Hid (∃ g, SideIn w T p B q N g w3 ∧ ManyF (fun j => decide (0 ≤ j)) g) := ⟨_, h3, many0.2.like (fun j _ => by simp)⟩
  clear h2 h3
  go_wp2_with fail
  go_loopw [9] (fun v wr => ∃ k : Nat, v = .int .i64 k ∧ k ≤ 12 ∧ Hid (∃ g, SideIn w T p B q N g wr ∧ ManyF (fun j => decide (k ≤ j)) g)) (fun v _ => 12 - (intOf v).toNat)
  case atStart => exact ⟨0, rfl, by omega, H0.out⟩
  case round =>
    clear H0
    obtain ⟨k, rfl, hk, HH⟩ := hrel
    by_cases hlt : k < 12
    · skip
      as_aux_lemma =>
      have t1 : (k : Int) < 12 := by omega
      obtain ⟨g, hS, hM⟩ := HH.out
      obtain ⟨ha, hM2⟩ := hM.open_ hlt (by simp) (fun j hj => by simp; omega) 1
      go_wp2_with fail
      refine (side_opn hS 1 1 1).mono ?_
      rintro e w4 ⟨rfl, h4, -⟩
      rw [ha, show opnV (k : Int) = .tuple #[.int .i64 k, .bool true] from by unfold opnV; rw [if_pos t1, decide_eq_true t1]]
      clear hS HH
      go_wp2_with fail
      refine (side_change h4 1 0 1).mono ?_
      rintro e w5 ⟨rfl, h5, -⟩
      rw [hM2.is]
      have HN : Hid (∃ g, SideIn w T p B q N g w5 ∧ ManyF (fun j => decide (k + 1 ≤ j)) g) := ⟨_, h5, (hM2.change 1).like (fun j _ => by
        by_cases c : j = k
        · subst c; simp
        · rw [if_neg c, decide_eq_decide]; omega)⟩
      clear h4 h5 hM hM2
      go_wp2
      exact ⟨⟨k + 1, by go_num, by omega, HN⟩, by simp [intOf]; omega⟩
    · skip
      as_aux_lemma =>
      obtain rfl : k = 12 := by omega
      obtain ⟨g, hS, hM⟩ := HH.out
      obtain ⟨ha, hM2⟩ := hM.full (fun j hj => by simp; omega) 1
      go_wp2_with fail
      refine (side_opn hS 1 1 1).mono ?_
      rintro e w4 ⟨rfl, h4, -⟩
      rw [ha, show opnV 12 = .tuple #[.int .i64 0, .bool false] from rfl]
      clear hS HH hM
      obtain ⟨O, hO⟩ : ∃ O : Nat, w4.heap.size = O := ⟨_, rfl⟩
      have H0 : Hid (∃ g o, ClIn w T p B q N O g o (w4.alloc (.map #[] 0)) ∧ ManyF (clS o) g) :=
        ⟨_, _, ⟨h4.still ((Kept.refl _ _).alloc _), MapIn.made hO, by have := h4.v.map.lt; omega, by have := h4.s.map.lt; omega, by have := h4.kept.size; omega⟩, hM2.like (fun j hj => by show (none : Option Bool).getD false = _; simp; omega)⟩
      clear h4 hM2
      have hmm := @run_makeMap Try.prog
      go_wp2_with fail
      clear hmm
      generalize w4.alloc (.map #[] 0) = w5 at *
      clear hO ha hk hlt
      go_loopw [15] (fun v wr => ∃ r : Nat, v = .int .i64 r ∧ r ≤ len ∧ r ≤ 10 ∧ Hid (∃ g o, ClIn w T p B q N O g o wr ∧ ManyF (clS o) g)) (fun v _ => 10 - (intOf v).toNat)
      case atStart => exact ⟨0, rfl, by omega, by omega, H0.out⟩
      case round =>
        clear H0
        obtain ⟨r, rfl, hr1, hr2, HH⟩ := hrel
        obtain ⟨z, hz⟩ : ∃ z : Bool, decide ((r : Int) < (len : Int) ∧ (r : Int) < 10) = z := ⟨_, rfl⟩
        go_upto_region 19 with fail
        go_cut [83] from 76 to 83 (fun v wx => v = .bool z ∧ wx = wr)
        case first =>
          as_aux_lemma =>
          by_cases p1 : (r : Int) < (len : Int)
          · by_cases p2 : (r : Int) < 10
            · have hz' : z = true := by rw [← hz]; simp [p1, p2]
              subst hz'
              clear hz
              go_wp2
              go_meet
              case rel => exact ⟨rfl, rfl⟩
            · have hz' : z = false := by rw [← hz]; simp [p1, p2]
              subst hz'
              clear hz
              go_wp2
              go_meet
              case rel => exact ⟨rfl, rfl⟩
          · have hz' : z = false := by rw [← hz]; simp [p1]
            subst hz'
            clear hz
            go_wp2
            go_meet
            case rel => exact ⟨rfl, rfl⟩
        case rest =>
          obtain ⟨rfl, hwc⟩ := hcut
          subst hwc
          cases z with
          | true =>
            as_aux_lemma =>
            simp only [decide_eq_true_eq] at hz
            obtain ⟨t1, t2⟩ := hz
            have hl1 : r < len := by omega
            have h0 := hao (by omega)
            subst h0
            obtain ⟨g, o, hS, hM⟩ := HH.out
            have e0 := hS.side.kept.cell (HC.out r hl1) (fun x => x)
            have HS : Hid (ClIn w T p B q N O g o wc ∧ ManyF (clS o) g) := ⟨hS, hM⟩
            clear HH hS hM hao
            go_wp2_with fail
            refine (within_any (L r) 0 11 (by omega) (by omega) (by omega) wc).mono ?_
            rintro e w6 ⟨rfl, hw⟩
            subst hw
            obtain ⟨n1, hn1⟩ : ∃ n1 : Nat, (n1 : Int) = 0 + L r % (11 - 0 + 1) ∧ n1 < 12 := ⟨(0 + L r % (11 - 0 + 1)).toNat, by omega, by omega⟩
            obtain ⟨hn1, hn2⟩ := hn1
            rw [← hn1]
            clear hn1 e0
            go_upto_region 22 with fail
            go_cut [97] from 91 to 97 (fun v wx => v = .bool false ∧ Hid (∃ g', ClIn w T p B q N O g' o wx ∧ ManyF (fun j => if j = n1 then true else clS o j) g'))
            case first =>
              as_aux_lemma =>
              obtain ⟨hS, hM⟩ := HS.out
              cases hb : clS o n1 with
              | false =>
                have hO : isO f0 g (n1 : Int) = true := by rw [hM.op hn2, hb]; rfl
                have HM2 : Hid (ManyF (fun j => if j = n1 then true else clS o j) (clsT f0 g (n1 : Int))) := hM.close hn2 hb
                have hL : ∀ w', Kept (fun n => n = N) w6 w' → (Instr.lookup 58 (.map (some O)) (.int .i64 (n1 : Int)) false).run Try.prog w' = .ok (.bool false) w' := fun w' hk => by
                  have := look_b (hS.own.kept hk (fun e => hS.nN e.symm)) (n1 : Int)
                  rw [this]
                  exact congrArg (fun b => Result.ok (Value.bool b) w') hb
                clear HS hM
                have KS : ∀ w', Kept (fun n => n = N) w6 w' → True := fun _ _ => trivial
                refine wp_region_held_drew (S := fun w' => Kept (fun n => n = N) w6 w') (by kernel_rfl) ((Kept.refl _ _).drew) (fun hHeld => ?_)
                refine h_take 0 (some 91) (Op.move (Operand.tmp 6)) 25 ?v1 rfl rfl (by kernel_rfl) (by kernel_rfl) (by kernel_rfl) (fun _ _ _ h => h) ?hy1 hHeld ?_
                case hy1 => (intro _ _ _ w hSw; have hcs := KS _ hSw; go_simp; try with_reducible rfl)
                simp only [Act.put, List.setIfInBounds_toArray, List.set_cons_zero, List.set_cons_succ]
                refine h_take 1 (some 92) (Op.move (Operand.tmp 16)) 3 ?v2 rfl rfl (by kernel_rfl) (by kernel_rfl) (by kernel_rfl) (fun _ _ _ h => h) ?hy2 hHeld ?_
                case hy2 => (intro _ _ _ w hSw; have hcs := KS _ hSw; go_simp; try with_reducible rfl)
                simp only [Act.put, List.setIfInBounds_toArray, List.set_cons_zero, List.set_cons_succ]
                refine h_take 3 (some 94) (Op.move (Operand.tmp 14)) 58 ?v3 rfl rfl (by kernel_rfl) (by kernel_rfl) (by kernel_rfl) (fun _ _ _ h => h) ?hy3 hHeld ?_
                case hy3 => (intro _ _ _ w hSw; have hcs := KS _ hSw; go_simp; try with_reducible rfl)
                simp only [Act.put, List.setIfInBounds_toArray, List.set_cons_zero, List.set_cons_succ]
                refine h_take 4 (some 95) (Op.move (Operand.tmp 16)) 3 ?v4 rfl rfl (by kernel_rfl) (by kernel_rfl) (by kernel_rfl) (fun _ _ _ h => h) ?hy4 hHeld ?_
                case hy4 => (intro _ _ _ w hSw; have hcs := KS _ hSw; go_simp; try with_reducible rfl)
                simp only [Act.put, List.setIfInBounds_toArray, List.set_cons_zero, List.set_cons_succ]
                refine h_take 5 (some 96) (Op.lookup 58 (Operand.tmp 94) (Operand.tmp 95) false) 4 (.bool false) rfl rfl (by kernel_rfl) (by kernel_rfl) (by kernel_rfl) (fun _ _ _ h => h) (fun _ _ _ w hSw => exec_look rfl rfl (hL w hSw)) hHeld ?_
                simp only [Act.put, List.setIfInBounds_toArray, List.set_cons_zero, List.set_cons_succ]
                refine h_step 2 (some 93) (Op.call { callee := Callee.value (Operand.func 14), args := #[Operand.tmp 91, Operand.tmp 92], argTypes := #[25, 3] }) 4 rfl rfl (by kernel_rfl) (fun _ _ _ K hK => ?_)
                go_simp
                refine (side_cls (hS.side.still (Kept.refl _ _).drew) (n1 : Int)).mono ?_
                rintro e w7 ⟨rfl, h7, k7⟩
                rw [hO]
                have k67 : Kept (fun n => n = N) w6 w7 := (Kept.drew (Kept.refl _ w6)).trans k7 (fun _ _ e => e)
                go_wp2_with fail
                refine hK.out _ _ (k67) (fun hHeld => ?_)
                clear hK K
                try simp only [Act.put, List.setIfInBounds_toArray, List.set_cons_zero, List.set_cons_succ]
                refine h_take 6 (some 97) (Op.binOp BinOp.eql 4 (Operand.tmp 93) (Operand.tmp 96) 4) 4 ?v5 rfl rfl (by kernel_rfl) (by kernel_rfl) (by kernel_rfl) (fun _ _ _ h => h) ?hy5 hHeld ?_
                case hy5 => (intro _ _ _ w hSw; have hcs := KS _ hSw; go_simp; try with_reducible rfl)
                simp only [Act.put, List.setIfInBounds_toArray, List.set_cons_zero, List.set_cons_succ]
                refine wpAnyH_done (by kernel_rfl) ?_ _
                go_wp2
                go_meet
                case rel => exact And.intro rfl ⟨_, hS.view h7 k67, HM2.out⟩
              | true =>
                obtain ⟨hO, hM2, -⟩ := hM.gone hn2 hb
                have HM2 : Hid (ManyF (fun j => if j = n1 then true else clS o j) (clsT f0 g (n1 : Int))) := hM2.like (fun j _ => by
                  by_cases c : j = n1
                  · subst c; rw [if_pos rfl, hb]
                  · rw [if_neg c])
                have hL : ∀ w', Kept (fun n => n = N) w6 w' → (Instr.lookup 58 (.map (some O)) (.int .i64 (n1 : Int)) false).run Try.prog w' = .ok (.bool true) w' := fun w' hk => by
                  have := look_b (hS.own.kept hk (fun e => hS.nN e.symm)) (n1 : Int)
                  rw [this]
                  exact congrArg (fun b => Result.ok (Value.bool b) w') hb
                clear HS hM hM2
                have KS : ∀ w', Kept (fun n => n = N) w6 w' → True := fun _ _ => trivial
                refine wp_region_held_drew (S := fun w' => Kept (fun n => n = N) w6 w') (by kernel_rfl) ((Kept.refl _ _).drew) (fun hHeld => ?_)
                refine h_take 0 (some 91) (Op.move (Operand.tmp 6)) 25 ?v6 rfl rfl (by kernel_rfl) (by kernel_rfl) (by kernel_rfl) (fun _ _ _ h => h) ?hy6 hHeld ?_
                case hy6 => (intro _ _ _ w hSw; have hcs := KS _ hSw; go_simp; try with_reducible rfl)
                simp only [Act.put, List.setIfInBounds_toArray, List.set_cons_zero, List.set_cons_succ]
                refine h_take 1 (some 92) (Op.move (Operand.tmp 16)) 3 ?v7 rfl rfl (by kernel_rfl) (by kernel_rfl) (by kernel_rfl) (fun _ _ _ h => h) ?hy7 hHeld ?_
                case hy7 => (intro _ _ _ w hSw; have hcs := KS _ hSw; go_simp; try with_reducible rfl)
                simp only [Act.put, List.setIfInBounds_toArray, List.set_cons_zero, List.set_cons_succ]
                refine h_take 3 (some 94) (Op.move (Operand.tmp 14)) 58 ?v8 rfl rfl (by kernel_rfl) (by kernel_rfl) (by kernel_rfl) (fun _ _ _ h => h) ?hy8 hHeld ?_
                case hy8 => (intro _ _ _ w hSw; have hcs := KS _ hSw; go_simp; try with_reducible rfl)
                simp only [Act.put, List.setIfInBounds_toArray, List.set_cons_zero, List.set_cons_succ]
                refine h_take 4 (some 95) (Op.move (Operand.tmp 16)) 3 ?v9 rfl rfl (by kernel_rfl) (by kernel_rfl) (by kernel_rfl) (fun _ _ _ h => h) ?hy9 hHeld ?_
                case hy9 => (intro _ _ _ w hSw; have hcs := KS _ hSw; go_simp; try with_reducible rfl)
                simp only [Act.put, List.setIfInBounds_toArray, List.set_cons_zero, List.set_cons_succ]
                refine h_take 5 (some 96) (Op.lookup 58 (Operand.tmp 94) (Operand.tmp 95) false) 4 (.bool true) rfl rfl (by kernel_rfl) (by kernel_rfl) (by kernel_rfl) (fun _ _ _ h => h) (fun _ _ _ w hSw => exec_look rfl rfl (hL w hSw)) hHeld ?_
                simp only [Act.put, List.setIfInBounds_toArray, List.set_cons_zero, List.set_cons_succ]
                refine h_step 2 (some 93) (Op.call { callee := Callee.value (Operand.func 14), args := #[Operand.tmp 91, Operand.tmp 92], argTypes := #[25, 3] }) 4 rfl rfl (by kernel_rfl) (fun _ _ _ K hK => ?_)
                go_simp
                refine (side_cls (hS.side.still (Kept.refl _ _).drew) (n1 : Int)).mono ?_
                rintro e w7 ⟨rfl, h7, k7⟩
                rw [hO]
                have k67 : Kept (fun n => n = N) w6 w7 := (Kept.drew (Kept.refl _ w6)).trans k7 (fun _ _ e => e)
                go_wp2_with fail
                refine hK.out _ _ (k67) (fun hHeld => ?_)
                clear hK K
                try simp only [Act.put, List.setIfInBounds_toArray, List.set_cons_zero, List.set_cons_succ]
                refine h_take 6 (some 97) (Op.binOp BinOp.eql 4 (Operand.tmp 93) (Operand.tmp 96) 4) 4 ?v10 rfl rfl (by kernel_rfl) (by kernel_rfl) (by kernel_rfl) (fun _ _ _ h => h) ?hy10 hHeld ?_
                case hy10 => (intro _ _ _ w hSw; have hcs := KS _ hSw; go_simp; try with_reducible rfl)
                simp only [Act.put, List.setIfInBounds_toArray, List.set_cons_zero, List.set_cons_succ]
                refine wpAnyH_done (by kernel_rfl) ?_ _
                go_wp2
                go_meet
                case rel => exact And.intro rfl ⟨_, hS.view h7 k67, HM2.out⟩
            case rest =>
              obtain ⟨rfl, HH⟩ := hcut
              obtain ⟨g2, hS, hM⟩ := HH.out
              obtain ⟨w7, hmu, hS2⟩ := hS.store (n1 : Int)
              have hM2 : ManyF (clS (upd o (n1 : Int) true)) g2 := hM.like (fun j _ => clS_upd o n1 j)
              obtain ⟨hg1, -, hg3⟩ := hM2.gone hn2 (by rw [clS_upd, if_pos rfl])
              clear HS HH hS hM
              go_wp2_with fail
              clear hmu
              refine (side_fis hS2.side (n1 : Int)).mono ?_
              rintro e w8 ⟨rfl, h8, k8⟩
              rw [hg1]
              have hS3 := hS2.view h8 k8
              have hM3 := hM2.look (n1 : Int)
              clear hS2 hg1 hg3 hM2 h8 k8
              obtain ⟨hg1, -, hg3⟩ := hM3.gone hn2 (by rw [clS_upd, if_pos rfl])
              go_wp2_with fail
              refine (side_dup hS3.side (n1 : Int)).mono ?_
              rintro e w9 ⟨rfl, h9, k9⟩
              rw [hg1]
              have HN : Hid (∃ g o, ClIn w T p B q N O g o w9 ∧ ManyF (clS o) g) := ⟨_, _, hS3.view h9 k9, hg3⟩
              clear hS3 hg1 hg3 hM3 h9 k9
              go_wp2
              exact ⟨⟨r + 1, by go_num, by omega, by omega, HN⟩, by simp [intOf]; omega⟩
          | false =>
            as_aux_lemma =>
            obtain ⟨g, o, hS, hM⟩ := HH.out
            have H0 : Hid (∃ g, ClIn w T p B q N O g o wc ∧ ManyF (fun j => decide (0 ≤ j) && clS o j) g) := ⟨g, hS, hM.like (fun j _ => by simp)⟩
            clear HH hS hM hz hr1 hr2 hao HC
            go_wp2_with fail
            go_loopw [17] (fun v wr => ∃ k : Nat, v = .int .i64 k ∧ k ≤ 12 ∧ Hid (∃ g, ClIn w T p B q N O g o wr ∧ ManyF (fun j => decide (k ≤ j) && clS o j) g)) (fun v _ => 12 - (intOf v).toNat)
            case atStart => exact ⟨0, rfl, by omega, H0.out⟩
            case round =>
              clear H0
              obtain ⟨k, rfl, hk, HH⟩ := hrel
              obtain ⟨g, hS, hM⟩ := HH.out
              clear HH
              by_cases hlt : k < 12
              · skip
                as_aux_lemma =>
                have t1 : (k : Int) < 12 := by omega
                have hL := look_b hS.own (k : Int)
                cases hb : (o (k : Int)).getD false with
                | false =>
                  rw [hb] at hL
                  have HN : Hid (∃ g, ClIn w T p B q N O g o wr ∧ ManyF (fun j => decide (k + 1 ≤ j) && clS o j) g) := ⟨g, hS, hM.like (fun j _ => by
                    by_cases c : j = k
                    · subst c; rw [show clS o j = false from hb]; simp
                    · rw [show decide (k + 1 ≤ j) = decide (k ≤ j) from by rw [decide_eq_decide]; omega])⟩
                  clear hS hM
                  go_wp2
                  exact ⟨⟨k + 1, by go_num, by omega, HN⟩, by simp [intOf]; omega⟩
                | true =>
                  rw [hb] at hL
                  obtain ⟨ha, hM2⟩ := hM.open_ hlt (by simp; exact hb) (fun j hj => by rw [decide_eq_false (by omega)]; rfl) 1
                  go_wp2_with fail
                  refine (side_opn hS.side 1 1 1).mono ?_
                  rintro e w4 ⟨rfl, h4, k4⟩
                  rw [ha, show opnV (k : Int) = .tuple #[.int .i64 k, .bool true] from by unfold opnV; rw [if_pos t1, decide_eq_true t1]]
                  have HN : Hid (∃ g, ClIn w T p B q N O g o w4 ∧ ManyF (fun j => decide (k + 1 ≤ j) && clS o j) g) := ⟨_, hS.view h4 k4, hM2.like (fun j _ => by
                    by_cases c : j = k
                    · subst c; rw [if_pos rfl, decide_eq_false (by omega)]; rfl
                    · rw [if_neg c, show decide (k + 1 ≤ j) = decide (k ≤ j) from by rw [decide_eq_decide]; omega])⟩
                  clear h4 k4 hM hM2 hS
                  go_wp2
                  exact ⟨⟨k + 1, by go_num, by omega, HN⟩, by simp [intOf]; omega⟩
              · skip
                as_aux_lemma =>
                obtain rfl : k = 12 := by omega
                have h0 := hS.side
                have hi := hM.is
                clear hS hM hlt hk
                go_wp2_with fail
                refine (within_any f 0 9 (by omega) (by omega) (by omega) wr).mono ?_
                rintro e w6 ⟨rfl, hw⟩
                subst hw
                obtain ⟨z, hz⟩ : ∃ z : Int, 0 + f % (9 - 0 + 1) = z := ⟨_, rfl⟩
                have z1 : 0 ≤ z := by omega
                have z2 : z ≤ 9 := by omega
                rw [hz]
                clear hz
                have HO := odd_file (g := g) (i := 12 + z) (by omega) 1
                have HP := odd_file (g := g) (i := -1 - (12 + z)) (by omega) 1
                go_wp2_with fail
                refine (side_frd h0 (12 + z) 1).mono ?_
                rintro e w7 ⟨rfl, h7, -⟩
                rw [HO.2.1] at h7 ⊢
                rw [show rdV ⟨ByteArray.empty, 1, g⟩ = .tuple #[.string ByteArray.empty, .int .i64 1] from rfl]
                clear h0
                go_wp2_with fail
                refine (side_fst h7 (-1 - (12 + z))).mono ?_
                rintro e w8 ⟨rfl, h8, -⟩
                rw [HP.2.2.1] at h8 ⊢
                rw [show stV ⟨0, 0, 0, 0, false, g⟩ = .tuple #[.agg (sc 0 0 0 0).toArray, .bool false] from rfl]
                clear h7
                obtain ⟨F, hF⟩ : ∃ F : Nat, w8.heap.size = F := ⟨_, rfl⟩
                have h9 := h8.still ((Kept.refl _ w8).alloc (.cells (sc 0 0 0 0).toArray 60))
                clear h8
                go_wp2_with (first | (refine list_wnew rfl wide_S _ _ rfl F rfl (sc 0 0 0 0) rfl _ rfl hF rfl (sc_one _ _ _ _) ?_))
                generalize w8.alloc (.cells (sc 0 0 0 0).toArray 60) = w9 at *
                clear hF
                refine (side_cls h9 (12 + z)).mono ?_
                rintro e w10 ⟨rfl, h10, -⟩
                rw [HO.1]
                rw [HO.2.2.2] at h10
                clear h9 HO HP
                go_wp2_with fail
                refine (side_is h10 1).mono ?_
                rintro e w11 ⟨rfl, h11, -⟩
                rw [hi]
                have HK : Hid (Kept (fun _ => False) w w11) := h11.kept
                clear h10 h11
                go_wp2_with fail
                refine (runs_w w11).mono ?_
                rintro e w12 ⟨rfl, k12⟩
                have HK2 : Hid (Kept (fun _ => False) w w12) := HK.out.thru k12
                clear k12 HK
                go_wp2_with fail
                go_ret
                exact ⟨rfl, HK2.out⟩
end Go.Proofs.Ytdgkhfhlbjpaoaa
