/- The statement on Sort and Within; no conditions but those of a slice that came in. -/
import Derived.Test.YtheflmomomknbaaSortsF
import Derived.Test.YtheflmomomknbaaSkips
import Derived.Deep.CutBlock
import Derived.BigRegion
namespace Go.Proofs.Ytheflmomomknbaa
open Go.RowKit

set_option maxRecDepth 100000 in
set_option maxHeartbeats 40000000 in
theorem sorts_w (ao : Option Addr) (len cap lb off : Nat) (K : Nat → Int × Int) (swap : Int) (hao : 0 < len → ao = some ⟨lb, off, none⟩) (hno : ao = none → cap = 0) (hlc : len ≤ cap) (_hcm : cap ≤ 9223372036854775807) (w : World)
    (hc : ∀ i, i < len → w.cell? ⟨lb, off + i * 2, none⟩ = some (.int .i64 (K i).1) ∧ w.cell? ⟨lb, off + i * 2 + 1, none⟩ = some (.int .i64 (K i).2)) :
    Calls Try.prog 6 #[.slice ao len cap, .int .i64 swap] w fun e w' => e = .returned (.bool true) ∧ Kept (fun _ => False) w w' := by
  obtain ⟨B, hB⟩ : ∃ B : Nat, w.heap.size = B := ⟨_, rfl⟩
  obtain ⟨N, hN, hm1, hm2⟩ : ∃ N : Nat, N ≤ len ∧ N ≤ 30 ∧ ((if (30 : Int) < (len : Int) then (30 : Int) else (len : Int)) = (N : Int) ∧ (if (len : Int) < (30 : Int) then (len : Int) else (30 : Int)) = (N : Int)) := by
    by_cases h : len ≤ 30
    · exact ⟨len, Nat.le_refl _, h, by split <;> omega, by split <;> omega⟩
    · exact ⟨30, by omega, by omega, by split <;> omega, by split <;> omega⟩
  obtain ⟨hm2, hm3⟩ := hm2
  obtain ⟨L, hL⟩ : ∃ L : Ks, (List.range N).map K = L := ⟨_, rfl⟩
  have HX : Hid (SrcK (.slice ao N cap) L (w.alloc (.cells #[] 23))) := by
    have := arg_src ao len cap lb off N K hao hno hN w hc
    rw [hL] at this
    exact this.kept ((Kept.refl _ _).alloc _)
  have HLN : Hid (L.length = N) := by show L.length = N; subst hL; simp
  have HO0 : Hid (OwnK w (.slice (some ⟨B, 0, none⟩) 0 0) [] (w.alloc (.cells #[] 23))) := OwnK.made (Kept.refl _ _) hB
  have tN : (N : Int) ≤ (cap : Int) := by omega
  clear hL hc hao hno
  go_enter Try.func6, Try.ntmps6
  go_wp2_with (at_builtin; refine list_app rfl _ _ rfl w [] L HO0.out HX.out (by simp [HLN.out]; omega) ?_; intro vo w1 ho1 hg1)
  have ho : OwnK w vo L w1 := by simpa using ho1
  clear hg1 ho1 HX HO0 hm2 hm3 tN hlc _hcm hN hB
  have RO := roomy_w vo L (by rw [HLN.out]; omega) w1 ho.src
  rw [HLN.out] at RO
  refine RO.mono ?_
  rintro e w2 ⟨E, rfl, hF⟩
  clear RO
  obtain ⟨oo, ob, of, oc, hvo, hso⟩ : ∃ oo ob of oc, vo = .slice oo N oc ∧ Hid ((0 < N → oo = some ⟨ob, of, none⟩) ∧ N ≤ oc) := by
    rcases ho.form with ⟨rfl, rfl⟩ | ⟨g, c, rfl, hgc⟩
    · have := HLN.out
      obtain rfl : N = 0 := by simpa using this.symm
      exact ⟨none, 0, 0, 0, rfl, (fun h => by omega), Nat.le_refl _⟩
    · rw [HLN.out] at hgc ⊢
      exact ⟨_, g, 0, c, rfl, (fun _ => rfl), hgc⟩
  have HO2 : Hid (SrcK vo L w2) := SrcK.kept ho.src hF.kept
  have ST := sort_w (.slice (some ⟨E, 0, none⟩) N (N + 80)) L (by rw [HLN.out]; omega) w2 (by
    have := SrcK.row (l := L) (l' := List.replicate 80 (77, 0)) hF.row (by simp [fill]) (N + 80)
    rw [HLN.out] at this
    exact this)
  subst hvo
  have HF : Hid (w2.heap[E]? = some (.cells (kcells (fill L 80)).toArray 23 (0, 0)) ∧ Kept (fun _ => False) w w2) := ⟨hF.row, ho.kept.thru hF.kept⟩
  clear hF ho
  go_wp2_with fail
  refine ST.mono ?_
  rintro e w3 ⟨vs, rfl, hS⟩
  clear ST
  have HD0 : Hid (Desk E (.slice oo N oc) vs L w w3) := ⟨SrcK.kept HO2.out hS.kept, hS.src, hS.kept.at HF.out.1 (fun x => x), HF.out.2.thru hS.kept⟩
  obtain ⟨M, hM, hM55⟩ : ∃ M : Nat, (sortOf L).length = M ∧ M ≤ 55 := ⟨_, rfl, upto_len _ _⟩
  obtain ⟨so, sg, sc, hvs, hss⟩ : ∃ so sg sc, vs = .slice so M sc ∧ Hid ((0 < M → so = some ⟨sg, 0, none⟩) ∧ M ≤ sc ∧ (M = 0 → so = none ∧ sc = 0 ∨ so = some ⟨sg, 0, none⟩)) := by
    rcases hS.form with ⟨rfl, h0⟩ | ⟨g, c, rfl, hgc⟩
    · rw [h0] at hM
      obtain rfl : M = 0 := by simpa using hM.symm
      exact ⟨none, 0, 0, rfl, (fun h => by omega), Nat.le_refl _, fun _ => .inl ⟨rfl, rfl⟩⟩
    · rw [hM] at hgc ⊢
      exact ⟨_, g, c, rfl, (fun _ => rfl), hgc, fun _ => .inr rfl⟩
  subst hvs
  have HM : Hid ((sortOf L).length = M) := hM
  clear hS HO2 HF hM
  go_wp2
  go_loopw [37] (fun s wr => ∃ i : Nat, s = .int .i64 i ∧ i ≤ M ∧ Hid (Desk E (.slice oo N oc) (.slice so M sc) L w wr)) (fun s _ => M - (intOf s).toNat)
  case atStart => exact ⟨0, rfl, Nat.zero_le _, HD0.out⟩
  case round =>
    obtain ⟨i, rfl, hi, HD⟩ := hrel
    clear HD0
    by_cases hlt : i < M
    · skip
      as_aux_lemma =>
      have t1 : (i : Int) < (M : Int) := by omega
      have hpos : 0 ≤ plc (kd (sortOf L) i) := (sort_at (l := L) (i := i) (by rw [HM.out]; exact hlt)).2
      have hmem : kd (sortOf L) i ∈ L := (sort_at (l := L) (i := i) (by rw [HM.out]; exact hlt)).1
      have HW : Hid (withinOf [kd (sortOf L) i] L = true) := within_sub (fun k hk => by rw [List.mem_singleton] at hk; rw [hk]; exact hmem)
      obtain rfl := hss.out.1 (by omega)
      obtain ⟨c0, c1⟩ := HD.out.s.at2 (by rw [HM.out]; exact hlt)
      rw [Nat.zero_add] at c0 c1
      obtain ⟨D, hD⟩ : ∃ D : Nat, wr.heap.size = D := ⟨_, rfl⟩
      have tb : sg < D := by have := World.block_lt_of_cell? _ _ c0; simpa [hD] using this
      clear hmem
      rcases i with _ | p
      · obtain ⟨⟨x, y⟩, hk⟩ : ∃ k, kd (sortOf L) 0 = k := ⟨_, rfl⟩
        rw [hk] at c0 c1 HW hpos
        simp only at c0 c1
        clear hk
        as_aux_lemma =>
        have HDA : Hid (Desk E (.slice oo N oc) (.slice (some ⟨sg, 0, none⟩) M sc) L w (wr.alloc (.cells #[.int .i64 x, .int .i64 y] 23))) := HD.out.still ((Kept.refl _ _).alloc _)
        have hV : (wr.alloc (.cells #[.int .i64 x, .int .i64 y] 23)).heap[D]? = some (.cells #[.int .i64 x, .int .i64 y] 23 (0, 0)) := alloc_at' _ hD
        have q1 : decide (plc (x, y) < 0) = false := by simp; omega
        clear HD hpos
        go_upto_region 7 with fail
        generalize wr.alloc (.cells #[.int .i64 x, .int .i64 y] 23) = wA at *
        have K0 : Kept (fun _ => False) wA wA.drew := (Kept.refl _ _).drew
        have KS : ∀ w', Kept (fun _ => False) wA w' → (w'.cell? ⟨D, 0, none⟩ = some (.int .i64 x) ∧ w'.cell? ⟨D, 1, none⟩ = some (.int .i64 y)) :=
          fun w' hk => ⟨hk.cell (cell_at hV rfl) (fun x => x), hk.cell (cell_at hV rfl) (fun x => x)⟩
        clear hV c0 c1
        refine wp_region_held_drew (S := fun w' => w'.cell? ⟨D, 0, none⟩ = some (.int .i64 x) ∧ w'.cell? ⟨D, 1, none⟩ = some (.int .i64 y)) (by kernel_rfl) (KS _ K0) (fun hHeld => ?_)
        refine h_take 0 (some 42) (.load 23 (.tmp 9)) 23 (.agg #[.int .i64 x, .int .i64 y]) rfl rfl (by kernel_rfl) (by kernel_rfl) (by kernel_rfl) (fun _ _ _ h => h) ?_ (by assumption) ?_
        · intro p af g w hSw; go_simp
        simp only [Act.put, List.setIfInBounds_toArray, List.set_cons_zero, List.set_cons_succ]
        refine h_step 1 (some 43) (.call { callee := .value (.func 10), args := #[.tmp 42], argTypes := #[23] }) 3 rfl rfl (by kernel_rfl) (fun p af g K hK => ?_)
        go_simp
        refine (place2 _ _ _).mono ?_
        rintro e w' ⟨rfl, hk⟩
        have hk' := K0.thru hk
        clear hk hHeld
        go_wp2_with fail
        refine hK.out _ _ (KS _ hk') (fun hHeld => ?_)
        clear hK K
        try simp only [Act.put, List.setIfInBounds_toArray, List.set_cons_zero, List.set_cons_succ]
        refine h_take 2 (some 44) (.binOp .lss 3 (.tmp 43) (.const (.int .i64 0)) 3) 4 (.bool false) rfl rfl (by kernel_rfl) (by kernel_rfl) (by kernel_rfl) (fun _ _ _ h => h) ?_ (by assumption) ?_
        · intro p af g w hSw; go_simp
        simp only [Act.put, List.setIfInBounds_toArray, List.set_cons_zero, List.set_cons_succ]
        refine h_take 3 (some 45) (.move (.tmp 44)) 4 (.bool false) rfl rfl (by kernel_rfl) (by kernel_rfl) (by kernel_rfl) (fun _ _ _ h => h) ?_ (by assumption) ?_
        · intro p af g w hSw; go_simp
        simp only [Act.put, List.setIfInBounds_toArray, List.set_cons_zero, List.set_cons_succ]
        refine h_take 4 (some 46) (.move (.tmp 8)) 3 (.int .i64 ((0 : Nat) : Int)) rfl rfl (by kernel_rfl) (by kernel_rfl) (by kernel_rfl) (fun _ _ _ h => h) ?_ (by assumption) ?_
        · intro p af g w hSw; go_simp
        simp only [Act.put, List.setIfInBounds_toArray, List.set_cons_zero, List.set_cons_succ]
        refine h_take 5 (some 47) (.binOp .gtr 3 (.tmp 46) (.const (.int .i64 0)) 3) 4 (.bool false) rfl rfl (by kernel_rfl) (by kernel_rfl) (by kernel_rfl) (fun _ _ _ h => h) ?_ (by assumption) ?_
        · intro p af g w hSw; go_simp
        simp only [Act.put, List.setIfInBounds_toArray, List.set_cons_zero, List.set_cons_succ]
        refine h_take 6 (some 48) (.move (.tmp 47)) 4 (.bool false) rfl rfl (by kernel_rfl) (by kernel_rfl) (by kernel_rfl) (fun _ _ _ h => h) ?_ (by assumption) ?_
        · intro p af g w hSw; go_simp
        simp only [Act.put, List.setIfInBounds_toArray, List.set_cons_zero, List.set_cons_succ]
        refine h_skip 7 (some 49) rfl rfl (by kernel_rfl) (by kernel_rfl) (by kernel_rfl) (fun _ _ _ h => h) (by assumption) ?_
        simp only [Act.put, List.setIfInBounds_toArray, List.set_cons_zero, List.set_cons_succ]
        refine h_skip 8 (some 50) rfl rfl (by kernel_rfl) (by kernel_rfl) (by kernel_rfl) (fun _ _ _ h => h) (by assumption) ?_
        simp only [Act.put, List.setIfInBounds_toArray, List.set_cons_zero, List.set_cons_succ]
        refine h_skip 9 (some 51) rfl rfl (by kernel_rfl) (by kernel_rfl) (by kernel_rfl) (fun _ _ _ h => h) (by assumption) ?_
        simp only [Act.put, List.setIfInBounds_toArray, List.set_cons_zero, List.set_cons_succ]
        refine h_skip 10 (some 52) rfl rfl (by kernel_rfl) (by kernel_rfl) (by kernel_rfl) (fun _ _ _ h => h) (by assumption) ?_
        simp only [Act.put, List.setIfInBounds_toArray, List.set_cons_zero, List.set_cons_succ]
        refine h_skip 11 (some 53) rfl rfl (by kernel_rfl) (by kernel_rfl) (by kernel_rfl) (fun _ _ _ h => h) (by assumption) ?_
        simp only [Act.put, List.setIfInBounds_toArray, List.set_cons_zero, List.set_cons_succ]
        refine h_skip 12 (some 54) rfl rfl (by kernel_rfl) (by kernel_rfl) (by kernel_rfl) (fun _ _ _ h => h) (by assumption) ?_
        simp only [Act.put, List.setIfInBounds_toArray, List.set_cons_zero, List.set_cons_succ]
        refine h_skip 13 (some 55) rfl rfl (by kernel_rfl) (by kernel_rfl) (by kernel_rfl) (fun _ _ _ h => h) (by assumption) ?_
        simp only [Act.put, List.setIfInBounds_toArray, List.set_cons_zero, List.set_cons_succ]
        refine h_skip 14 (some 56) rfl rfl (by kernel_rfl) (by kernel_rfl) (by kernel_rfl) (fun _ _ _ h => h) (by assumption) ?_
        simp only [Act.put, List.setIfInBounds_toArray, List.set_cons_zero, List.set_cons_succ]
        refine h_skip 15 (some 57) rfl rfl (by kernel_rfl) (by kernel_rfl) (by kernel_rfl) (fun _ _ _ h => h) (by assumption) ?_
        simp only [Act.put, List.setIfInBounds_toArray, List.set_cons_zero, List.set_cons_succ]
        refine h_take 16 (some 58) (.pick (.tmp 48) (.tmp 57) (.const (.bool false))) 4 (.bool false) rfl rfl (by kernel_rfl) (by kernel_rfl) (by kernel_rfl) (fun _ _ _ h => h) ?_ (by assumption) ?_
        · intro p af g w hSw; go_simp
        simp only [Act.put, List.setIfInBounds_toArray, List.set_cons_zero, List.set_cons_succ]
        refine h_take 17 (some 59) (.pick (.tmp 45) (.const (.bool true)) (.tmp 58)) 4 (.bool false) rfl rfl (by kernel_rfl) (by kernel_rfl) (by kernel_rfl) (fun _ _ _ h => h) ?_ (by assumption) ?_
        · intro p af g w hSw; go_simp
        simp only [Act.put, List.setIfInBounds_toArray, List.set_cons_zero, List.set_cons_succ]
        refine h_take 18 (some 60) (.move (.tmp 59)) 4 (.bool false) rfl rfl (by kernel_rfl) (by kernel_rfl) (by kernel_rfl) (fun _ _ _ h => h) ?_ (by assumption) ?_
        · intro p af g w hSw; go_simp
        simp only [Act.put, List.setIfInBounds_toArray, List.set_cons_zero, List.set_cons_succ]
        refine h_take 19 (some 61) (.load 23 (.tmp 9)) 23 (.agg #[.int .i64 x, .int .i64 y]) rfl rfl (by kernel_rfl) (by kernel_rfl) (by kernel_rfl) (fun _ _ _ h => h) ?_ (by assumption) ?_
        · intro p af g w hSw; go_simp
        simp only [Act.put, List.setIfInBounds_toArray, List.set_cons_zero, List.set_cons_succ]
        refine h_take 21 (some 63) (.move (.tmp 5)) 29 (.slice oo N oc) rfl rfl (by kernel_rfl) (by kernel_rfl) (by kernel_rfl) (fun _ _ _ h => h) ?_ (by assumption) ?_
        · intro p af g w hSw; go_simp
        simp only [Act.put, List.setIfInBounds_toArray, List.set_cons_zero, List.set_cons_succ]
        refine h_step 20 (some 62) (.buildSlice 29 1 #[(0, .tmp 61)]) 29 rfl rfl (by kernel_rfl) (fun p af g K hK => ?_)
        go_simp
        refine hK.out _ _ (KS _ (hk'.alloc _)) (fun hHeld => ?_)
        clear hK K
        try simp only [Act.put, List.setIfInBounds_toArray, List.set_cons_zero, List.set_cons_succ]
        refine h_step 22 (some 64) (.call { callee := .value (.func 18), args := #[.tmp 62, .tmp 63], argTypes := #[29, 29] }) 4 rfl rfl (by kernel_rfl) (fun p af g K hK => ?_)
        go_simp
        refine (within_w _ _ [(x, y)] L (by simp) (by rw [HLN.out]; omega) _ (SrcK.lone (alloc_at _ _)) (HDA.out.own.kept (hk'.alloc _))).mono ?_
        rintro e w5 ⟨rfl, hk⟩
        rw [HW.out]
        have hk5 := (hk'.alloc (.cells #[.int .i64 x, .int .i64 y] 23)).thru hk
        clear hk hHeld
        go_wp2_with fail
        refine hK.out _ _ (KS _ hk5) (fun hHeld => ?_)
        clear hK K
        try simp only [Act.put, List.setIfInBounds_toArray, List.set_cons_zero, List.set_cons_succ]
        refine h_take 23 (some 65) (.unOp .not 4 (.tmp 64)) 4 (.bool false) rfl rfl (by kernel_rfl) (by kernel_rfl) (by kernel_rfl) (fun _ _ _ h => h) ?_ (by assumption) ?_
        · intro p af g w hSw; go_simp
        simp only [Act.put, List.setIfInBounds_toArray, List.set_cons_zero, List.set_cons_succ]
        refine h_take 24 (some 66) (.pick (.tmp 60) (.const (.bool true)) (.tmp 65)) 4 (.bool false) rfl rfl (by kernel_rfl) (by kernel_rfl) (by kernel_rfl) (fun _ _ _ h => h) ?_ (by assumption) ?_
        · intro p af g w hSw; go_simp
        simp only [Act.put, List.setIfInBounds_toArray, List.set_cons_zero, List.set_cons_succ]
        refine wpAnyH_done (by kernel_rfl) ?_ _
        have HN : Hid _ := HDA.out.still hk5
        clear HDA KS K0 hk' hk5 hHeld
        go_wp2
        go_roundw
        case rel => exact ⟨0 + 1, by go_num, by omega, HN.out⟩
        case measure => simp [intOf]; omega
      · obtain ⟨d0, d1⟩ := HD.out.s.at2 (i := p) (by rw [HM.out]; omega)
        rw [Nat.zero_add] at d0 d1
        have hlt2 : plc (kd (sortOf L) p) < plc (kd (sortOf L) (p + 1)) := sort_step (by omega) (by rw [HM.out]; exact hlt)
        obtain ⟨⟨x, y⟩, hk⟩ : ∃ k, kd (sortOf L) (p + 1) = k := ⟨_, rfl⟩
        obtain ⟨⟨x', y'⟩, hk'⟩ : ∃ k, kd (sortOf L) p = k := ⟨_, rfl⟩
        rw [hk] at c0 c1 HW hpos hlt2
        rw [hk'] at d0 d1 hlt2
        simp only at c0 c1 d0 d1
        clear hk hk'
        as_aux_lemma =>
        have HDA : Hid (Desk E (.slice oo N oc) (.slice (some ⟨sg, 0, none⟩) M sc) L w (wr.alloc (.cells #[.int .i64 x, .int .i64 y] 23))) := HD.out.still ((Kept.refl _ _).alloc _)
        have hV : (wr.alloc (.cells #[.int .i64 x, .int .i64 y] 23)).heap[D]? = some (.cells #[.int .i64 x, .int .i64 y] 23 (0, 0)) := alloc_at' _ hD
        have e0 := ((Kept.refl (fun _ => False) wr).alloc (.cells #[.int .i64 x, .int .i64 y] 23)).cell d0 (fun x => x)
        have e1 := ((Kept.refl (fun _ => False) wr).alloc (.cells #[.int .i64 x, .int .i64 y] 23)).cell d1 (fun x => x)
        have q1 : decide (plc (x, y) < 0) = false := by simp; omega
        have q2 : decide (plc (x, y) ≤ plc (x', y')) = false := by simp; omega
        have tw : IntKind.i64.wrap ((p : Int) + 1 - 1) = (p : Int) := by rw [IntKind.wrap_i64]; omega
        have tw2 : IntKind.i64.wrap (p : Int) = (p : Int) := by rw [IntKind.wrap_i64]; omega
        have tp0 : (0 : Int) ≤ (p : Int) := by omega
        have tp1 : (0 : Int) < (p : Int) + 1 := by omega
        have tp2 : (p : Int) < (M : Int) := by omega
        clear HD d0 d1 hpos hlt2
        go_upto_region 7 with fail
        generalize wr.alloc (.cells #[.int .i64 x, .int .i64 y] 23) = wA at *
        have K0 : Kept (fun _ => False) wA wA.drew := (Kept.refl _ _).drew
        have KS : ∀ w', Kept (fun _ => False) wA w' → (w'.cell? ⟨D, 0, none⟩ = some (.int .i64 x) ∧ w'.cell? ⟨D, 1, none⟩ = some (.int .i64 y) ∧ w'.cell? ⟨sg, p * 2, none⟩ = some (.int .i64 x') ∧ w'.cell? ⟨sg, p * 2 + 1, none⟩ = some (.int .i64 y')) :=
          fun w' hk => ⟨hk.cell (cell_at hV rfl) (fun x => x), hk.cell (cell_at hV rfl) (fun x => x), hk.cell e0 (fun x => x), hk.cell e1 (fun x => x)⟩
        clear hV e0 e1 c0 c1
        go_region_held3 (fun w' => w'.cell? ⟨D, 0, none⟩ = some (.int .i64 x) ∧ w'.cell? ⟨D, 1, none⟩ = some (.int .i64 y) ∧ w'.cell? ⟨sg, p * 2, none⟩ = some (.int .i64 x') ∧ w'.cell? ⟨sg, p * 2 + 1, none⟩ = some (.int .i64 y'))
          (first | exact KS _ (by assumption) | exact KS _ (Kept.alloc (by assumption) _))
          (first
            | (go_at_call 10; refine (place2 _ _ _).mono ?_; rintro e w' ⟨rfl, hk⟩; have hk' := Kept.thru (a := wA) (by assumption) hk)
            | (go_at_call 18; refine (within_w _ _ [(x, y)] L (by simp) (by rw [HLN.out]; omega) _ (SrcK.lone (alloc_at _ _)) (HDA.out.own.kept (Kept.alloc (by assumption) _))).mono ?_; rintro e w' ⟨rfl, hk⟩; rw [HW.out]; have hk' := Kept.thru (a := wA) (Kept.alloc (by assumption) _) hk))
        have HN : Hid _ := HDA.out.still hk'
        clear HDA KS K0 hk hk'
        go_wp2
        go_roundw
        case rel => exact ⟨p + 1 + 1, by go_num, by omega, HN.out⟩
        case measure => simp [intOf]; omega
    · obtain rfl : M = i := by omega
      as_aux_lemma =>
      have IN := intact_w E (.slice oo N oc) L (by rw [HLN.out]; omega) wr HD.out.full HD.out.own
      rw [HLN.out] at IN
      go_wp2_with fail
      refine IN.mono ?_
      rintro e w4 ⟨rfl, hk4⟩
      clear IN
      have HD4 : Hid _ := HD.out.still hk4
      have W1 := within_w _ _ L (sortOf L) (by rw [HLN.out]; omega) (by rw [HM.out]; omega) w4 HD4.out.own HD4.out.s
      rw [within_self_sort] at W1
      clear hk4 HD
      go_wp2_with fail
      refine W1.mono ?_
      rintro e w5 ⟨rfl, hk5⟩
      have HD5 : Hid _ := HD4.out.still hk5
      have W2 := within_w _ _ (sortOf L) L (by rw [HM.out]; omega) (by rw [HLN.out]; omega) w5 HD5.out.s HD5.out.own
      rw [within_sort_self] at W2
      clear hk5 HD4 W1
      go_wp2_with fail
      refine W2.mono ?_
      rintro e w6 ⟨rfl, hk6⟩
      have HD6 : Hid _ := HD5.out.still hk6
      have ST := sort_w _ (sortOf L) (by rw [HM.out]; omega) w6 HD6.out.s
      rw [sort_sort] at ST
      clear hk6 HD5 W2
      go_wp2_with fail
      refine ST.mono ?_
      rintro e w7 ⟨v7, rfl, hS7⟩
      have HD7 : Hid _ := HD6.out.still hS7.kept
      have SM := same_w v7 _ (sortOf L) (by rw [HM.out]; omega) w7 hS7.src HD7.out.s
      clear hS7 HD6 ST
      go_wp2_with fail
      refine SM.mono ?_
      rintro e w8 ⟨rfl, hk8⟩
      have HD8 : Hid _ := HD7.out.still hk8
      clear hk8 HD7 SM
      go_wp2
      go_loopw [94] (fun s wr => ∃ i : Nat, s = .int .i64 i ∧ i ≤ N ∧ Hid (Desk E (.slice oo N oc) (.slice so M sc) L w wr)) (fun s _ => N - (intOf s).toNat)
      case atStart => exact ⟨0, rfl, Nat.zero_le _, HD8.out⟩
      case round =>
        obtain ⟨i, rfl, hi, HD⟩ := hrel
        clear HD8
        by_cases hlt : i < N
        · skip
          as_aux_lemma =>
          have t1 : (i : Int) < (N : Int) := by omega
          obtain rfl := hso.out.1 (by omega)
          obtain ⟨c0, c1⟩ := HD.out.own.at2 (i := i) (by rw [HLN.out]; exact hlt)
          have hmem : kd L i ∈ L := by rw [kd_get (by rw [HLN.out]; exact hlt)]; exact List.getElem_mem _
          obtain ⟨⟨x, y⟩, hk⟩ : ∃ k, kd L i = k := ⟨_, rfl⟩
          rw [hk] at c0 c1 hmem
          simp only at c0 c1
          have HXM : Hid ((x, y) ∈ L) := hmem
          clear hk hmem
          obtain ⟨D, hD⟩ : ∃ D : Nat, wr.heap.size = D := ⟨_, rfl⟩
          have tb : ob < D := by have := World.block_lt_of_cell? _ _ c0; simpa [hD] using this
          have HDA : Hid ((wr.alloc (.cells #[.int .i64 x, .int .i64 y] 23)).heap[D]? = some (.cells #[.int .i64 x, .int .i64 y] 23 (0, 0)) ∧ Desk E (.slice (some ⟨ob, of, none⟩) N oc) (.slice so M sc) L w (wr.alloc (.cells #[.int .i64 x, .int .i64 y] 23))) := ⟨alloc_at' _ hD, HD.out.still ((Kept.refl _ _).alloc _)⟩
          clear HD
          go_wp2
          generalize wr.alloc (.cells #[.int .i64 x, .int .i64 y] 23) = wA at *
          clear c0 c1
          go_loopw [12, 100] (fun t s wx => ∃ (j : Nat) (b : Bool), s = .int .i64 j ∧ t = .bool b ∧ j ≤ M ∧ Hid ((b = true ↔ ∃ q, q < j ∧ kd (sortOf L) q = (x, y)) ∧ wx.heap[D]? = some (.cells #[.int .i64 x, .int .i64 y] 23 (0, 0)) ∧ Desk E (.slice (some ⟨ob, of, none⟩) N oc) (.slice so M sc) L w wx)) (fun _ s _ => M - (intOf s).toNat)
          case atStart => exact ⟨0, false, rfl, rfl, Nat.zero_le _, ⟨fun h => by simp at h, fun ⟨q, hq, _⟩ => by omega⟩, HDA.out⟩
          case round =>
            obtain ⟨j, b, rfl, rfl, hj, HJ⟩ := hrel
            clear HDA
            have v0 := cell_at HJ.out.2.1 (i := 0) rfl
            have v1 := cell_at HJ.out.2.1 (i := 1) rfl
            by_cases hjl : j < M
            · skip
              as_aux_lemma =>
              have t2 : (j : Int) < (M : Int) := by omega
              obtain rfl := hss.out.1 (by omega)
              obtain ⟨s0, s1⟩ := HJ.out.2.2.s.at2 (i := j) (by rw [HM.out]; exact hjl)
              rw [Nat.zero_add] at s0 s1
              obtain ⟨⟨x', y'⟩, hk⟩ : ∃ k, kd (sortOf L) j = k := ⟨_, rfl⟩
              rw [hk] at s0 s1
              simp only at s0 s1
              have HKJ : Hid (kd (sortOf L) j = (x', y')) := hk
              clear hk
              obtain ⟨F, hF⟩ : ∃ F : Nat, wr.heap.size = F := ⟨_, rfl⟩
              have tF : D < F := by have := lt_at HJ.out.2.1; omega
              have tG : sg < F := by have := World.block_lt_of_cell? _ _ s0; simpa [hF] using this
              have HA : Hid ((wr.alloc (.cells #[.int .i64 x', .int .i64 y'] 23)).heap[D]? = some (.cells #[.int .i64 x, .int .i64 y] 23 (0, 0)) ∧ Desk E (.slice (some ⟨ob, of, none⟩) N oc) (.slice (some ⟨sg, 0, none⟩) M sc) L w (wr.alloc (.cells #[.int .i64 x', .int .i64 y'] 23))) := ⟨alloc_off HJ.out.2.1, HJ.out.2.2.still ((Kept.refl _ _).alloc _)⟩
              have HI : Hid (b = true ↔ ∃ q, q < j ∧ kd (sortOf L) q = (x, y)) := HJ.out.1
              clear HJ
              cases b with
              | true =>
                go_wp2
                go_roundw
                case rel =>
                  refine ⟨j + 1, true, by go_num, rfl, by omega, ⟨fun _ => ?_, fun _ => rfl⟩, HA.out⟩
                  obtain ⟨q, hq, e⟩ := HI.out.1 rfl
                  exact ⟨q, by omega, e⟩
                case measure => simp [intOf]; omega
              | false =>
                have HNO : Hid (∀ q, q < j → ¬ kd (sortOf L) q = (x, y)) := fun q hq e => by have := HI.out.2 ⟨q, hq, e⟩; cases this
                clear HI
                by_cases hx : x' = x
                · by_cases hy : y' = y
                  · subst hx hy
                    go_wp2
                    go_roundw
                    case rel => exact ⟨j + 1, true, by go_num, by simp, by omega, ⟨fun _ => ⟨j, by omega, HKJ.out⟩, fun _ => rfl⟩, HA.out⟩
                    case measure => simp [intOf]; omega
                  · subst hx
                    have hd : (y' == y) = false := by simpa using hy
                    go_wp2
                    go_roundw
                    case rel =>
                      refine ⟨j + 1, false, by go_num, by simp, by omega, ⟨(fun h => by cases h), fun ⟨q, hq, e⟩ => ?_⟩, HA.out⟩
                      rcases Nat.lt_or_ge q j with h | h
                      · exact absurd e (HNO.out q h)
                      · obtain rfl : q = j := by omega
                        rw [HKJ.out] at e
                        simp at e
                        exact absurd e hy
                    case measure => simp [intOf]; omega
                · have hd : (x' == x) = false := by simpa using hx
                  go_wp2
                  go_roundw
                  case rel =>
                    refine ⟨j + 1, false, by go_num, by simp, by omega, ⟨(fun h => by cases h), fun ⟨q, hq, e⟩ => ?_⟩, HA.out⟩
                    rcases Nat.lt_or_ge q j with h | h
                    · exact absurd e (HNO.out q h)
                    · obtain rfl : q = j := by omega
                      rw [HKJ.out] at e
                      simp at e
                      exact absurd e.1 hx
                  case measure => simp [intOf]; omega
            · obtain rfl : M = j := by omega
              as_aux_lemma =>
              have HQ : Hid (b = true ↔ 0 ≤ plc (x, y)) := by
                show b = true ↔ 0 ≤ plc (x, y)
                rw [HJ.out.1]
                constructor
                · rintro ⟨q, hq, e⟩
                  have := (sort_at (l := L) (i := q) (by rw [HM.out]; exact hq)).2
                  have e' : (sortOf L).getD q (0, 0) = (x, y) := e
                  rw [e'] at this
                  exact this
                · intro h
                  obtain ⟨q, hq, e⟩ := List.mem_iff_getElem.1 (sort_mem.2 ⟨HXM.out, h⟩)
                  exact ⟨q, by rw [← HM.out]; exact hq, by rw [kd_get hq]; exact e⟩
              have HA : Hid _ := HJ.out.2.2
              clear HJ
              go_wp2_with fail
              refine (place2 _ _ _).mono ?_
              rintro e w9 ⟨rfl, hk9⟩
              have HN : Hid _ := HA.out.still hk9
              clear hk9 HA v0 v1
              cases b with
              | true =>
                have h0 : 0 ≤ plc (x, y) := HQ.out.1 rfl
                clear HQ
                go_wp2
                go_roundw
                case rel => exact ⟨i + 1, by go_num, by omega, HN.out⟩
                case measure => simp [intOf]; omega
              | false =>
                have h0 : decide (0 ≤ plc (x, y)) = false := by
                  rw [decide_eq_false_iff_not]
                  intro h
                  have := HQ.out.2 h
                  cases this
                clear HQ
                go_wp2
                go_roundw
                case rel => exact ⟨i + 1, by go_num, by omega, HN.out⟩
                case measure => simp [intOf]; omega
        · obtain rfl : N = i := by omega
          as_aux_lemma =>
          generalize wr = wq at *
          obtain ⟨G, hG⟩ : ∃ G : Nat, wq.heap.size = G := ⟨_, rfl⟩
          have HX : Hid (SrcK (.slice oo N oc) L (wq.alloc (.cells #[] 23))) := HD.out.own.kept ((Kept.refl _ _).alloc _)
          have HO0 : Hid (OwnK wq (.slice (some ⟨G, 0, none⟩) 0 0) [] (wq.alloc (.cells #[] 23))) := OwnK.made (Kept.refl _ _) hG
          go_wp2_with (at_builtin; refine list_app rfl _ _ rfl wq [] L HO0.out HX.out (by simp [HLN.out]; omega) ?_; intro vb w10 ho1 hg1; obtain ⟨bo, bg, bc, hvb, hsb⟩ := own_shape ho1 HLN.out; subst hvb)
          have HB : Hid (OwnK wq (.slice bo N bc) (rv L 0) w10) := by
            show OwnK wq (.slice bo N bc) (rv L 0) w10
            rw [rv_zero]; simpa using ho1
          clear ho1 hg1 HX HO0 hG
          try go_wp2
          go_loopw [16, 17] (fun s t wx => ∃ p : Nat, s = .int .i64 p ∧ t = .int .i64 ((N : Int) - 1 - (p : Int)) ∧ p ≤ N ∧ Hid (OwnK wq (.slice bo N bc) (rv L p) wx)) (fun s _ _ => N - (intOf s).toNat)
          case atStart => exact ⟨0, rfl, by simp, Nat.zero_le _, HB.out⟩
          case round =>
            obtain ⟨p, rfl, rfl, hp, HP⟩ := hrel
            clear HB
            by_cases hpq : p < N - 1 - p
            · skip
              as_aux_lemma =>
              obtain rfl := hsb.out (by omega)
              obtain ⟨q, hq⟩ : ∃ q : Nat, q = N - 1 - p := ⟨_, rfl⟩
              have tq : ((N : Int) - 1 - (p : Int)) = (q : Int) := by omega
              have hrl := rv_len L p
              rw [HLN.out] at hrl
              obtain ⟨p0, p1⟩ := HP.out.src.at2 (i := p) (by omega)
              obtain ⟨q0, q1⟩ := HP.out.src.at2 (i := q) (by omega)
              have hz : wr.ownsRow wq.heap.size 23 2 (.slice (some ⟨bg, 0, none⟩) N bc) N (kcells (rv L p)) := by have := HP.out.own; rw [hrl] at this; exact this
              have f0 := hz.frozenAt (p * 2)
              have f1 := hz.frozenAt (p * 2 + 1)
              have f2 := hz.frozenAt (q * 2)
              have f3 := hz.frozenAt (q * 2 + 1)
              rw [Nat.zero_add] at p0 p1 q0 q1
              obtain ⟨⟨x, y⟩, hkp⟩ : ∃ k, kd (rv L p) p = k := ⟨_, rfl⟩
              obtain ⟨⟨x', y'⟩, hkq⟩ : ∃ k, kd (rv L p) q = k := ⟨_, rfl⟩
              rw [hkp] at p0 p1
              rw [hkq] at q0 q1
              simp only at p0 p1 q0 q1
              have HN : Hid (OwnK wq (.slice (some ⟨bg, 0, none⟩) N bc) (rv L (p + 1)) _) := (HP.out.put (i := p) x' y' hrl rfl).put (i := q) x y (by simp [hrl]) (by
                rw [← rv_next L (i := p) (by rw [HLN.out]; omega), HLN.out, ← hq, hkp, hkq])
              rw [tq]
              have t1 : (p : Int) < (q : Int) := by omega
              have t2 : (q : Int) < (N : Int) := by omega
              have t3 : (p : Int) < (N : Int) := by omega
              have n1 : ¬ p * 2 = q * 2 := by omega
              have n2 : ¬ p * 2 = q * 2 + 1 := by omega
              have n3 : ¬ p * 2 + 1 = q * 2 := by omega
              have n4 : ¬ p * 2 + 1 = q * 2 + 1 := by omega
              have n5 : ¬ q * 2 = p * 2 := by omega
              have n6 : ¬ q * 2 = p * 2 + 1 := by omega
              have n7 : ¬ q * 2 + 1 = p * 2 := by omega
              have n8 : ¬ q * 2 + 1 = p * 2 + 1 := by omega
              have HQ : Hid _ := hq
              clear HP hz hkp hkq tq hq
              go_wp2_with fail
              go_region
              have HN2 : Hid (OwnK wq (.slice (some ⟨bg, 0, none⟩) N bc) (rv L (p + 1)) _) := HN.out.still ((Kept.refl _ _).drew)
              clear HN
              go_wp2
              go_roundw
              case rel => exact ⟨p + 1, by go_num, by rw [show (q : Int) - 1 = (N : Int) - 1 - ((p + 1 : Nat) : Int) by have := HQ.out; omega], by omega, HN2.out⟩
              case measure => simp [intOf]; omega
            · have HR : Hid (OwnK wq (.slice bo N bc) L.reverse wr) := by
                have := HP.out
                rw [rv_end L (by rw [HLN.out]; exact hpq)] at this
                exact this
              clear HP
              have t9 : ¬ (p : Int) < (N : Int) - 1 - (p : Int) := by omega
              as_aux_lemma =>
              have HT : Hid (Desk E (.slice oo N oc) (.slice so M sc) L w wr ∧ SrcK (.slice bo N bc) L.reverse wr) := ⟨HD.out.still HR.out.kept, HR.out.src⟩
              clear HR HD
              generalize wr = wz at *
              by_cases hM0 : M = 0
              · subst hM0
                as_aux_lemma =>
                have SR := sort_w _ L.reverse (by simp [HLN.out]; omega) _ HT.out.2
                rw [sort_reverse] at SR
                go_wp2_with fail
                refine SR.mono ?_
                rintro e w30 ⟨v30, rfl, h30⟩
                have HS := HT.out.1.still h30.kept
                have SM := same_w v30 _ (sortOf L) (by rw [HM.out]; omega) w30 h30.src HS.s
                have HK : Hid (Kept (fun _ => False) w w30) := HS.kept
                clear SR h30 HS HT
                go_wp2_with fail
                refine SM.mono ?_
                rintro e w31 ⟨rfl, hk31⟩
                have HK2 : Hid (Kept (fun _ => False) w w31) := HK.out.thru hk31
                have WN := within_w (.slice none 0 0) (.slice none 0 0) [] [] (by simp) (by simp) w31 (SrcK.none _) (SrcK.none _)
                rw [within_nil] at WN
                clear hk31 SM HK
                go_wp2_with fail
                refine WN.mono ?_
                rintro e w32 ⟨rfl, hk32⟩
                have HK3 : Hid (Kept (fun _ => False) w w32) := HK2.out.thru hk32
                have RW := runs_w w32
                clear hk32 WN HK2
                go_wp2_with fail
                refine RW.mono ?_
                rintro e w33 ⟨rfl, hk33⟩
                have HK4 : Hid (Kept (fun _ => False) w w33) := HK3.out.thru hk33
                clear hk33 RW HK3
                go_wp2
                go_ret
                exact ⟨rfl, HK4.out⟩
              · have tM : (0 : Int) < (M : Int) := by omega
                obtain ⟨m, hm⟩ : ∃ m : Nat, M = m + 1 := ⟨M - 1, by omega⟩
                obtain rfl := hss.out.1 (by omega)
                obtain ⟨r, hr, hrm⟩ : ∃ r : Nat, 0 + swap % ((m : Int) - 0 + 1) = r ∧ r < m + 1 := ⟨(swap % ((m : Int) + 1)).toNat, by rw [show (m : Int) - 0 + 1 = m + 1 by omega]; have := Int.emod_nonneg swap (show (m : Int) + 1 ≠ 0 by omega); omega, by have := Int.emod_nonneg swap (show (m : Int) + 1 ≠ 0 by omega); have := Int.emod_lt_of_pos swap (show (0 : Int) < (m : Int) + 1 by omega); omega⟩
                have hsc : M ≤ sc := hss.out.2.1
                subst hm
                go_wp2_with fail
                refine (within_any swap 0 m (by decide) (by omega) (by omega) _).mono ?_
                rintro e w20 ⟨rfl, hw20⟩
                have hw21 := hw20.symm
                subst hw21
                simp only [hr]
                clear hr
                as_aux_lemma =>
                obtain ⟨E', hE⟩ : ∃ E' : Nat, wz.heap.size = E' := ⟨_, rfl⟩
                have tp0 : (0 : Int) ≤ (r : Int) := by omega
                have tpc : (r : Int) ≤ (sc : Int) := by omega
                have tq0 : (0 : Int) ≤ (r : Int) + 1 := by omega
                have tqm : (r : Int) + 1 ≤ (m : Int) + 1 := by omega
                have tpq : (r : Int) ≤ (r : Int) + 1 := by omega
                have tqc : (r : Int) + 1 ≤ (sc : Int) := by omega
                have hwp : IntKind.i64.wrap ((r : Int) + 1) = (r : Int) + 1 := by rw [IntKind.wrap_i64]; omega
                have hml : (sortOf L).length = m + 1 := HM.out
                have K0 : Kept (fun _ => False) wz wz.drew := (Kept.refl _ wz).drew
                have OA : OwnK wz (.slice (some ⟨E', 0, none⟩) 0 0) [] (wz.alloc (.cells #[] 23)).drew := OwnK.made K0 hE
                have L1 : ([] : Ks).length + ((sortOf L).take r).length ≤ 1000000 := by simp <;> omega
                have L2 : ((sortOf L).take r).length + ((sortOf L).drop (r + 1)).length ≤ 1000000 := by simp <;> omega
                by_cases hcq : sc = r + 1
                · obtain rfl : r = m := by omega
                  subst hcq
                  have SL : SrcK (.slice (some ⟨sg, 0, none⟩) r (r + 1)) ((sortOf L).take r) wz := by
                    have := SrcK.part HT.out.1.s 0 r (r + 1) 0 (by omega) (by omega)
                    simpa using this
                  have SR : SrcK (.slice (some ⟨sg, 0, none⟩) 0 0) ((sortOf L).drop (r + 1)) wz := by
                    have := SrcK.part HT.out.1.s 0 0 0 0 (by omega) (by omega)
                    rw [List.drop_eq_nil_of_le (by omega)]
                    simpa using this
                  clear hml
                  go_wp2_with fail
                  go_region_held3 (fun _ => True) (exact True.intro)
                    (first
                      | (refine step_old (by rfl) (.tmp 152) (.tmp 155) (by rfl) wz [] ((sortOf L).take r) OA SL L1 ?_; intro v156 w156 h156 g156; rw [List.nil_append] at h156)
                      | (refine step_old (by rfl) (.tmp 156) (.tmp 160) (by rfl) wz ((sortOf L).take r) ((sortOf L).drop (r + 1)) h156 SR L2 ?_; intro v161 w161 h161 g161))
                  all_goals
                    as_aux_lemma =>
                    have HC : Hid (Desk E _ _ L w w161 ∧ SrcK (.slice bo N bc) L.reverse w161 ∧ SrcK v161 ((sortOf L).take r ++ (sortOf L).drop (r + 1)) w161) := ⟨HT.out.1.still h161.kept, HT.out.2.kept h161.kept, h161.src⟩
                    clear g156 g161 h156 h161 OA SL SR L1 L2 K0 HT hE
                    have hll : ((sortOf L).take r ++ (sortOf L).drop (r + 1)).length ≤ 1000000 := by
                      simp only [List.length_append, List.length_take, List.length_drop, HM.out]; omega
                    have WA := within_w _ v161 (sortOf L) ((sortOf L).take r ++ (sortOf L).drop (r + 1)) (by rw [HM.out]; omega) hll w161 HC.out.1.s HC.out.2.2
                    rw [within_less (by rw [HM.out]; omega)] at WA
                    go_wp2_with fail
                    refine WA.mono ?_
                    rintro e w162 ⟨rfl, hk⟩
                    have HC2 : Hid (Desk E _ _ L w w162 ∧ SrcK (.slice bo N bc) L.reverse w162 ∧ SrcK v161 ((sortOf L).take r ++ (sortOf L).drop (r + 1)) w162) := ⟨HC.out.1.still hk, HC.out.2.1.kept hk, HC.out.2.2.kept hk⟩
                    have WB := within_w v161 _ ((sortOf L).take r ++ (sortOf L).drop (r + 1)) (sortOf L) hll (by rw [HM.out]; omega) w162 HC2.out.2.2 HC2.out.1.s
                    rw [less_within] at WB
                    clear WA hk HC hll
                    go_wp2_with fail
                    refine WB.mono ?_
                    rintro e w163 ⟨rfl, hk⟩
                    have HT : Hid (Desk E _ _ L w w163 ∧ SrcK (.slice bo N bc) L.reverse w163) := ⟨HC2.out.1.still hk, HC2.out.2.1.kept hk⟩
                    clear WB hk HC2
                    as_aux_lemma =>
                    have SR := sort_w _ L.reverse (by simp [HLN.out]; omega) _ HT.out.2
                    rw [sort_reverse] at SR
                    go_wp2_with fail
                    refine SR.mono ?_
                    rintro e w30 ⟨v30, rfl, h30⟩
                    have HS := HT.out.1.still h30.kept
                    have SM := same_w v30 _ (sortOf L) (by rw [HM.out]; omega) w30 h30.src HS.s
                    have HK : Hid (Kept (fun _ => False) w w30) := HS.kept
                    clear SR h30 HS HT
                    go_wp2_with fail
                    refine SM.mono ?_
                    rintro e w31 ⟨rfl, hk31⟩
                    have HK2 : Hid (Kept (fun _ => False) w w31) := HK.out.thru hk31
                    have WN := within_w (.slice none 0 0) (.slice none 0 0) [] [] (by simp) (by simp) w31 (SrcK.none _) (SrcK.none _)
                    rw [within_nil] at WN
                    clear hk31 SM HK
                    go_wp2_with fail
                    refine WN.mono ?_
                    rintro e w32 ⟨rfl, hk32⟩
                    have HK3 : Hid (Kept (fun _ => False) w w32) := HK2.out.thru hk32
                    have RW := runs_w w32
                    clear hk32 WN HK2
                    go_wp2_with fail
                    refine RW.mono ?_
                    rintro e w33 ⟨rfl, hk33⟩
                    have HK4 : Hid (Kept (fun _ => False) w w33) := HK3.out.thru hk33
                    clear hk33 RW HK3
                    go_wp2
                    go_ret
                    exact ⟨rfl, HK4.out⟩
                · have SL : SrcK (.slice (some ⟨sg, 0, none⟩) r sc) ((sortOf L).take r) wz := by
                    have := SrcK.part HT.out.1.s 0 r sc 0 (by omega) (by omega)
                    simpa using this
                  have SR : SrcK (.slice (some ⟨sg, (r + 1) * 2, none⟩) (m - r) (sc - (r + 1))) ((sortOf L).drop (r + 1)) wz := by
                    have := SrcK.part HT.out.1.s (r + 1) (m - r) (sc - (r + 1)) ((r + 1) * 2) (by omega) (by omega)
                    rw [List.take_of_length_le (by simp; omega)] at this
                    exact this
                  clear hml
                  go_wp2_with fail
                  go_region_held3 (fun _ => True) (exact True.intro)
                    (first
                      | (refine step_old (by rfl) (.tmp 152) (.tmp 155) (by rfl) wz [] ((sortOf L).take r) OA SL L1 ?_; intro v156 w156 h156 g156; rw [List.nil_append] at h156)
                      | (refine step_old (by rfl) (.tmp 156) (.tmp 160) (by rfl) wz ((sortOf L).take r) ((sortOf L).drop (r + 1)) h156 SR L2 ?_; intro v161 w161 h161 g161))
                  all_goals
                    as_aux_lemma =>
                    have HC : Hid (Desk E _ _ L w w161 ∧ SrcK (.slice bo N bc) L.reverse w161 ∧ SrcK v161 ((sortOf L).take r ++ (sortOf L).drop (r + 1)) w161) := ⟨HT.out.1.still h161.kept, HT.out.2.kept h161.kept, h161.src⟩
                    clear g156 g161 h156 h161 OA SL SR L1 L2 K0 HT hE
                    have hll : ((sortOf L).take r ++ (sortOf L).drop (r + 1)).length ≤ 1000000 := by
                      simp only [List.length_append, List.length_take, List.length_drop, HM.out]; omega
                    have WA := within_w _ v161 (sortOf L) ((sortOf L).take r ++ (sortOf L).drop (r + 1)) (by rw [HM.out]; omega) hll w161 HC.out.1.s HC.out.2.2
                    rw [within_less (by rw [HM.out]; omega)] at WA
                    go_wp2_with fail
                    refine WA.mono ?_
                    rintro e w162 ⟨rfl, hk⟩
                    have HC2 : Hid (Desk E _ _ L w w162 ∧ SrcK (.slice bo N bc) L.reverse w162 ∧ SrcK v161 ((sortOf L).take r ++ (sortOf L).drop (r + 1)) w162) := ⟨HC.out.1.still hk, HC.out.2.1.kept hk, HC.out.2.2.kept hk⟩
                    have WB := within_w v161 _ ((sortOf L).take r ++ (sortOf L).drop (r + 1)) (sortOf L) hll (by rw [HM.out]; omega) w162 HC2.out.2.2 HC2.out.1.s
                    rw [less_within] at WB
                    clear WA hk HC hll
                    go_wp2_with fail
                    refine WB.mono ?_
                    rintro e w163 ⟨rfl, hk⟩
                    have HT : Hid (Desk E _ _ L w w163 ∧ SrcK (.slice bo N bc) L.reverse w163) := ⟨HC2.out.1.still hk, HC2.out.2.1.kept hk⟩
                    clear WB hk HC2
                    as_aux_lemma =>
                    have SR := sort_w _ L.reverse (by simp [HLN.out]; omega) _ HT.out.2
                    rw [sort_reverse] at SR
                    go_wp2_with fail
                    refine SR.mono ?_
                    rintro e w30 ⟨v30, rfl, h30⟩
                    have HS := HT.out.1.still h30.kept
                    have SM := same_w v30 _ (sortOf L) (by rw [HM.out]; omega) w30 h30.src HS.s
                    have HK : Hid (Kept (fun _ => False) w w30) := HS.kept
                    clear SR h30 HS HT
                    go_wp2_with fail
                    refine SM.mono ?_
                    rintro e w31 ⟨rfl, hk31⟩
                    have HK2 : Hid (Kept (fun _ => False) w w31) := HK.out.thru hk31
                    have WN := within_w (.slice none 0 0) (.slice none 0 0) [] [] (by simp) (by simp) w31 (SrcK.none _) (SrcK.none _)
                    rw [within_nil] at WN
                    clear hk31 SM HK
                    go_wp2_with fail
                    refine WN.mono ?_
                    rintro e w32 ⟨rfl, hk32⟩
                    have HK3 : Hid (Kept (fun _ => False) w w32) := HK2.out.thru hk32
                    have RW := runs_w w32
                    clear hk32 WN HK2
                    go_wp2_with fail
                    refine RW.mono ?_
                    rintro e w33 ⟨rfl, hk33⟩
                    have HK4 : Hid (Kept (fun _ => False) w w33) := HK3.out.thru hk33
                    clear hk33 RW HK3
                    go_wp2
                    go_ret
                    exact ⟨rfl, HK4.out⟩
end Go.Proofs.Ytheflmomomknbaa
