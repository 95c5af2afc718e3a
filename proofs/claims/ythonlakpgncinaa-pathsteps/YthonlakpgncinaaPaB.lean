
/- The directory of a path's last name, the code's side; no conditions but lengths. -/
import Derived.Test.YthonlakpgncinaaPaA
import Derived.Deep.CutBlock
namespace Go.Proofs.Ythonlakpgncinaa
open Go.RowKit
set_option maxRecDepth 100000
set_option linter.unusedSimpArgs false

theorem own_cut {w0 w : World} {v : Value} {l : List Bs} {L : Nat} (h : Nm.OwnS w0 v l w) (hl : l.length = L + 1) :
    ∃ b c, v = .slice (some ⟨b, 0, none⟩) (L + 1) c ∧ L + 1 ≤ c ∧ w0.heap.size ≤ b ∧ b < w.heap.size ∧ (∀ j, j < L + 1 → w.cell? ⟨b, j, none⟩ = some (.string (bs (Nm.sd l j)))) ∧ Nm.SrcS (.slice (some ⟨b, 0, none⟩) L c) l.dropLast w := by
  have hsrc := h.src
  rcases h.own.2 with ⟨rfl, h0⟩ | ⟨g, cap, cur, rfl, hb, hg, hnc, hcm, hcs, htake⟩
  · omega
  · have hc : ∀ j, j < L + 1 → w.cell? ⟨g, j, none⟩ = some (.string (bs (Nm.sd l j))) := fun j hj => by have := hsrc.cell (j := j) (by omega); rwa [Nat.zero_add] at this
    refine ⟨g, cap, by rw [hl], by omega, hb, lt_at hg, hc, .inl ⟨g, 0, cap, by rw [List.length_dropLast, hl]; rfl, lt_at hg, fun j u hu => ?_⟩⟩
    rw [Nat.zero_add]
    have hj : j < L := by have := (List.getElem?_eq_some_iff.1 hu).1; rw [List.length_dropLast, hl] at this; omega
    have h2 := Nm.sd_get (l := l) (i := j) (by omega)
    rw [List.getElem?_dropLast, if_pos (by omega), h2] at hu
    rw [← Option.some.inj hu]
    exact hc j (by omega)
theorem last_sd {l : List Bs} {L : Nat} (hl : l.length = L + 1) : l.getLastD [] = Nm.sd l L := by
  rw [Nm.sd, List.getLastD_eq_getLast?, List.getLast?_eq_getElem?, hl]
  rfl
theorem mem_drop {l : List Bs} {x : Bs} (h : x ∈ l.dropLast) : x ∈ l := List.dropLast_subset l h

theorem par_no : parV none = .tuple #[.int .i64 0, .string ⟨#[]⟩, .bool false] := rfl
theorem par_yes (n : Int) (s : Bs) : parV (some (n, s)) = .tuple #[.int .i64 n, .string (bs s), .bool true] := rfl
theorem ret_par (P : Bool) {n : Int} {s : ByteArray} : Ending.returned (.tuple #[.int .i64 n, .string s, .bool P]) = .returned (.tuple #[.int .i64 n, .string s, .bool P]) := rfl

set_option maxHeartbeats 1000000 in
theorem ppar_w (q N p B : Nat) (f : StF) (g : VwF) (cwd : Int) (s : ByteArray) (hs0 : s.size ≤ 100000) (w : World) (h : ViewIn q N p g w) (hs : StoreIn p B f w) (hNB : N ≠ B) (hz : ∀ j, (findV f g j).s.size ≤ 100000) :
    Calls Try.prog 9 #[.pointer (some ⟨q, 0, none⟩), .int .i64 cwd, .string s] w
    fun e w' => e = .returned (parV (parA f g cwd (bl s))) ∧ ViewIn q N p (parT f g cwd (bl s)) w' ∧ Kept (fun n => n = N) w w' := by
  obtain ⟨A, hA⟩ : ∃ A, parA f g cwd (bl s) = A := ⟨_, rfl⟩
  obtain ⟨Z, hZ⟩ : ∃ Z, parT f g cwd (bl s) = Z := ⟨_, rfl⟩
  rw [hA, hZ]
  unfold parA at hA
  unfold parT at hZ
  have hnl := names_few (bl s) (by rw [bl_len]; omega)
  have hnx := names_ok (p := bl s)
  have S := Nm.split_w s (by omega) w
  generalize Nm.namesF (bl s) = l at *
  generalize Nm.absF (bl s) = r at *
  generalize Nm.okF (bl s) = k at *
  go_enter Try.func9, Try.ntmps9
  go_wp2_with fail
  refine S.mono ?_
  rintro e w1 ⟨v, rfl, ho⟩
  clear S
  have hk1 := ho.kept
  have hN := h.map
  cases k with
  | false =>
    rw [if_neg (by simp)] at hA hZ
    have HR : Hid (A = none ∧ ViewIn q N p Z w1 ∧ Kept (fun n => n = N) w w1) := ⟨hA.symm, by rw [← hZ]; exact h.still hk1, hk1.mono (fun _ _ e => e.elim)⟩
    clear hA hZ ho hk1 hN
    go_wp2_with fail
    exact bodyPost_ret (v := .tuple #[.int .i64 0, .string ⟨#[]⟩, .bool false]) (by simp [results, Try.results9, go_sem]) rfl ⟨by rw [HR.out.1]; rfl, HR.out.2⟩
  | true =>
    by_cases hnil : l = []
    · rw [if_neg (fun e => e.2 hnil)] at hA hZ
      obtain ⟨ao, c, hvf⟩ := ho.form
      rw [hnil] at hvf
      have HR : Hid (A = none ∧ ViewIn q N p Z w1 ∧ Kept (fun n => n = N) w w1) := ⟨hA.symm, by rw [← hZ]; exact h.still hk1, hk1.mono (fun _ _ e => e.elim)⟩
      clear hA hZ ho hk1 hN hnx hnl
      subst hvf
      go_wp2_with fail
      exact bodyPost_ret (v := .tuple #[.int .i64 0, .string ⟨#[]⟩, .bool false]) (by simp [results, Try.results9, go_sem]) rfl ⟨by rw [HR.out.1]; rfl, HR.out.2⟩
    · rw [if_pos ⟨rfl, hnil⟩] at hA hZ
      obtain ⟨L, hL⟩ : ∃ L, l.length = L + 1 := ⟨l.length - 1, by have := List.length_pos_iff.2 hnil; omega⟩
      obtain ⟨b, c, rfl, hcap, hb0, hb1, hc, hsrc⟩ := own_cut ho hL
      rw [last_sd hL] at hA
      have hlast := hc L (by omega)
      have hdl : l.dropLast.length ≤ 1000 := by rw [List.length_dropLast]; omega
      have hdx : ∀ x ∈ l.dropLast, x.length ≤ 1000 := fun x hx => hnx x (mem_drop hx)
      generalize Nm.sd l L = last at *
      generalize l.dropLast = m at *
      have hv1 := h.still hk1
      have hs1 := hs.still hk1
      have hz0 : ¬ (L : Int) + 1 = 0 := by omega
      have hwr : wrap64 (L : Int) = (L : Int) := by unfold wrap64; omega
      have hbN : ¬ b = N := by have := hN.lt; omega
      clear hnil hL hc hnx hnl ho
      obtain ⟨la, hla⟩ : ∃ la, alongA f g (headF cwd r) m = la := ⟨_, rfl⟩
      obtain ⟨lt, hlt⟩ : ∃ lt, alongT f g (headF cwd r) m = lt := ⟨_, rfl⟩
      rw [hla, hlt] at hA hZ
      have KS : ∀ w', Kept (fun n => n = N) w1 w' → True := fun _ _ => trivial
      go_upto_region 5 with fail
      have hc0 : (0 : Int) ≤ (L : Int) := by omega
      have hc1 : (L : Int) ≤ (c : Int) := by omega
      refine wp_region_held_drew (S := fun w' => Kept (fun n => n = N) w1 w') (by kernel_rfl) ((Kept.refl _ _).drew) (fun hHeld => ?_)
      refine h_take 0 (some 32) (Op.move (Operand.tmp 0)) 27 ?v1 rfl rfl (by kernel_rfl) (by kernel_rfl) (by kernel_rfl) (fun _ _ _ h => h) ?hy1 hHeld ?_
      case hy1 => (intro _ _ _ w hSw; have hcs := KS _ hSw; go_simp; try with_reducible rfl)
      simp only [Act.put, List.setIfInBounds_toArray, List.set_cons_zero, List.set_cons_succ]
      refine h_take 1 (some 33) (Op.move (Operand.tmp 1)) 3 ?v2 rfl rfl (by kernel_rfl) (by kernel_rfl) (by kernel_rfl) (fun _ _ _ h => h) ?hy2 hHeld ?_
      case hy2 => (intro _ _ _ w hSw; have hcs := KS _ hSw; go_simp; try with_reducible rfl)
      simp only [Act.put, List.setIfInBounds_toArray, List.set_cons_zero, List.set_cons_succ]
      refine h_take 2 (some 34) (Op.move (Operand.tmp 10)) 4 ?v3 rfl rfl (by kernel_rfl) (by kernel_rfl) (by kernel_rfl) (fun _ _ _ h => h) ?hy3 hHeld ?_
      case hy3 => (intro _ _ _ w hSw; have hcs := KS _ hSw; go_simp; try with_reducible rfl)
      simp only [Act.put, List.setIfInBounds_toArray, List.set_cons_zero, List.set_cons_succ]
      refine h_take 4 (some 36) (Op.move (Operand.tmp 9)) 36 ?v4 rfl rfl (by kernel_rfl) (by kernel_rfl) (by kernel_rfl) (fun _ _ _ h => h) ?hy4 hHeld ?_
      case hy4 => (intro _ _ _ w hSw; have hcs := KS _ hSw; go_simp; try with_reducible rfl)
      simp only [Act.put, List.setIfInBounds_toArray, List.set_cons_zero, List.set_cons_succ]
      refine h_take 5 (some 37) (Op.move (Operand.tmp 12)) 3 ?v5 rfl rfl (by kernel_rfl) (by kernel_rfl) (by kernel_rfl) (fun _ _ _ h => h) ?hy5 hHeld ?_
      case hy5 => (intro _ _ _ w hSw; have hcs := KS _ hSw; go_simp; try with_reducible rfl)
      simp only [Act.put, List.setIfInBounds_toArray, List.set_cons_zero, List.set_cons_succ]
      refine h_take 6 (some 38) (Op.slice 36 (Operand.tmp 36) none (some (Operand.tmp 37)) none) 36 ?v6 rfl rfl (by kernel_rfl) (by kernel_rfl) (by kernel_rfl) (fun _ _ _ h => h) ?hy6 hHeld ?_
      case hy6 => (intro _ _ _ w hSw; have hcs := KS _ hSw; go_simp; try with_reducible rfl)
      simp only [Act.put, List.setIfInBounds_toArray, List.set_cons_zero, List.set_cons_succ]
      refine h_step 3 (some 35) (Op.call { callee := Callee.value (Operand.func 25), args := #[Operand.tmp 33, Operand.tmp 34], argTypes := #[3, 4] }) 3 rfl rfl (by kernel_rfl) (fun _ _ _ K hK => ?_)
      go_simp
      refine (head_w cwd r _).mono ?_
      rintro e w2 ⟨rfl, hw⟩
      subst hw
      go_wp2_with fail
      refine hK.out _ _ ((Kept.refl _ _).drew) (fun hHeld => ?_)
      clear hK K
      try simp only [Act.put, List.setIfInBounds_toArray, List.set_cons_zero, List.set_cons_succ]
      refine h_step 7 (some 39) (Op.call { callee := Callee.value (Operand.func 24), args := #[Operand.tmp 32, Operand.tmp 35, Operand.tmp 38], argTypes := #[27, 3, 36] }) 24 rfl rfl (by kernel_rfl) (fun _ _ _ K hK => ?_)
      go_simp
      refine (along_w q N p B f g (headF cwd r) _ m w1.drew (hv1.still (Kept.refl _ _).drew) (hs1.still (Kept.refl _ _).drew) hNB (hsrc.still (Kept.refl _ _).drew) hdl hdx hz).mono ?_
      rintro e w3 ⟨rfl, hv3, hk3⟩
      replace hk3 : Kept (fun n => n = N) w1 w3 := (Kept.refl _ w1).drew.trans hk3 (fun _ _ e => e)
      rw [hla]
      rw [hlt] at hv3
      unfold foundV
      go_wp2_with fail
      refine hK.out _ _ (hk3) (fun hHeld => ?_)
      clear hK K
      try simp only [Act.put, List.setIfInBounds_toArray, List.set_cons_zero, List.set_cons_succ]
      refine h_take 8 (some 31) (Op.move (Operand.tmp 39)) 24 ?v7 rfl rfl (by kernel_rfl) (by kernel_rfl) (by kernel_rfl) (fun _ _ _ h => h) ?hy7 hHeld ?_
      case hy7 => (intro _ _ _ w hSw; have hcs := KS _ hSw; go_simp; try with_reducible rfl)
      simp only [Act.put, List.setIfInBounds_toArray, List.set_cons_zero, List.set_cons_succ]
      refine h_take 9 (some 40) (Op.extract (Operand.tmp 31) 0) 3 ?v8 rfl rfl (by kernel_rfl) (by kernel_rfl) (by kernel_rfl) (fun _ _ _ h => h) ?hy8 hHeld ?_
      case hy8 => (intro _ _ _ w hSw; have hcs := KS _ hSw; go_simp; try with_reducible rfl)
      simp only [Act.put, List.setIfInBounds_toArray, List.set_cons_zero, List.set_cons_succ]
      refine h_take 10 (some 41) (Op.extract (Operand.tmp 31) 1) 4 ?v9 rfl rfl (by kernel_rfl) (by kernel_rfl) (by kernel_rfl) (fun _ _ _ h => h) ?hy9 hHeld ?_
      case hy9 => (intro _ _ _ w hSw; have hcs := KS _ hSw; go_simp; try with_reducible rfl)
      simp only [Act.put, List.setIfInBounds_toArray, List.set_cons_zero, List.set_cons_succ]
      refine h_take 11 (some 13) (Op.assign (Operand.tmp 40)) 3 ?v10 rfl rfl (by kernel_rfl) (by kernel_rfl) (by kernel_rfl) (fun _ _ _ h => h) ?hy10 hHeld ?_
      case hy10 => (intro _ _ _ w hSw; have hcs := KS _ hSw; go_simp; try with_reducible rfl)
      simp only [Act.put, List.setIfInBounds_toArray, List.set_cons_zero, List.set_cons_succ]
      refine h_take 12 (some 14) (Op.assign (Operand.tmp 41)) 4 ?v11 rfl rfl (by kernel_rfl) (by kernel_rfl) (by kernel_rfl) (fun _ _ _ h => h) ?hy11 hHeld ?_
      case hy11 => (intro _ _ _ w hSw; have hcs := KS _ hSw; go_simp; try with_reducible rfl)
      simp only [Act.put, List.setIfInBounds_toArray, List.set_cons_zero, List.set_cons_succ]
      refine wpAnyH_done (by kernel_rfl) ?_ _
      have hl3 := hk3.cell hlast (by simpa using hbN)
      have hs3 := hs1.kept hk3 (fun e => hN.off hs.cell e) (fun e => hNB e.symm)
      have hK3 : Kept (fun n => n = N) w w3 := (hk1.mono (fun _ _ e => e.elim)).trans hk3 (fun _ _ e => e)
      clear hHeld KS hk3 hlast hs1 hv1 hk1 hsrc hla hlt hdx hdl hz
      cases la with
      | none =>
        have HR : Hid (A = none ∧ ViewIn q N p Z w3 ∧ Kept (fun n => n = N) w w3) := ⟨hA.symm, by rw [← hZ]; exact hv3, hK3⟩
        clear hA hZ hv3 hK3 hs3 hl3 hs h hN
        go_wp2_with fail
        exact bodyPost_ret (v := .tuple #[.int .i64 0, .string ⟨#[]⟩, .bool false]) (by simp [results, Try.results9, go_sem]) rfl ⟨by rw [HR.out.1]; rfl, HR.out.2⟩
      | some d =>
        simp only at hA hZ
        go_wp2_with fail
        refine (dis_w q N p B f lt d w3 hv3 hs3 hNB).mono ?_
        rintro e w4 ⟨rfl, hv4, hk4⟩
        have hK4 := hK3.trans hk4 (fun _ _ e => e)
        have hl4 := hk4.cell hl3 (by simpa using hbN)
        rw [hZ] at hv4
        clear hZ hv3 hK3 hs3 hl3 hk4 hs h hN
        cases hd : isDirF f lt d with
        | false =>
          rw [hd, if_neg (by simp)] at hA
          have HR : Hid (A = none ∧ ViewIn q N p Z w4 ∧ Kept (fun n => n = N) w w4) := ⟨hA.symm, hv4, hK4⟩
          clear hA hd hv4 hK4 hl4
          go_wp2_with fail
          exact bodyPost_ret (v := .tuple #[.int .i64 0, .string ⟨#[]⟩, .bool false]) (by simp [results, Try.results9, go_sem]) rfl ⟨by rw [HR.out.1]; rfl, HR.out.2⟩
        | true =>
          rw [hd, if_pos rfl] at hA
          have HR : Hid (A = some (d, last) ∧ ViewIn q N p Z w4 ∧ Kept (fun n => n = N) w w4) := ⟨hA.symm, hv4, hK4⟩
          have hc2 : (L : Int) < (L : Int) + 1 := by omega
          clear hA hd hv4 hK4
          go_wp2_with fail
          go_quiet (fail)
          have HZ : Hid (A = some (d, last) ∧ ViewIn q N p Z (w4.drewN nq) ∧ Kept (fun n => n = N) w (w4.drewN nq)) := ⟨HR.out.1, HR.out.2.1.still (Nm.kept_drewN _ nq), HR.out.2.2.trans (Nm.kept_drewN _ nq) (fun _ _ e => e.elim)⟩
          clear HR hl4
          generalize w4.drewN nq = w5 at *
          go_wp2
          exact bodyPost_ret (v := .tuple #[.int .i64 d, .string (bs last), .bool true]) (by simp [results, Try.results9, go_sem]) rfl ⟨by rw [HZ.out.1]; rfl, HZ.out.2⟩
end Go.Proofs.Ythonlakpgncinaa
