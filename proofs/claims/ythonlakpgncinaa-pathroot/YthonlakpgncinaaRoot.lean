
/- A path that begins with a slash doesn't hang on where one is; one that doesn't, does; no conditions. -/
import Derived.Test.YthonlakpgncinaaPaI
import Derived.Deep.CutBlock
namespace Go.Proofs.Ythonlakpgncinaa
open Go.RowKit
set_option maxRecDepth 100000
set_option linter.unusedSimpArgs false

theorem len47 (P : Bs) (hP : P.length ≤ 20) : 1 ≤ (47 :: P).length ∧ (47 :: P).length ≤ 60 := by simp; omega
/-- More slashes change nothing. -/
theorem more_ahead (f : StF) (g : VwF) (c : Int) (P : Bs) (hP : P.length ≤ 20) : walkA f g 1 (47 :: 47 :: 47 :: P) = walkA f g c (47 :: P) :=
  walk_like (by simp; omega) (by simp; omega) (by rw [cut_lead, cut_lead]) f g 1 c rfl
theorem more_behind (f : StF) (g : VwF) (c : Int) (P : Bs) (hP : P.length ≤ 20) : walkA f g 2 ((47 :: P) ++ [47]) = walkA f g c (47 :: P) :=
  walk_like (by simp; omega) (by simp; omega) (by rw [cut_trail]) f g 2 c rfl
theorem dot_ahead {g : VwF} {k : Nat} {O : Int → Bs → Option Int} (h : TreeF g k O) {c : Int} (hd : isDirF f0 g c = true) (P : Bs) (h1 : 1 ≤ P.length) (hP : P.length ≤ 20) (h47 : P[0]? ≠ some 47) : walkA f0 g c (46 :: 47 :: P) = walkA f0 g c P := by
  have hcut : Nm.cutF (46 :: 47 :: P) [] = [46] :: Nm.cutF P [] := by
    rw [show (46 :: 47 :: P : Bs) = [46] ++ 47 :: P from rfl, cut_join, cut_name right_dot.1]; rfl
  have ha : headF c (decide (P[0]? = some 47)) = c := by rw [decide_eq_false h47]; rfl
  by_cases hr : ∀ x ∈ Nm.cutF P [], Nm.rightF x = true
  · rw [tree_walk (l := [46] :: Nm.cutF P []) (by simp) (by simp; omega) hcut (fun x hx => by rcases List.mem_cons.1 hx with e | e; rw [e]; exact right_dot.1; exact hr x e) c (a := c) rfl (h.dirIs hd)]
    rw [tree_walk h1 (by omega) rfl hr c ha (h.dirIs hd), h.step, h.here hd]
    rfl
  · obtain ⟨x, hx, hb⟩ : ∃ x, x ∈ Nm.cutF P [] ∧ Nm.rightF x = false := by
      refine Classical.byContradiction fun hn => hr fun x hx => ?_
      cases hb : Nm.rightF x with
      | true => rfl
      | false => exact absurd ⟨x, hx, hb⟩ hn
    rw [walk_not (path_not hx hb), walk_not (path_not (by rw [hcut]; exact List.mem_cons_of_mem _ hx) hb)]
theorem gone_15 {g : VwF} {k : Nat} {O : Int → Bs → Option Int} (h : TreeF g k O) : walkA f0 g 15 [97] = none := by
  have hi : isI f0 g 15 = false := by rw [h.is]; have := h.hi; exact decide_eq_false (by omega)
  obtain ⟨e1, e2, e3⟩ := path_is (p := [97]) (by decide) (by decide) (by decide)
  unfold walkA alongA
  rw [if_pos e1, e3, show headF 15 (decide (([97] : Bs)[0]? = some 47)) = 15 from rfl, hi]
  rfl
theorem isR_c {g : VwF} {k : Nat} {O : Int → Bs → Option Int} (h : TreeF g k O) : isI f0 g 1 = true := h.isR
theorem bl47 (t : ByteArray) : bl (⟨#[47]⟩ ++ t) = 47 :: bl t := by rw [bl_app]; rfl
theorem bl3 (t : ByteArray) : bl (⟨#[47, 47, 47]⟩ ++ t) = 47 :: 47 :: 47 :: bl t := by rw [bl_app]; rfl
theorem bl2 (t : ByteArray) : bl (⟨#[46, 47]⟩ ++ t) = 46 :: 47 :: bl t := by rw [bl_app]; rfl
theorem blb (t : ByteArray) : bl (⟨#[47]⟩ ++ t ++ ⟨#[47]⟩) = (47 :: bl t) ++ [47] := by rw [bl_app, bl47]; rfl

set_option maxHeartbeats 4000000 in
theorem root_law (ao : Option Addr) (len cap lb off : Nat) (Q : Nat → QA) (hao : 0 < len → ao = some ⟨lb, off, none⟩) (cwd : Int) (s : ByteArray) (w : World) (hc : ∀ i, i < len → QAt w lb (off + i * 3) (Q i)) :
    Calls Try.prog 6 #[.slice ao len cap, .int .i64 cwd, .string s] w fun e w' => e = .returned (.bool true) ∧ Kept (fun _ => False) w w' := by
  go_enter Try.func6, Try.ntmps6
  go_wp2_with fail
  refine (grown_w ao len cap lb off Q hao w hc).mono ?_
  rintro e w1 ⟨T, p, B, q, N, g, k, O, rfl, hS, hT⟩
  have HT : Hid (TreeF g k O) := hT
  have hL := hS.looks
  clear hS hT hc hao
  obtain ⟨t, ht⟩ : ∃ t, s.extract 0 (min s.size 20) = t := ⟨_, rfl⟩
  have hts : t.size ≤ 20 := by rw [← ht, ByteArray.size_extract]; omega
  go_upto_region 4 with fail
  go_cut [8] from 30 to 34 (fun v wx => v = .string t ∧ wx = w1)
  case first =>
    by_cases hm : (20 : Int) < s.size
    · have e1 : s.extract 0 20 = t := by rw [← ht]; congr 1; omega
      clear ht
      go_wp2
      go_meet
      case rel => exact ⟨rfl, rfl⟩
    · have e1 : s.extract 0 s.size = t := by rw [← ht]; congr 1; omega
      clear ht
      go_wp2
      go_meet
      case rel => exact ⟨rfl, rfl⟩
  case rest =>
    obtain ⟨rfl, hwc⟩ := hcut
    subst hwc
    clear ht
    go_wp2_with fail
    refine (within_any cwd 1 12 (by omega) (by omega) (by omega) wc).mono ?_
    rintro e w2 ⟨rfl, hw⟩
    subst hw
    obtain ⟨c0, hc0⟩ : ∃ c0 : Int, 1 + cwd % (12 - 1 + 1) = c0 := ⟨_, rfl⟩
    rw [hc0]
    clear hc0
    have ct := hL.t
    go_wp2_with fail
    refine (look_is hL c0).mono ?_
    rintro e w3 ⟨rfl, hL3⟩
    clear hL ct
    obtain ⟨ib, hib⟩ : ∃ ib, isI f0 g c0 = ib := ⟨_, rfl⟩
    rw [hib]
    go_upto_if 43 with fail
    go_cut [9] from 38 to 43 (fun v wx => ∃ c, v = .int .i64 c ∧ Hid (isI f0 g c = true) ∧ wx = w3)
    case first =>
      cases ib with
      | true =>
        have HI : Hid (isI f0 g c0 = true) := hib
        clear hib
        go_wp2
        go_meet
        case rel => exact ⟨_, rfl, HI, rfl⟩
      | false =>
        clear hib
        go_wp2
        go_meet
        case rel => exact ⟨_, rfl, HT.out.isR, rfl⟩
    case rest =>
      obtain ⟨c, rfl, HI, hw⟩ := hcut
      subst hw
      clear hib
      have hP : (bl t).length ≤ 20 := by rw [bl_len]; exact hts
      have s1 : ((⟨#[47]⟩ : ByteArray) ++ t).size ≤ 30 := by rw [← bl_len, bl47, List.length_cons]; omega
      have s2 : ((⟨#[47]⟩ : ByteArray) ++ t ++ ⟨#[47]⟩).size ≤ 30 := by rw [← bl_len, blb, List.length_append, List.length_cons]; simp; omega
      have s3 : ((⟨#[47, 47, 47]⟩ : ByteArray) ++ t).size ≤ 30 := by rw [← bl_len, bl3, List.length_cons, List.length_cons, List.length_cons]; omega
      have s4 : ((⟨#[46, 47]⟩ : ByteArray) ++ t).size ≤ 30 := by rw [← bl_len, bl2, List.length_cons, List.length_cons]; omega
      have ct := hL3.t
      obtain ⟨fa, fb, hfab⟩ : ∃ fa fb, foundV (walkA f0 g c (47 :: bl t)) = .tuple #[.int .i64 fa, .bool fb] := ⟨_, _, rfl⟩
      have f1 := more_ahead f0 g c (bl t) hP
      have f2 := more_behind f0 g c (bl t) hP
      have HP : Hid ((bl t).length ≤ 20) := hP
      clear hP
      go_wp2_with fail
      have W1 := look_walk hL3 c ((⟨#[47]⟩ : ByteArray) ++ t) (by omega)
      refine W1.mono ?_
      clear W1
      rintro e w4 ⟨rfl, hL4⟩
      rw [bl47, hfab]
      clear hL3 ct
      have ct := hL4.t
      go_wp2_with fail
      have W1 := look_walk hL4 1 ((⟨#[47, 47, 47]⟩ : ByteArray) ++ t) (by omega)
      refine W1.mono ?_
      clear W1
      rintro e w5 ⟨rfl, hL5⟩
      rw [bl3, f1, hfab]
      clear hL4 ct
      have ct := hL5.t
      go_wp2_with fail
      have W1 := look_walk hL5 2 ((⟨#[47]⟩ : ByteArray) ++ t ++ ⟨#[47]⟩) (by omega)
      refine W1.mono ?_
      clear W1
      rintro e w6 ⟨rfl, hL6⟩
      rw [blb, f2, hfab]
      clear hL5 ct f1 f2 hfab
      have ct := hL6.t
      go_wp2_with fail
      have W1 := look_walk hL6 c ((⟨#[46, 47]⟩ : ByteArray) ++ t) (by omega)
      refine W1.mono ?_
      clear W1
      rintro e w7 ⟨rfl, hL7⟩
      rw [bl2]
      obtain ⟨ga, gb, hgab⟩ : ∃ ga gb, foundV (walkA f0 g c (46 :: 47 :: bl t)) = .tuple #[.int .i64 ga, .bool gb] := ⟨_, _, rfl⟩
      rw [hgab]
      clear hL6 ct s1 s2 s3 s4
      obtain ⟨z, hz⟩ : ∃ z, (isDirF f0 g c && decide (0 < t.size) && decide ((bl t)[0]? ≠ some 47)) = z := ⟨_, rfl⟩
      have HG : Hid (foundV (walkA f0 g c (46 :: 47 :: bl t)) = .tuple #[.int .i64 ga, .bool gb]) := hgab
      clear hgab
      have ct := hL7.t
      go_upto_region 14 with fail
      go_cut [120] from 105 to 120 (fun v wx => v = .bool z ∧ LookIn w T p B q N g wx)
      case first =>
        go_wp2_with fail
        refine (look_dis hL7 c).mono ?_
        rintro e w8 ⟨rfl, hL8⟩
        clear hL7 ct
        cases hd : isDirF f0 g c with
        | false =>
          rw [hd] at hz
          have hz' : z = false := by rw [← hz]; rfl
          subst hz'
          clear hz hd
          go_wp2
          go_meet
          case rel => exact ⟨rfl, hL8⟩
        | true =>
          rw [hd] at hz
          by_cases h0 : 0 < t.size
          · have t3 : (0 : Int) < t.size := by omega
            have hat := bl_at t h0
            obtain ⟨x, hx⟩ : ∃ x : UInt8, t[0] = x := ⟨_, rfl⟩
            rw [hx] at hat
            have b1 := Nm.byte_ne x 47 47 rfl
            have hz' : (!decide (x = 47)) = z := by rw [← hz, hat, decide_eq_true h0]; simp
            clear hz hat
            rw [hz'] at b1
            clear hz'
            go_wp2
            go_meet
            case rel => exact ⟨by first | rfl | rw [b1], hL8⟩
          · have t3 : ¬ (0 : Int) < t.size := by omega
            have hz' : z = false := by rw [← hz, decide_eq_false h0]; rfl
            subst hz'
            clear hz hd
            go_wp2
            go_meet
            case rel => exact ⟨rfl, hL8⟩
      case rest =>
        obtain ⟨rfl, hL8⟩ := hcut
        clear ct hL7
        have ct := hL8.t
        go_upto_if 120 with fail
        go_cut [18, 19] from 121 to 138 (fun _ _ wx => LookIn w T p B q N g wx)
        case first =>
          cases z with
          | false =>
            go_wp2
            go_meet
            case rel => exact hL8
          | true =>
            simp only [Bool.and_eq_true, decide_eq_true_eq] at hz
            have HE := dot_ahead HT.out hz.1.1 (bl t) (by rw [bl_len]; omega) HP.out hz.2
            have hgab := HG.out
            rw [HE] at hgab
            clear hz HE
            go_wp2_with fail
            refine (look_walk hL8 c t (by omega)).mono ?_
            rintro e w9 ⟨rfl, hL9⟩
            rw [hgab]
            clear hL8 ct hgab
            go_wp2
            go_meet
            case rel => exact hL9
        case rest =>
          have hLa := hcut
          clear hL8 ct hcut hz HG HP
          have ct := hLa.t
          go_wp2_with fail
          refine (look_walk hLa c ⟨#[]⟩ (by decide)).mono ?_
          rintro e wb ⟨rfl, hLb⟩
          rw [walk_not (show Nm.okF (bl ⟨#[]⟩) = false by decide), found_no]
          clear hLa ct
          have KS : ∀ w', LookIn w T p B q N g w' → w'.cell? ⟨T, 1, none⟩ = some (.pointer (some ⟨q, 0, none⟩)) := fun w' hk' => hk'.t
          go_upto_region 19 with fail
          refine wp_region_held_drew (S := fun w' => LookIn w T p B q N g w') (by kernel_rfl) (hLb.still (Kept.refl _ _).drew) (fun hHeld => ?_)
          refine h_take 0 (some 149) (Op.move (Operand.tmp 7)) 22 ?v1 rfl rfl (by kernel_rfl) (by kernel_rfl) (by kernel_rfl) (fun _ _ _ h => h) ?hy1 hHeld ?_
          case hy1 => (intro _ _ _ w hSw; have hcs := KS _ hSw; go_simp; try with_reducible rfl)
          simp only [Act.put, List.setIfInBounds_toArray, List.set_cons_zero, List.set_cons_succ]
          refine h_take 1 (some 150) (Op.nilCheck (Operand.tmp 149)) 0 ?v2 rfl rfl (by kernel_rfl) (by kernel_rfl) (by kernel_rfl) (fun _ _ _ h => h) ?hy2 hHeld ?_
          case hy2 => (intro _ _ _ w hSw; have hcs := KS _ hSw; go_simp; try with_reducible rfl)
          simp only [Act.put, List.setIfInBounds_toArray, List.set_cons_zero, List.set_cons_succ]
          refine h_take 2 (some 151) (Op.fieldAddr 31 (Operand.tmp 150) 1) 0 ?v3 rfl rfl (by kernel_rfl) (by kernel_rfl) (by kernel_rfl) (fun _ _ _ h => h) ?hy3 hHeld ?_
          case hy3 => (intro _ _ _ w hSw; have hcs := KS _ hSw; go_simp; try with_reducible rfl)
          simp only [Act.put, List.setIfInBounds_toArray, List.set_cons_zero, List.set_cons_succ]
          refine h_take 3 (some 152) (Op.load 27 (Operand.tmp 151)) 27 ?v4 rfl rfl (by kernel_rfl) (by kernel_rfl) (by kernel_rfl) (fun _ _ _ h => h) ?hy4 hHeld ?_
          case hy4 => (intro _ _ _ w hSw; have hcs := KS _ hSw; go_simp; try with_reducible rfl)
          simp only [Act.put, List.setIfInBounds_toArray, List.set_cons_zero, List.set_cons_succ]
          refine h_take 4 (some 153) (Op.move (Operand.tmp 9)) 3 ?v5 rfl rfl (by kernel_rfl) (by kernel_rfl) (by kernel_rfl) (fun _ _ _ h => h) ?hy5 hHeld ?_
          case hy5 => (intro _ _ _ w hSw; have hcs := KS _ hSw; go_simp; try with_reducible rfl)
          simp only [Act.put, List.setIfInBounds_toArray, List.set_cons_zero, List.set_cons_succ]
          refine h_step 5 (some 154) (Op.makeSlice 46 (Operand.const (Value.int IntKind.i64 61)) (Operand.const (Value.int IntKind.i64 61))) 46 rfl rfl (by kernel_rfl) (fun _ _ _ K hK => ?_)
          obtain ⟨wx, hmk, hrow, k3⟩ := make_bytes 61 (by omega) wb.drew
          have hmk' : (Instr.makeSlice 46 (.int .i64 61) (.int .i64 61)).run Try.prog wb.drew = .ok (.slice (some ⟨wb.drew.heap.size, 0, none⟩) 61 61) wx := hmk
          clear hmk
          generalize wb.drew.heap.size = G at *
          go_simp
          refine hK.out _ _ ((hLb.still ((Kept.refl _ _).drew.thru k3))) (fun hHeld => ?_)
          clear hK K
          try simp only [Act.put, List.setIfInBounds_toArray, List.set_cons_zero, List.set_cons_succ]
          obtain ⟨long, hlong⟩ : ∃ b : ByteArray, bs (List.replicate 61 0) = b := ⟨_, rfl⟩
          have hcv := row_text hrow 61
          rw [List.length_replicate, hlong] at hcv
          have hll : bl long = List.replicate 61 0 := by rw [← hlong, bl_bs]
          have hls : long.size ≤ 100000 := by rw [← bl_len, hll, List.length_replicate]; omega
          have hlw : walkA f0 g c (bl long) = none := walk_not (Nm.ok_no (by rw [hll, List.length_replicate]; omega)) _ _ _
          clear hlong hll hmk' hrow k3
          refine h_step 6 (some 155) (Op.convert 46 9 (Operand.tmp 154)) 9 rfl rfl (by kernel_rfl) (fun _ _ _ K hK => ?_)
          go_simp
          clear hcv
          refine hK.out _ _ (hHeld) (fun hHeld => ?_)
          clear hK K
          try simp only [Act.put, List.setIfInBounds_toArray, List.set_cons_zero, List.set_cons_succ]
          have hLx := hHeld
          refine h_step 7 (some 156) (Op.call { callee := Callee.value (Operand.func 8), args := #[Operand.tmp 152, Operand.tmp 153, Operand.tmp 155], argTypes := #[27, 3, 9] }) 24 rfl rfl (by kernel_rfl) (fun _ _ _ K hK => ?_)
          go_simp
          refine (look_walk hLx c long hls).mono ?_
          rintro e wy ⟨rfl, hLy⟩
          rw [hlw, found_no]
          go_wp2_with fail
          refine hK.out _ _ (hLy) (fun hHeld => ?_)
          clear hK K
          try simp only [Act.put, List.setIfInBounds_toArray, List.set_cons_zero, List.set_cons_succ]
          refine h_take 8 (some 148) (Op.move (Operand.tmp 156)) 24 ?v6 rfl rfl (by kernel_rfl) (by kernel_rfl) (by kernel_rfl) (fun _ _ _ h => h) ?hy6 hHeld ?_
          case hy6 => (intro _ _ _ w hSw; have hcs := KS _ hSw; go_simp; try with_reducible rfl)
          simp only [Act.put, List.setIfInBounds_toArray, List.set_cons_zero, List.set_cons_succ]
          refine h_take 9 (some 157) (Op.extract (Operand.tmp 148) 0) 3 ?v7 rfl rfl (by kernel_rfl) (by kernel_rfl) (by kernel_rfl) (fun _ _ _ h => h) ?hy7 hHeld ?_
          case hy7 => (intro _ _ _ w hSw; have hcs := KS _ hSw; go_simp; try with_reducible rfl)
          simp only [Act.put, List.setIfInBounds_toArray, List.set_cons_zero, List.set_cons_succ]
          refine h_take 10 (some 158) (Op.extract (Operand.tmp 148) 1) 4 ?v8 rfl rfl (by kernel_rfl) (by kernel_rfl) (by kernel_rfl) (fun _ _ _ h => h) ?hy8 hHeld ?_
          case hy8 => (intro _ _ _ w hSw; have hcs := KS _ hSw; go_simp; try with_reducible rfl)
          simp only [Act.put, List.setIfInBounds_toArray, List.set_cons_zero, List.set_cons_succ]
          refine h_take 11 (some 22) (Op.assign (Operand.tmp 157)) 3 ?v9 rfl rfl (by kernel_rfl) (by kernel_rfl) (by kernel_rfl) (fun _ _ _ h => h) ?hy9 hHeld ?_
          case hy9 => (intro _ _ _ w hSw; have hcs := KS _ hSw; go_simp; try with_reducible rfl)
          simp only [Act.put, List.setIfInBounds_toArray, List.set_cons_zero, List.set_cons_succ]
          refine h_take 12 (some 23) (Op.assign (Operand.tmp 158)) 4 ?v10 rfl rfl (by kernel_rfl) (by kernel_rfl) (by kernel_rfl) (fun _ _ _ h => h) ?hy10 hHeld ?_
          case hy10 => (intro _ _ _ w hSw; have hcs := KS _ hSw; go_simp; try with_reducible rfl)
          simp only [Act.put, List.setIfInBounds_toArray, List.set_cons_zero, List.set_cons_succ]
          refine wpAnyH_done (by kernel_rfl) ?_ _
          clear hHeld hLx KS hLb hls hlw
          have ct := hLy.t
          have h15 := gone_15 HT.out
          go_wp2_with fail
          refine (look_walk hLy 15 ⟨#[97]⟩ (by decide)).mono ?_
          rintro e wz ⟨rfl, hLz⟩
          rw [show bl ⟨#[97]⟩ = [97] from rfl, h15, found_no]
          have HK : Hid (Kept (fun _ => False) w wz) := hLz.kept
          clear hLy hLz ct h15
          go_wp2_with fail
          refine (runs_w wz).mono ?_
          rintro e w9 ⟨rfl, hk9⟩
          have HK9 : Hid (Kept (fun _ => False) w w9) := HK.out.thru hk9
          clear HK hk9
          go_wp2
          go_ret
          exact ⟨rfl, HK9.out⟩
end Go.Proofs.Ythonlakpgncinaa
