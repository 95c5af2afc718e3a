
/- Names that are none, numbers that are none, what is no directory: nothing is found, added, removed, written; no conditions. -/
import Derived.Test.YtkpcillgoeidaaaRefF
import Derived.Test.YtkpcillgoeidaaaOpenArgs
import Derived.Deep.CutBlock
namespace Go.Proofs.Ytkpcillgoeidaaa
open Go.RowKit
set_option maxRecDepth 100000
set_option linter.unusedSimpArgs false

set_option maxHeartbeats 4000000 in
theorem refuses_law (s : ByteArray) (n d : Int) (w : World) :
    Calls Try.prog 6 #[.string s, .int .i64 n, .int .i64 d] w fun e w' => e = .returned (.bool true) ∧ Kept (fun _ => False) w w' := by
  go_enter Try.func6, Try.ntmps6
  go_wp2_with fail
  refine (side_new w).mono ?_
  rintro e w1 ⟨T, p, B, q, N, rfl, h1, hT⟩
  clear hT
  have c1 := h1.t
  go_wp2_with fail
  refine (side_alloc h1 2).mono ?_
  rintro e w2 ⟨rfl, h2, -⟩
  rw [ra]
  change SideIn _ _ _ _ _ _ v1 _ at h2
  clear h1 c1
  have c1 := h2.t
  go_wp2_with fail
  refine (side_alloc h2 1).mono ?_
  rintro e w3 ⟨rfl, h3, -⟩
  rw [va]
  change SideIn _ _ _ _ _ _ v2 _ at h3
  clear h2 c1
  have c1 := h3.t
  go_wp2_with fail
  refine (side_dadd h3 2 ⟨#[46]⟩ (by decide) 2).mono ?_
  rintro e w4 ⟨rfl, h4, -⟩
  rw [show addOk f0 v2 2 (bl ⟨#[46]⟩) 2 = true from vb]
  change SideIn _ _ _ _ _ _ v3 _ at h4
  clear h3 c1
  have c1 := h4.t
  go_wp2_with fail
  refine (side_dadd h4 2 ⟨#[46, 46]⟩ (by decide) 2).mono ?_
  rintro e w5 ⟨rfl, h5, -⟩
  rw [show addOk f0 v3 2 (bl ⟨#[46, 46]⟩) 2 = true from vc_]
  change SideIn _ _ _ _ _ _ v4 _ at h5
  clear h4 c1
  have c1 := h5.t
  go_wp2_with fail
  refine (the_size h5 (fun _ => rfl) 2).mono ?_
  rintro e w6 ⟨rfl, g6, h6, r6⟩
  rw [vd]
  have HH : Hid (SideIn w T p B q N g6 w6 ∧ RfF g6) := ⟨h6, r6⟩
  clear h5 c1 h6 r6
  obtain ⟨t, ht⟩ : ∃ t, s.extract 0 (min s.size 30) = t := ⟨_, rfl⟩
  have hts : t.size ≤ 30 := by rw [← ht, ByteArray.size_extract]; omega
  go_upto_region 9 with fail
  go_cut [13] from 67 to 71 (fun v wx => v = .string t ∧ wx = w6)
  case first =>
    by_cases hm : (30 : Int) < s.size
    · have e1 : s.extract 0 30 = t := by rw [← ht]; congr 1; omega
      clear ht
      go_wp2
      go_meet
      case rel => exact ⟨rfl, rfl⟩
    · have e1 : s.extract 0 s.size = t := by rw [← ht]; congr 1; omega
      clear ht
      go_wp2
      go_meet
      case rel => exact ⟨rfl, rfl⟩
  case rest =>
    obtain ⟨rfl, hwc⟩ := hcut
    subst hwc
    clear ht
    go_wp2_with fail
    refine (Nm.right_w t (by omega) wc).mono ?_
    rintro e w7 ⟨rfl, hw⟩
    subst hw
    obtain ⟨z, hz⟩ : ∃ z, Nm.rightF (bl t) = z := ⟨_, rfl⟩
    rw [hz]
    go_upto_if 73 with fail
    go_cut [13] from 74 to 75 (fun v wx => ∃ b : ByteArray, v = .string b ∧ Hid (Nm.rightF (bl b) = false) ∧ b.size ≤ 1000000 ∧ wx = w7)
    case first =>
      cases z with
      | false =>
        have HB : Hid (Nm.rightF (bl t) = false) := hz
        clear hz
        go_wp2
        go_meet
        case rel => exact ⟨t, rfl, HB.out, by omega, rfl⟩
      | true =>
        have HB : Hid (Nm.rightF (bl (t ++ ⟨#[47]⟩)) = false ∧ (t ++ ⟨#[47]⟩).size ≤ 1000000) := by
          refine ⟨?_, by rw [ByteArray.size_append]; have : (⟨#[47]⟩ : ByteArray).size = 1 := rfl; omega⟩
          cases hx : Nm.rightF (bl (t ++ ⟨#[47]⟩)) with
          | false => rfl
          | true =>
            have := (Nm.right_iff.1 hx).2.2.1
            rw [bl_app] at this
            exact absurd (List.mem_append.2 (.inr (by decide))) this
        clear hz
        go_wp2
        go_meet
        case rel => exact ⟨_, rfl, HB.out.1, HB.out.2, rfl⟩
    case rest =>
      obtain ⟨b, rfl, HB, hb, hwc⟩ := hcut
      subst hwc
      clear hz
      go_wp2_with fail
      refine (within_any n 0 9 (by omega) (by omega) (by omega) wc).mono ?_
      rintro e w8 ⟨rfl, hw⟩
      subst hw
      obtain ⟨n1, hn1⟩ : ∃ n1 : Int, 0 + n % (9 - 0 + 1) = n1 := ⟨_, rfl⟩
      have n11 : 0 ≤ n1 := by omega
      have n12 : n1 ≤ 9 := by omega
      rw [hn1]
      clear hn1
      go_wp2_with fail
      refine (within_any d 0 30 (by omega) (by omega) (by omega) w8).mono ?_
      rintro e w9 ⟨rfl, hw⟩
      subst hw
      obtain ⟨d1, hd1⟩ : ∃ d1 : Int, 0 + d % (30 - 0 + 1) = d1 := ⟨_, rfl⟩
      have d11 : 0 ≤ d1 := by omega
      have d12 : d1 ≤ 30 := by omega
      rw [hd1]
      clear hd1
      have hx1 : addOk f0 v4 2 (bl b) 1 = false := by unfold addOk; rw [HB.out]; cases isDirF f0 v4 2 <;> rfl
      have hx2 : addOk f0 v4 2 (bl ⟨#[120]⟩) 0 = false := by decide +kernel
      have hx3 : addOk f0 v4 2 (bl ⟨#[120]⟩) (16 + n1) = false := by
        unfold addOk
        rw [show hereB (16 + n1) = false from by simp [hereB]; omega]
        cases isDirF f0 v4 2 <;> cases Nm.rightF (bl ⟨#[120]⟩) <;> rfl
      have hx4 : addOk f0 v4 1 (bl ⟨#[120]⟩) 1 = false := by decide +kernel
      have hx5 : addOk f0 v4 (3 + d1) (bl ⟨#[120]⟩) 1 = false := by unfold addOk; rw [v4_no (by omega)]; rfl
      have hx6 : foundE (dirE f0 v4 2) (bl ⟨#[120]⟩) = none := vf
      have hx7 : foundE (dirE f0 v4 1) (bl ⟨#[46]⟩) = none := by decide +kernel
      have hx8 : foundE (dirE f0 v4 2) (bl b) = none := found_bad HB.out
      obtain ⟨h9, r9⟩ := HH.out
      clear HH HB
      have c1 := h9.t
      go_wp2_with fail
      refine (no_add h9 r9 2 b hb 1 hx1).mono ?_
      rintro e wA ⟨rfl, gA, hA, rA⟩
      clear h9 r9 c1 hx1
      have c1 := hA.t
      go_wp2_with fail
      refine (no_add hA rA 2 ⟨#[120]⟩ (by decide) 0 hx2).mono ?_
      rintro e wB ⟨rfl, gB, hB, rB⟩
      clear hA rA c1 hx2
      have c1 := hB.t
      go_wp2_with fail
      refine (no_add hB rB 2 ⟨#[120]⟩ (by decide) (16 + n1) hx3).mono ?_
      rintro e wC ⟨rfl, gC, hC, rC⟩
      clear hB rB c1 hx3
      have c1 := hC.t
      go_wp2_with fail
      refine (no_add hC rC 1 ⟨#[120]⟩ (by decide) 1 hx4).mono ?_
      rintro e wD ⟨rfl, gD, hD, rD⟩
      clear hC rC c1 hx4
      have c1 := hD.t
      go_wp2_with fail
      refine (no_add hD rD (3 + d1) ⟨#[120]⟩ (by decide) 1 hx5).mono ?_
      rintro e wE ⟨rfl, gE, hE, rE⟩
      clear hD rD c1 hx5
      have c1 := hE.t
      go_wp2_with fail
      refine (no_rm hE rE 2 ⟨#[120]⟩ (by decide) hx6).mono ?_
      rintro e wF ⟨rfl, gF, hF, rF⟩
      clear hE rE c1 hx6
      have c1 := hF.t
      go_wp2_with fail
      refine (no_rm hF rF 1 ⟨#[46]⟩ (by decide) hx7).mono ?_
      rintro e wG ⟨rfl, gG, hG, rG⟩
      clear hF rF c1
      have c1 := hG.t
      go_wp2_with fail
      refine (no_find hG rG 2 b hb hx8).mono ?_
      rintro e wH ⟨rfl, gH, hH, rH⟩
      clear hG rG c1 hx8
      have c1 := hH.t
      go_wp2_with fail
      refine (no_find hH rH 1 ⟨#[46]⟩ (by decide) hx7).mono ?_
      rintro e wI ⟨rfl, gI, hI, rI⟩
      clear hH rH c1 hx7
      have c1 := hI.t
      go_wp2_with fail
      refine (the_bare hI rI).mono ?_
      rintro e wJ ⟨rfl, gJ, hJ, rJ⟩
      clear hI rI c1
      have c1 := hJ.t
      go_wp2_with fail
      refine (the_size hJ rJ 2).mono ?_
      rintro e wK ⟨rfl, gK, hK, rK⟩
      rw [vd]
      clear hJ rJ c1
      have c1 := hK.t
      go_wp2_with fail
      refine (the_is hK rK 1).mono ?_
      rintro e wL ⟨rfl, gL, hL, rL⟩
      rw [ve1]
      clear hK rK c1
      have c1 := hL.t
      go_wp2_with fail
      refine (the_is hL rL 2).mono ?_
      rintro e wM ⟨rfl, gM, hM, rM⟩
      rw [ve]
      clear hL rL c1
      have c1 := hM.t
      go_wp2_with fail
      refine (the_size hM rM 1).mono ?_
      rintro e wN ⟨rfl, gN, hN, rN⟩
      rw [vd1]
      have HK : Hid (Kept (fun _ => False) w wN) := hN.kept
      clear hM rM c1 hN rN
      go_wp2_with fail
      refine (runs_w wN).mono ?_
      rintro e wO ⟨rfl, hO⟩
      have HZ : Hid (Kept (fun _ => False) w wO) := HK.out.thru hO
      clear HK hO
      go_wp2
      go_ret
      exact ⟨rfl, HZ.out⟩
end Go.Proofs.Ytkpcillgoeidaaa
