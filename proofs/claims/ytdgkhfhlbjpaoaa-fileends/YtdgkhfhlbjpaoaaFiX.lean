
/- Through a pipe's two files what is written is read; closed, the other side is told; the console tells what was typed, and counts; no conditions. -/
import Derived.Test.YtdgkhfhlbjpaoaaFiZ
import Derived.Test.YtdgkhfhlbjpaoaaOpenArgs
import Derived.Deep.CutBlock
namespace Go.Proofs.Ytdgkhfhlbjpaoaa
open Go.RowKit
set_option maxRecDepth 100000
set_option linter.unusedSimpArgs false

set_option maxHeartbeats 4000000 in
theorem ends_law (typed : ByteArray) (n m : Int) (w : World) :
    Calls Try.prog 5 #[.string typed, .int .i64 n, .int .i64 m] w fun e w' => e = .returned (.bool true) ∧ Kept (fun _ => False) w w' := by
  obtain ⟨u, hu⟩ : ∃ u : Nat, u = min typed.size 40 := ⟨_, rfl⟩
  have hmin : (if (40 : Int) < (typed.size : Int) then (40 : Int) else (typed.size : Int)) = (u : Int) := by split <;> omega
  obtain ⟨t, ht⟩ : ∃ t, typed.extract 0 u = t := ⟨_, rfl⟩
  have htz : t.size ≤ 40 := by rw [← ht, extract_bs, bs_size]; simp; omega
  have bu : (u : Int) ≤ (typed.size : Int) := by omega
  have HT : Hid (t.size ≤ 40) := htz
  clear htz hu
  go_enter Try.func5, Try.ntmps5
  go_wp2_with fail
  clear hmin bu ht
  refine (side_new w).mono ?_
  rintro e w1 ⟨T, p, B, q, N, rfl, h1, hT⟩
  clear hT
  have c1 := h1.t
  go_wp2_with fail
  refine (side_pal h1).mono ?_
  rintro e w2 ⟨rfl, h2, -⟩
  rw [ends0.1, show palV 0 = .tuple #[.int .i64 0, .bool true] from rfl]
  change SideIn _ _ _ _ _ _ z1 _ at h2
  clear h1 c1
  go_wp2_with fail
  refine (side_opn h2 2 0 1).mono ?_
  rintro e w3 ⟨rfl, h3, -⟩
  rw [ends0.2.1, show opnV 0 = .tuple #[.int .i64 0, .bool true] from rfl]
  change SideIn _ _ _ _ _ _ z2 _ at h3
  clear h2
  go_wp2_with fail
  refine (side_opn h3 3 0 2).mono ?_
  rintro e w4 ⟨rfl, h4, -⟩
  rw [ends0.2.2.1, show opnV 1 = .tuple #[.int .i64 1, .bool true] from rfl]
  have hM := ends0.2.2.2
  change SideIn _ _ _ _ _ _ z3 _ at h4
  generalize z3 = g at *
  clear h3
  go_wp2_with fail
  refine (within_any n 1 16 (by omega) (by omega) (by omega) w4).mono ?_
  rintro e w5 ⟨rfl, hw⟩
  subst hw
  obtain ⟨k, hk1⟩ : ∃ k : Nat, (k : Int) = 1 + n % (16 - 1 + 1) ∧ 1 ≤ k ∧ k ≤ 16 := ⟨(1 + n % (16 - 1 + 1)).toNat, by omega, by omega, by omega⟩
  obtain ⟨hk1, hk2, hk3⟩ := hk1
  rw [← hk1]
  clear hk1
  go_wp2_with fail
  refine (text_w n k (by omega) (by omega) w5).mono ?_
  rintro e w6 ⟨d, rfl, hd, k6⟩
  have hd' : d.size = k := by omega
  replace h4 := h4.still k6
  clear hd k6
  subst hd'
  obtain ⟨hR, hM⟩ := hM.write hk2 hk3
  go_wp2_with fail
  refine (side_fwr h4 1 d (by omega)).mono ?_
  rintro e w7 ⟨rfl, h5, -⟩
  rw [hR]
  generalize (fwr f0 g 1 d).g = g1 at *
  clear h4 hR
  obtain ⟨hR, hM⟩ := hM.read (n := 99) (by omega) hk2
  go_wp2_with fail
  refine (side_frd h5 0 99).mono ?_
  rintro e w8 ⟨rfl, h6, -⟩
  change rdV (frd f0 g1 0 99) = _ at hR
  change PE 1 _ (frd f0 g1 0 99).g at hM
  rw [hR]
  generalize (frd f0 g1 0 99).g = g2 at *
  clear h5 hR
  obtain ⟨hR, hM⟩ := hM.wait
  go_wp2_with fail
  refine (side_frd h6 0 1).mono ?_
  rintro e w9 ⟨rfl, h7, -⟩
  rw [hR, if_neg (by decide)]
  generalize (frd f0 g2 0 1).g = g3 at *
  clear h6 hR
  obtain ⟨hR, hM⟩ := hM.bad
  go_wp2_with fail
  refine (side_fwr h7 0 xtext (by decide)).mono ?_
  rintro e w10 ⟨rfl, h8, -⟩
  rw [hR]
  generalize (fwr f0 g3 0 xtext).g = g4 at *
  clear h7 hR
  obtain ⟨hR, hM⟩ := hM.odd
  go_wp2_with fail
  refine (side_frd h8 1 1).mono ?_
  rintro e w11 ⟨rfl, h9, -⟩
  rw [hR]
  generalize (frd f0 g4 1 1).g = g5 at *
  clear h8 hR
  go_wp2_with fail
  have hO := hM.o1
  have hM := hM.less
  refine (side_cls h9 1).mono ?_
  rintro e w12 ⟨rfl, h10, -⟩
  rw [hO]
  generalize clsT f0 g5 1 = g6 at *
  clear h9 hO
  obtain ⟨hR, hM⟩ := hM.wait
  go_wp2_with fail
  refine (side_frd h10 0 1).mono ?_
  rintro e w13 ⟨rfl, h11, -⟩
  rw [hR, if_pos (by decide)]
  generalize (frd f0 g6 0 1).g = g7 at *
  clear h10 hR
  have hO := hM.o0
  have hN := hM.none
  go_wp2_with fail
  refine (side_cls h11 0).mono ?_
  rintro e w14 ⟨rfl, h12, -⟩
  rw [hO]
  generalize clsT f0 g7 0 = g8 at *
  clear h11 hO
  go_wp2_with fail
  refine (side_pis h12 0).mono ?_
  rintro e w15 ⟨rfl, h13, -⟩
  rw [hN.pt]
  replace hN := hN.same (g' := isPT g8 0) (fun j => get_isPT 0 j)
  generalize isPT g8 0 = g9 at *
  clear h12
  obtain ⟨a1, a2, hC⟩ := hN.alloc
  go_wp2_with fail
  refine (side_alloc h13 3).mono ?_
  rintro e w16 ⟨rfl, h14, -⟩
  rw [a1, show allocV 1 = .tuple #[.int .i64 1, .bool true] from rfl]
  clear h13 a1
  generalize allocT f0 g9 3 = g10 at *
  go_wp2_with fail
  refine (side_opn h14 1 1 3).mono ?_
  rintro e w17 ⟨rfl, h15, -⟩
  rw [a2, show opnV 0 = .tuple #[.int .i64 0, .bool true] from rfl]
  clear h14 a2
  generalize opnT f0 g10 1 1 3 = g11 at *
  go_wp2_with fail
  refine (side_vget h15 11 0).mono ?_
  rintro e w18 ⟨rfl, h16, -⟩
  rw [hC.co]
  replace hC := hC.same (g' := vgetT g11 (11, 0)) (fun j => get_get)
  generalize vgetT g11 (11, 0) = g12 at *
  clear h15
  obtain ⟨F, hF⟩ : ∃ F : Nat, w18.heap.size = F := ⟨_, rfl⟩
  obtain ⟨w19, h19⟩ : ∃ w19, w18.alloc (.cells (vc zeroV).toArray 51) = w19 := ⟨_, rfl⟩
  have hF4 : w19.heap[F]? = some (.cells (vc zeroV).toArray 51 (0, 0)) := by subst h19; exact alloc_at' _ hF
  have k19 : Kept (fun _ => False) w18 w19 := by subst h19; exact (Kept.refl _ _).alloc _
  have c16 : w19.cell? ⟨F, 16, none⟩ = some (.string zeroV.s) := cell_at hF4 rfl
  have f16 := free_at hF4 16
  have k20 : Kept (fun _ => False) w18 (w19.setCell ⟨F, 16, none⟩ (.string t)) := Kept.setCell k19 (fun e => by simp at e; omega) _
  have h20 := h16.still k20
  have hFy : (w19.setCell ⟨F, 16, none⟩ (.string t)).heap[F]? = some (.cells (vc (withS zeroV t)).toArray 51 (0, 0)) := by rw [set_at hF4]; rfl
  have hr := whole_range hFy
  clear h16 k19 hF4 k20
  go_wp2_with (first | (refine list_wnew rfl wide_V _ _ rfl F rfl (vc zeroV) rfl _ rfl hF rfl (vc_one _) ?_) | (refine list_wload rfl wide_V _ rfl F 0 rfl (vc (withS zeroV t)) hr rfl ?_))
  clear c16 f16 hF h19
  generalize w19.setCell ⟨F, 16, none⟩ (.string t) = w20 at *
  clear hr hFy
  refine (side_vput h20 11 0 (withS zeroV t) (by show t.size ≤ 200; have := HT.out; omega)).mono ?_
  rintro e w21 ⟨rfl, h21, -⟩
  replace hC := hC.put (withS zeroV t)
  generalize vputT g12 (11, 0) (withS zeroV t) = g13 at *
  clear h20
  go_wp2_with fail
  refine (within_any m 1 50 (by omega) (by omega) (by omega) w21).mono ?_
  rintro e w22 ⟨rfl, hw⟩
  subst hw
  obtain ⟨a, ha1⟩ : ∃ a : Nat, (a : Int) = 1 + m % (50 - 1 + 1) ∧ 1 ≤ a ∧ a ≤ 50 := ⟨(1 + m % (50 - 1 + 1)).toNat, by omega, by omega, by omega⟩
  obtain ⟨ha1, ha2, ha3⟩ := ha1
  rw [← ha1]
  clear ha1
  obtain ⟨hR, y, hy, hC2⟩ := hC.read (n := a) ha2
  change rdV (frd f0 g13 0 a) = .tuple #[.string (bs ((bl t).take a)), .int .i64 (if t.size = 0 then 2 else 0)] at hR
  obtain ⟨kk, hkk⟩ : ∃ kk : Int, (if t.size = 0 then (2 : Int) else 0) = kk := ⟨_, rfl⟩
  rw [hkk] at hR
  have HK : Hid ((if t.size = 0 then (2 : Int) else 0) = kk) := hkk
  clear hkk
  obtain ⟨v, hv⟩ : ∃ v : Nat, v = min a t.size := ⟨_, rfl⟩
  have hmin : (if t.size < a then (t.size : Int) else (a : Int)) = (v : Int) := by split <;> omega
  have hx : t.extract 0 v = bs ((bl t).take a) := take_ext hv
  have bv' : (v : Int) ≤ (t.size : Int) := by omega
  have HX : Hid (t.extract 0 v = bs ((bl t).take a)) := hx
  clear hx
  generalize bs ((bl t).take a) = sa at *
  have hd0 : 0 ≤ t.size := Nat.zero_le _
  go_wp2_with fail
  refine (side_frd h21 0 a).mono ?_
  rintro e w23 ⟨rfl, h23, -⟩
  rw [hR]
  generalize (frd f0 g13 0 a).g = g14 at *
  obtain ⟨hR2, hz⟩ := hC2.write (d := t) hy (by have := HT.out; omega)
  clear h21 hR hC hC2
  go_wp2_with fail
  refine (side_fwr h23 0 t (by have := HT.out; omega)).mono ?_
  rintro e w24 ⟨rfl, h24, -⟩
  rw [hR2]
  generalize (fwr f0 g14 0 t).g = g15 at *
  clear h23 hR2 hy
  have hx := HX.out
  clear hv HX
  by_cases c : t.size = 0
  · have hc := no_text c
    have hkk : kk = 2 := by rw [← HK.out, if_pos c]
    subst hkk
    clear HK c
    go_wp2_with fail
    refine (side_vget h24 11 0).mono ?_
    rintro e w25 ⟨rfl, h25, -⟩
    have HKK : Hid (Kept (fun _ => False) w w25) := h25.kept
    have hf := field_arr (vgetF f0 g15 (11, 0)) w25
    have hi := index_n0 (vgetF f0 g15 (11, 0)) w25
    clear h24 h25
    generalize vgetF f0 g15 (11, 0) = xx at *
    go_wp2_with fail
    refine (runs_w w25).mono ?_
    rintro e w26 ⟨rfl, k26⟩
    have HK2 : Hid (Kept (fun _ => False) w w26) := HKK.out.thru k26
    clear k26 HKK
    go_wp2_with fail
    go_ret
    exact ⟨rfl, HK2.out⟩
  · have hc := ne_text c
    have hkk : kk = 0 := by rw [← HK.out, if_neg c]
    subst hkk
    clear HK c
    go_wp2_with fail
    refine (side_vget h24 11 0).mono ?_
    rintro e w25 ⟨rfl, h25, -⟩
    have HKK : Hid (Kept (fun _ => False) w w25) := h25.kept
    have hf := field_arr (vgetF f0 g15 (11, 0)) w25
    have hi := index_n0 (vgetF f0 g15 (11, 0)) w25
    clear h24 h25
    generalize vgetF f0 g15 (11, 0) = xx at *
    go_wp2_with fail
    refine (runs_w w25).mono ?_
    rintro e w26 ⟨rfl, k26⟩
    have HK2 : Hid (Kept (fun _ => False) w w26) := HKK.out.thru k26
    clear k26 HKK
    go_wp2_with fail
    go_ret
    exact ⟨rfl, HK2.out⟩
end Go.Proofs.Ytdgkhfhlbjpaoaa
