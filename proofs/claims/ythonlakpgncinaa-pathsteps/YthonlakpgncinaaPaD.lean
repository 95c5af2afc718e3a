
/- A new tree; the closed sentence; no conditions. -/
import Derived.Test.YthonlakpgncinaaPaC
import Derived.Deep.CutBlock
namespace Go.Proofs.Ythonlakpgncinaa
open Go.RowKit
set_option maxRecDepth 100000
set_option linter.unusedSimpArgs false

set_option maxHeartbeats 1000000 in
theorem tree_w (w : World) : Calls Try.prog 7 #[] w fun e w' => ∃ T p B q N, e = .returned (.pointer (some ⟨T, 0, none⟩)) ∧ SideIn w T p B q N t9 w' ∧ w.heap.size ≤ T := by
  go_enter Try.func7, Try.ntmps7
  go_wp2_with fail
  refine (side_new w).mono ?_
  rintro e w1 ⟨T, p, B, q, N, rfl, h1, hT⟩
  obtain ⟨G, hG⟩ : ∃ G : Nat, w1.heap.size = G := ⟨_, rfl⟩
  have k1 : Kept (fun _ => False) w1 (w1.alloc (.cells #[.int .i64 1, .int .i64 1, .int .i64 2] 3)) := (Kept.refl _ _).alloc _
  have H0 : Hid (SideIn w T p B q N (tA 0) (w1.alloc (.cells #[.int .i64 1, .int .i64 1, .int .i64 2] 3)) ∧ (w1.alloc (.cells #[.int .i64 1, .int .i64 1, .int .i64 2] 3)).heap[G]? = some (.cells #[.int .i64 1, .int .i64 1, .int .i64 2] 3 (0, 0)) ∧ N < G) := ⟨h1.still k1, alloc_at' _ hG, by have := h1.v.map.lt; omega⟩
  clear h1 k1
  go_wp2_with fail
  generalize w1.alloc (.cells #[.int .i64 1, .int .i64 1, .int .i64 2] 3) = w2 at *
  clear hG
  go_loopw [3, 4, 5, 12] (fun _ _ _ y wr => ∃ i : Nat, y = .int .i64 i ∧ i ≤ 3 ∧ Hid (SideIn w T p B q N (tA i) wr ∧ wr.heap[G]? = some (.cells #[.int .i64 1, .int .i64 1, .int .i64 2] 3 (0, 0)) ∧ N < G)) (fun _ _ _ y _ => 3 - (intOf y).toNat)
  case atStart => exact ⟨0, rfl, by omega, H0.out⟩
  case round =>
    clear H0
    obtain ⟨i, rfl, hi, HI⟩ := hrel
    by_cases hlt : i < 3
    · have t1 : (i : Int) < 3 := by omega
      obtain ⟨hs, hG, hN⟩ := HI.out
      have hc : wr.cell? ⟨G, i, none⟩ = some (.int .i64 (tY i)) := by
        refine cell_at hG ?_
        rcases (by omega : i = 0 ∨ i = 1 ∨ i = 2) with rfl | rfl | rfl <;> rfl
      have ht : wr.cell? ⟨T, 1, none⟩ = some (.pointer (some ⟨q, 0, none⟩)) := hs.t
      have hA := tA_ok ⟨i, hlt⟩
      simp only at hA
      have hV : allocV (allocA f0 (tA i)) = .tuple #[.int .i64 ((i : Int) + 1), .bool true] := by
        rw [hA]; unfold allocV
        rw [if_pos (by omega), decide_eq_true (by omega)]
      have hn := tA_next i hlt
      clear HI hA
      go_wp2_with fail
      refine (side_alloc hs (tY i)).mono ?_
      rintro e w3 ⟨rfl, hs3, hk3⟩
      rw [hV]
      have HN : Hid (SideIn w T p B q N (tA (i + 1)) w3 ∧ w3.heap[G]? = some (.cells #[.int .i64 1, .int .i64 1, .int .i64 2] 3 (0, 0)) ∧ N < G) := ⟨by rw [hn]; exact hs3, hk3.at hG (show ¬ G = N by omega), hN⟩
      clear hs hG hs3 hk3 hV hn ht hc
      go_wp2_with fail
      go_roundw
      case rel => exact ⟨i + 1, by go_num, by omega, HN.out⟩
      case measure => simp [intOf]; omega
    · obtain rfl : i = 3 := by omega
      have HS : Hid (SideIn w T p B q N t3 wr) := HI.out.1
      clear HI
      have c1 : wr.cell? ⟨T, 1, none⟩ = some (.pointer (some ⟨q, 0, none⟩)) := HS.out.t
      go_wp2_with fail
      refine (side_dadd HS.out 1 ⟨#[46]⟩ (by decide) 1).mono ?_
      rintro e w4 ⟨rfl, hs4, -⟩
      rw [show addOk f0 t3 1 (bl ⟨#[46]⟩) 1 = true from ok4]
      have c4 := hs4.t
      go_wp2_with fail
      refine (side_dadd hs4 1 ⟨#[46, 46]⟩ (by decide) 1).mono ?_
      rintro e w5 ⟨rfl, hs5, -⟩
      rw [show addOk f0 (addT f0 t3 1 (bl ⟨#[46]⟩) 1) 1 (bl ⟨#[46, 46]⟩) 1 = true from ok5]
      have c5 := hs5.t
      clear c4 hs4 c1 HS
      go_wp2_with fail
      refine (side_dadd hs5 1 ⟨#[97]⟩ (by decide) 2).mono ?_
      rintro e w6 ⟨rfl, hs6, -⟩
      rw [show addOk f0 (addT f0 (addT f0 t3 1 (bl ⟨#[46]⟩) 1) 1 (bl ⟨#[46, 46]⟩) 1) 1 (bl ⟨#[97]⟩) 2 = true from ok6]
      replace hs6 : SideIn w T p B q N t6 w6 := hs6
      have c6 := hs6.t
      clear c5 hs5
      go_wp2_with fail
      refine (side_dadd hs6 2 ⟨#[46]⟩ (by decide) 2).mono ?_
      rintro e w7 ⟨rfl, hs7, -⟩
      rw [show addOk f0 t6 2 (bl ⟨#[46]⟩) 2 = true from ok7]
      replace hs7 : SideIn w T p B q N t7 w7 := hs7
      have c7 := hs7.t
      clear c6 hs6
      go_wp2_with fail
      refine (side_dadd hs7 2 ⟨#[46, 46]⟩ (by decide) 1).mono ?_
      rintro e w8 ⟨rfl, hs8, -⟩
      rw [show addOk f0 t7 2 (bl ⟨#[46, 46]⟩) 1 = true from ok8]
      replace hs8 : SideIn w T p B q N t8 w8 := hs8
      have c8 := hs8.t
      clear c7 hs7
      go_wp2_with fail
      refine (side_dadd hs8 2 ⟨#[98]⟩ (by decide) 3).mono ?_
      rintro e w9 ⟨rfl, hs9, -⟩
      rw [show addOk f0 t8 2 (bl ⟨#[98]⟩) 3 = true from ok9]
      have HZ : Hid (SideIn w T p B q N t9 w9) := hs9
      clear c8 hs8 hs9
      go_wp2_with fail
      go_ret
      exact ⟨T, p, B, q, N, rfl, HZ.out, hT⟩

theorem r1 : walkA f0 t9 1 [47, 97, 47, 98] = some 3 := by decide +kernel
theorem r2 : walkA f0 t9 2 [98] = some 3 := by decide +kernel
theorem r3 : parA f0 t9 1 [47, 97, 47, 99] = some (2, [99]) := by decide +kernel
theorem r4 : walkA f0 t9 1 [47, 97, 47, 99] = none := by decide +kernel
theorem r5 : parA f0 t9 1 [47] = none := by decide +kernel

/-- A view in which all is found that g has. -/
def LookIn (w0 : World) (T p B q N : Nat) (g : VwF) (w : World) : Prop := ∃ g', SideIn w0 T p B q N g' w ∧ ∀ j, findV f0 g' j = findV f0 g j
section
variable {w0 : World} {T p B q N : Nat} {g : VwF} {w w' : World}
theorem LookIn.still (h : LookIn w0 T p B q N g w) (hk : Kept (fun _ => False) w w') : LookIn w0 T p B q N g w' := by
  obtain ⟨g', h1, h2⟩ := h
  exact ⟨g', h1.still hk, h2⟩
theorem LookIn.t (h : LookIn w0 T p B q N g w) : w.cell? ⟨T, 1, none⟩ = some (.pointer (some ⟨q, 0, none⟩)) := by
  obtain ⟨g', h1, -⟩ := h
  exact h1.t
theorem LookIn.kept (h : LookIn w0 T p B q N g w) : Kept (fun _ => False) w0 w := by
  obtain ⟨g', h1, -⟩ := h
  exact h1.kept
theorem SideIn.looks (h : SideIn w0 T p B q N g w) : LookIn w0 T p B q N g w := ⟨g, h, fun _ => rfl⟩
theorem look_walk (h : LookIn w0 T p B q N g w) (c : Int) (s : ByteArray) (hs : s.size ≤ 100000) : Calls Try.prog 8 #[.pointer (some ⟨q, 0, none⟩), .int .i64 c, .string s] w
    fun e w' => e = .returned (foundV (walkA f0 g c (bl s))) ∧ LookIn w0 T p B q N g w' := by
  obtain ⟨g', h1, h2⟩ := h
  refine (side_walk h1 c s hs).mono ?_
  rintro e w1 ⟨rfl, hv, -⟩
  exact ⟨by rw [walk_eq h2], _, hv, fun j => by rw [walkT_find, h2]⟩
theorem look_par (h : LookIn w0 T p B q N g w) (c : Int) (s : ByteArray) (hs : s.size ≤ 100000) : Calls Try.prog 9 #[.pointer (some ⟨q, 0, none⟩), .int .i64 c, .string s] w
    fun e w' => e = .returned (parV (parA f0 g c (bl s))) ∧ LookIn w0 T p B q N g w' := by
  obtain ⟨g', h1, h2⟩ := h
  refine (side_par h1 c s hs).mono ?_
  rintro e w1 ⟨rfl, hv, -⟩
  exact ⟨by rw [par_eq h2], _, hv, fun j => by rw [parT_find, h2]⟩
theorem look_is (h : LookIn w0 T p B q N g w) (i : Int) : Calls Try.prog 20 #[.pointer (some ⟨q, 0, none⟩), .int .i64 i] w
    fun e w' => e = .returned (.bool (isI f0 g i)) ∧ LookIn w0 T p B q N g w' := by
  obtain ⟨g', h1, h2⟩ := h
  refine (side_is h1 i).mono ?_
  rintro e w1 ⟨rfl, hv, -⟩
  exact ⟨by rw [isI_eq h2], _, hv, fun j => by rw [find_find, h2]⟩
theorem look_dis (h : LookIn w0 T p B q N g w) (i : Int) : Calls Try.prog 19 #[.pointer (some ⟨q, 0, none⟩), .int .i64 i] w
    fun e w' => e = .returned (.bool (isDirF f0 g i)) ∧ LookIn w0 T p B q N g w' := by
  obtain ⟨g', h1, h2⟩ := h
  refine (side_dis h1 i).mono ?_
  rintro e w1 ⟨rfl, hv, -⟩
  exact ⟨by rw [isD_eq h2], _, hv, fun j => by rw [find_find, h2]⟩
theorem look_dfind (h : LookIn w0 T p B q N g w) (d : Int) (s : ByteArray) (hs : s.size ≤ 1000000) : Calls Try.prog 18 #[.pointer (some ⟨q, 0, none⟩), .int .i64 d, .string s] w
    fun e w' => e = .returned (foundV (inF g d (bl s))) ∧ LookIn w0 T p B q N g w' := by
  obtain ⟨g', h1, h2⟩ := h
  refine (side_dfind h1 d s hs).mono ?_
  rintro e w1 ⟨rfl, hv, -⟩
  exact ⟨by unfold inF; rw [dirE_eq (h2 d)], _, hv, fun j => by rw [find_find, h2]⟩
end

set_option maxHeartbeats 1000000 in
theorem runs_w (w : World) : Calls Try.prog 3 #[] w fun e w' => e = .returned (.bool true) ∧ Kept (fun _ => False) w w' := by
  go_enter Try.func3, Try.ntmps3
  go_wp2_with fail
  refine (tree_w w).mono ?_
  rintro e w1 ⟨T, p, B, q, N, rfl, h1, hT⟩
  have l1 := h1.looks
  have c1 := l1.t
  go_wp2_with fail
  refine (look_walk l1 1 ⟨#[47, 97, 47, 98]⟩ (by decide)).mono ?_
  rintro e w2 ⟨rfl, l2⟩
  rw [show walkA f0 t9 1 (bl ⟨#[47, 97, 47, 98]⟩) = some 3 from r1, found_yes]
  have c2 := l2.t
  clear h1 l1 c1
  go_wp2_with fail
  refine (look_walk l2 2 ⟨#[98]⟩ (by decide)).mono ?_
  rintro e w3 ⟨rfl, l3⟩
  rw [show walkA f0 t9 2 (bl ⟨#[98]⟩) = some 3 from r2, found_yes]
  have c3 := l3.t
  clear l2 c2
  go_wp2_with fail
  refine (look_par l3 1 ⟨#[47, 97, 47, 99]⟩ (by decide)).mono ?_
  rintro e w4 ⟨rfl, l4⟩
  rw [show parA f0 t9 1 (bl ⟨#[47, 97, 47, 99]⟩) = some (2, [99]) from r3, par_yes, show bs [99] = ⟨#[99]⟩ from rfl]
  have c4 := l4.t
  clear l3 c3
  go_wp2_with fail
  refine (look_walk l4 1 ⟨#[47, 97, 47, 99]⟩ (by decide)).mono ?_
  rintro e w5 ⟨rfl, l5⟩
  rw [show walkA f0 t9 1 (bl ⟨#[47, 97, 47, 99]⟩) = none from r4, found_no]
  have c5 := l5.t
  clear l4 c4
  go_wp2_with fail
  refine (look_par l5 1 ⟨#[47]⟩ (by decide)).mono ?_
  rintro e w6 ⟨rfl, l6⟩
  rw [show parA f0 t9 1 (bl ⟨#[47]⟩) = none from r5, par_no]
  have HK : Hid (Kept (fun _ => False) w w6) := l6.kept
  clear l5 c5 l6
  go_wp2_with fail
  go_ret
  exact ⟨rfl, HK.out⟩
end Go.Proofs.Ythonlakpgncinaa
