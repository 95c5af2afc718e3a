/- The chapter's runs; no conditions. -/
import Derived.Test.YtkejnoifcfeliaaMem
import Derived.Deep.RegionHeld3
namespace Go.Proofs.Ytkejnoifcfeliaa
open Go.RowKit

theorem runs_c1 (q : Addr) (p b : Nat) (ws : List Int) (c : Int) (hl : ws.length = 4) (w : World) (hq : w.cell? q = some (.pointer (some ⟨p, 0, none⟩))) (h : MemIn p b ws c w) :
    Calls Try.prog 13 #[.pointer (some q)] w fun e w' => (Out.halts 2 4).ends e ∧ w' = w := by
  have A := load_no p b ws c 4 (by omega) w h
  go_enter Try.func13, Try.ntmps13
  go_wp2_with fail
  refine A.mono ?_
  rintro e w1 ⟨he, rfl⟩
  rcases ends_cases he with ⟨h, rfl⟩ | ⟨hst, v, older, hv, rfl, hold⟩
  · cases h
  · exact ⟨rfl, ends_stop hv hold, rfl⟩

theorem runs_w (w : World) : Calls Try.prog 3 #[] w fun e w' => e = .returned (.bool true) ∧ Kept (fun _ => False) w w' := by
  have hmf := makeF
  have N := new_ok 4 (by omega) w
  rw [show ((4 : Nat) : Int) = 4 from rfl] at N
  go_enter Try.func3, Try.ntmps3
  go_wp2_with fail
  refine N.mono ?_
  rintro e w1 ⟨rfl, hM, hk, hs⟩
  clear N
  have hne : ¬ (some (⟨w.heap.size + 1, 0, none⟩ : Addr)) = none := by simp
  have hM1 : MemIn (w.heap.size + 1) w.heap.size (List.replicate 4 0) 0 (w1.alloc (.cells #[.pointer (some ⟨w.heap.size + 1, 0, none⟩)] 22)) := hM.kept ((Kept.refl (fun _ => False) _).alloc _) (by simp) (by simp)
  have S1 := store_ok _ _ _ _ 2 5 (by simp) (by omega) _ hM1
  rw [show ((2 : Nat) : Int) = 2 from rfl] at S1
  go_wp2_with fail
  refine S1.mono ?_
  rintro e w2 ⟨rfl, hM2, hk2⟩
  clear S1
  have hb : (w1.alloc (.cells #[.pointer (some ⟨w.heap.size + 1, 0, none⟩)] 22)).heap[w.heap.size + 2]? = some (.cells #[.pointer (some ⟨w.heap.size + 1, 0, none⟩)] 22 (0, 0)) := alloc_at' _ hs
  have HK2 : Hid (Kept (fun _ => False) w w2) := Kept.trans (hk.alloc _) hk2 (by intro x hx h; omega)
  have hb2 := (hk2.at hb (by omega))
  have hb2d : w2.drew.heap[w.heap.size + 2]? = some (.cells #[.pointer (some ⟨w.heap.size + 1, 0, none⟩)] 22 (0, 0)) := hb2
  have hM2d : MemIn (w.heap.size + 1) w.heap.size ((List.replicate 4 0).set 2 5) 1 w2.drew := hM2.kept (X := fun _ => False) (Kept.refl _ _).drew (by simp) (by simp)
  have A := add_ok _ _ _ _ 2 3 (by simp) (by omega) _ hM2d
  rw [show ((2 : Nat) : Int) = 2 from rfl] at A
  have c2 := cell_at hb2 (i := 0) rfl
  have s2 := lt_at hb2
  clear hM hM1 hM2 hb hk hk2
  go_wp2_with fail
  go_region_held3 (fun w' => w'.cell? ⟨w.heap.size + 2, 0, none⟩ = some (.pointer (some ⟨w.heap.size + 1, 0, none⟩))) (simp [*])
    (first
      | (go_at_call 9; refine A.mono ?_; rintro e w3 ⟨rfl, hM3, hk3⟩; have hb3 := hk3.at hb2d (by omega); have c3 := cell_at hb3 (i := 0) rfl; have B := swap_ok _ _ _ _ 2 (-1) (by simp) (by omega) _ hM3; rw [show ((2 : Nat) : Int) = 2 from rfl] at B)
      | (go_at_call 10; refine B.mono ?_; rintro e w4 ⟨rfl, hM4, hk4⟩; have hb4 := hk4.at hb3 (by omega); have c4 := cell_at hb4 (i := 0) rfl; have C := load_ok _ _ _ _ 2 (by simp) (by omega) _ hM4; rw [show ((2 : Nat) : Int) = 2 from rfl] at C)
      | (go_at_call 11; refine C.mono ?_; rintro e w5 ⟨rfl, hM5, hk5⟩; have hb5 := hk5.at hb4 (by omega); have c5 := cell_at hb5 (i := 0) rfl))
  have HK5 : Hid (Kept (fun _ => False) w w5) := Kept.trans (Kept.trans (Kept.trans HK2.out.drew hk3 (by intro x hx h; omega)) hk4 (by intro x hx h; omega)) hk5 (by intro x hx h; omega)
  have s5 := lt_at hb5
  clear A B C hM2d hM3 hM4 hk3 hk4 hk5 hb2 hb2d hb3 hb4 c2 c3 c4 s2
  have K0 : Kept (fun _ => False) w5 (inGuard w5) := ((Kept.refl _ w5).alloc _).alloc _
  have G := guard_fn 13 #[.pointer (some ⟨w.heap.size + 2, 0, none⟩)] (fun _ _ => by kernel_rfl) (.halts 2 4) w5
    ((runs_c1 _ _ _ _ _ (by simp) _ (K0.cell c5 (by simp)) (hM5.kept K0 (by simp) (by simp))).mono fun _ _ ⟨he, hw⟩ => ⟨he, hw ▸ Kept.refl _ _⟩)
  clear K0
  have e1 : wd [0, 0, 5, 0] 2 = 5 := rfl
  have e2 : wd [0, 0, wrap64 (5 + 3), 0] 2 = 8 := by show wrap64 (5 + 3) = 8; unfold wrap64; decide
  have e3 : wd [0, 0, -1, 0] 2 = -1 := rfl
  simp only [e1]
  simp only [e2, e3]
  go_wp2_with fail
  refine G.mono ?_
  rintro e w6 ⟨rfl, hk6⟩
  clear G
  simp only [Out.told, Out.stopped, stopV]
  have hM7 := hM5.kept (hk6.alloc (.cells #[.int .i64 2, .int .i64 4] 28)) (by simp) (by simp)
  have c7 := cell_at ((hk6.alloc (.cells #[.int .i64 2, .int .i64 4] 28)).at hb5 (by simp)) (i := 0) rfl
  have HK7 : Hid (Kept (fun _ => False) w (w6.alloc (.cells #[.int .i64 2, .int .i64 4] 28))) := Kept.trans HK5.out (hk6.alloc _) (fun _ _ h => h)
  have C := count_w _ _ _ _ _ hM7
  have c6 := cell_at (hk6.at hb5 (by simp)) (i := 0) rfl
  have s6 := lt_at (hk6.at hb5 (by simp))
  clear hk6 hM5 hM7 hb5 c5 s5 e1 e2 e3
  rw [show (1 + 1 + 1 + 1 : Int) = 4 from rfl] at C
  go_wp2_with fail
  refine C.mono ?_
  rintro e w8 ⟨rfl, rfl⟩
  go_wp2
  go_ret
  exact ⟨rfl, HK7.out⟩
end Go.Proofs.Ytkejnoifcfeliaa
