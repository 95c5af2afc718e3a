/- The chapter's runs; no conditions. -/
import Derived.Test.YtckbimgoepcoaaaNew
namespace Go.Proofs.Ytckbimgoepcoaaa
open Go.RowKit

/-- Harts of a statement's own, and the variable that holds them. -/
structure Own (p b q : Nat) (hs : List H) (w0 w : World) : Prop where
  harts : HartsIn p b hs w
  box : w.heap[q]? = some (.cells #[.pointer (some ⟨p, 0, none⟩)] 22 (0, 0))
  kept : Kept (fun _ => False) w0 w
  base : w0.heap.size ≤ b
  qb : q ≠ b

theorem Own.still {p b q : Nat} {hs : List H} {w0 w w' : World} (h : Own p b q hs w0 w) (hk : Kept (fun _ => False) w w') : Own p b q hs w0 w' :=
  ⟨h.harts.kept hk (by simp) (by simp), hk.at h.box (by simp), h.kept.trans hk (fun _ _ e => e), h.base, h.qb⟩

theorem Own.moved {p b q : Nat} {hs hs' : List H} {w0 w w' : World} (h : Own p b q hs w0 w) (hh : HartsIn p b hs' w') (hk : Kept (fun k => k = b) w w') : Own p b q hs' w0 w' :=
  ⟨hh, hk.at h.box h.qb, h.kept.trans hk (fun k hk e => by have := h.base; omega), h.base, h.qb⟩

theorem Own.cell {p b q : Nat} {hs : List H} {w0 w : World} (h : Own p b q hs w0 w) : w.cell? ⟨q, 0, none⟩ = some (.pointer (some ⟨p, 0, none⟩)) := cell_at h.box (i := 0) rfl

theorem runs_c1 (q : Addr) (p b : Nat) (hs : List H) (hl : 0 < hs.length) (hn : (hd hs 0).nest = 0) (w : World) (hq : w.cell? q = some (.pointer (some ⟨p, 0, none⟩))) (h : HartsIn p b hs w) :
    Calls Try.prog 12 #[.pointer (some q)] w fun e w' => (Out.halts 4 0).ends e ∧ w' = w := by
  have A := pop_no p b hs 0 hl w h hn
  rw [show ((0 : Nat) : Int) = 0 from rfl] at A
  go_enter Try.func12, Try.ntmps12
  go_wp2_with fail
  refine A.mono ?_
  rintro e w1 ⟨he, rfl⟩
  rcases ends_cases he with ⟨h, rfl⟩ | ⟨hst, v, older, hv, rfl, hold⟩
  · cases h
  · exact ⟨rfl, ends_stop hv hold, rfl⟩

theorem inGuard_kept (w : World) : Kept (fun _ => False) w (inGuard w) := ((Kept.refl _ w).alloc _).alloc _

theorem guard_stops (F : Nat) (cap : Array Value) (hF : Enters F) (o : Out) (w : World) (h : Calls Try.prog F cap (inGuard w) fun e w' => o.ends e ∧ w' = inGuard w) :
    Calls Try.prog 11 #[.func (.func F) #[] cap] w fun e w' => e = .returned (.tuple #[o.told, .bool o.stopped]) ∧ Kept (fun _ => False) w w' :=
  guard_fn F cap hF o w (h.mono fun _ _ ⟨he, hw⟩ => ⟨he, hw ▸ Kept.refl _ _⟩)

set_option maxHeartbeats 800000 in
theorem runs_w (w : World) : Calls Try.prog 3 #[] w fun e w' => e = .returned (.bool true) ∧ Kept (fun _ => False) w w' := by
  have hmf := makeF
  have N := new_ok 2 (by omega) (by omega) w
  rw [show ((2 : Nat) : Int) = 2 from rfl] at N
  obtain ⟨B, hB⟩ : ∃ B : Nat, w.heap.size = B := ⟨_, rfl⟩
  rw [hB] at N
  go_enter Try.func3, Try.ntmps3
  go_wp2_with fail
  refine N.mono ?_
  rintro e w1 ⟨rfl, hM, hk, hs⟩
  clear N
  have O1 : Own (B + 1) B (B + 2) [⟨true, 0, 0⟩, ⟨true, 0, 0⟩] w (w1.alloc (.cells #[.pointer (some ⟨B + 1, 0, none⟩)] 22)) :=
    ⟨hM.kept ((Kept.refl (fun _ => False) _).alloc _) (by simp) (by simp), alloc_at' _ hs, hk.alloc _, by omega, by omega⟩
  clear hM hk
  have P := push_ok _ _ _ 0 (by decide) _ O1.harts (by decide)
  rw [show ((0 : Nat) : Int) = 0 from rfl] at P
  go_wp2_with fail
  refine P.mono ?_
  rintro e w2 ⟨rfl, h2, k2⟩
  have O2 : Own (B + 1) B (B + 2) [⟨true, 1, 0⟩, ⟨true, 0, 0⟩] w w2 := O1.moved h2 k2
  have c2 := O2.cell
  clear h2 k2 O1 P
  have P := push_ok _ _ _ 0 (by decide) _ O2.harts (by decide)
  rw [show ((0 : Nat) : Int) = 0 from rfl] at P
  go_wp2_with fail
  refine P.mono ?_
  rintro e w3 ⟨rfl, h3, k3⟩
  have O3 : Own (B + 1) B (B + 2) [⟨true, 2, 0⟩, ⟨true, 0, 0⟩] w w3 := O2.moved h3 k3
  have c3 := O3.cell
  clear h3 k3 O2 P c2
  have P := pop_ok _ _ _ 0 (by decide) _ O3.harts 1 (by decide) (by decide)
  rw [show ((0 : Nat) : Int) = 0 from rfl] at P
  go_wp2_with fail
  refine P.mono ?_
  rintro e w4 ⟨rfl, h4, k4⟩
  have O4 : Own (B + 1) B (B + 2) [⟨true, 1, 0⟩, ⟨true, 0, 0⟩] w w4 := O3.moved h4 k4
  have c4 := O4.cell
  clear h4 k4 O3 P c3
  have P := on_ok _ _ _ 0 (by decide) _ O4.harts
  rw [show ((0 : Nat) : Int) = 0 from rfl, show (hd [⟨true, 1, 0⟩, ⟨true, 0, 0⟩] 0).isOn = false from rfl] at P
  go_wp2_with fail
  refine P.mono ?_
  rintro e w5 ⟨rfl, rfl⟩
  clear P
  have P := pop_ok _ _ _ 0 (by decide) _ O4.harts 0 (by decide) (by decide)
  rw [show ((0 : Nat) : Int) = 0 from rfl] at P
  go_wp2_with fail
  refine P.mono ?_
  rintro e w6 ⟨rfl, h6, k6⟩
  have O6 : Own (B + 1) B (B + 2) [⟨true, 0, 0⟩, ⟨true, 0, 0⟩] w w6 := O4.moved h6 k6
  have c6 := O6.cell
  clear h6 k6 O4 P c4
  have P := on_ok _ _ _ 0 (by decide) _ O6.harts
  rw [show ((0 : Nat) : Int) = 0 from rfl, show (hd [⟨true, 0, 0⟩, ⟨true, 0, 0⟩] 0).isOn = true from rfl] at P
  go_wp2_with fail
  refine P.mono ?_
  rintro e w7 ⟨rfl, rfl⟩
  clear P
  have K0 := inGuard_kept w7
  have G := guard_stops 12 #[.pointer (some ⟨B + 2, 0, none⟩)] (fun _ _ => by kernel_rfl) (.halts 4 0) w7
    (runs_c1 _ _ _ _ (by decide) (by decide) _ (K0.cell c6 (by simp)) (O6.still K0).harts)
  clear K0
  go_wp2_with fail
  refine G.mono ?_
  rintro e w8 ⟨rfl, k8⟩
  simp only [Out.told, Out.stopped, stopV]
  have O8 : Own (B + 1) B (B + 2) [⟨true, 0, 0⟩, ⟨true, 0, 0⟩] w (w8.alloc (.cells #[.int .i64 4, .int .i64 0] 27)) := O6.still (k8.alloc _)
  have c8 := O8.cell
  have s8 := alloc_at w8 (.cells #[.int .i64 4, .int .i64 0] 27)
  have l8 := lt_at (O6.still k8).box
  have c8' := (O6.still k8).cell
  obtain ⟨D, hD⟩ : ∃ D : Nat, w8.heap.size = D := ⟨_, rfl⟩
  rw [hD] at s8
  have hDB : D ≠ B := by omega
  clear O6 c6 G k8
  have P := post_ok _ _ _ 1 5 (by decide) (by decide) _ O8.harts (by decide)
  rw [show ((1 : Nat) : Int) = 1 from rfl, show ((5 : Nat) : Int) = 5 from rfl] at P
  go_wp2_with fail
  refine P.mono ?_
  rintro e w9 ⟨rfl, h9, k9⟩
  have s9 := k9.at s8 hDB
  have O9 : Own (B + 1) B (B + 2) [⟨true, 0, 0⟩, ⟨true, 0, 32⟩] w w9 := O8.moved h9 k9
  have c9 := O9.cell
  clear h9 k9 O8 P c8 c8' s8 l8
  have P := post_ok _ _ _ 1 2 (by decide) (by decide) _ O9.harts (by decide)
  rw [show ((1 : Nat) : Int) = 1 from rfl, show ((2 : Nat) : Int) = 2 from rfl] at P
  go_wp2_with fail
  refine P.mono ?_
  rintro e w10 ⟨rfl, h10, k10⟩
  have s10 := k10.at s9 hDB
  have O10 : Own (B + 1) B (B + 2) [⟨true, 0, 0⟩, ⟨true, 0, 36⟩] w w10 := O9.moved h10 k10
  have c10 := O10.cell
  clear h10 k10 O9 P c9 s9
  have P := take_some _ _ _ 1 (by decide) _ O10.harts (by decide) (by decide)
  rw [show ((1 : Nat) : Int) = 1 from rfl, show mleast (hd [⟨true, 0, 0⟩, ⟨true, 0, 36⟩] 1).mail = 2 from rfl, show ((2 : Nat) : Int) = 2 from rfl] at P
  go_wp2_with fail
  refine P.mono ?_
  rintro e w11 ⟨rfl, h11, k11⟩
  have s11 := k11.at s10 hDB
  have O11 : Own (B + 1) B (B + 2) [⟨true, 0, 0⟩, ⟨true, 0, 32⟩] w w11 := O10.moved h11 k11
  have c11 := O11.cell
  clear h11 k11 O10 P c10 s10
  have P := take_some _ _ _ 1 (by decide) _ O11.harts (by decide) (by decide)
  rw [show ((1 : Nat) : Int) = 1 from rfl, show mleast (hd [⟨true, 0, 0⟩, ⟨true, 0, 32⟩] 1).mail = 5 from rfl, show ((5 : Nat) : Int) = 5 from rfl] at P
  go_wp2_with fail
  refine P.mono ?_
  rintro e w12 ⟨rfl, h12, k12⟩
  have s12 := k12.at s11 hDB
  have O12 : Own (B + 1) B (B + 2) [⟨true, 0, 0⟩, ⟨true, 0, 0⟩] w w12 := O11.moved h12 k12
  have c12 := O12.cell
  clear h12 k12 O11 P c11 s11
  have P := take_none _ _ _ 1 (by decide) _ O12.harts (by decide)
  rw [show ((1 : Nat) : Int) = 1 from rfl] at P
  go_wp2_with fail
  refine P.mono ?_
  rintro e w13 ⟨rfl, rfl⟩
  clear P
  have d0 := cell_at s12 (i := 0) rfl
  have d1 := cell_at s12 (i := 1) rfl
  have HK : Hid _ := O12.kept
  clear s12 O12
  go_wp2
  go_ret
  exact ⟨rfl, HK.out⟩
end Go.Proofs.Ytckbimgoepcoaaa
