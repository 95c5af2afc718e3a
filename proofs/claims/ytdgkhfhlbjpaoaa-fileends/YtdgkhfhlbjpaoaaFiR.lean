
/- Chapter 14's run; no conditions. -/
import Derived.Test.YtdgkhfhlbjpaoaaFiE
namespace Go.Proofs.Ytdgkhfhlbjpaoaa
open Go.RowKit
set_option maxRecDepth 100000
set_option linter.unusedSimpArgs false

def abcdef : ByteArray := ⟨#[97, 98, 99, 100, 101, 102]⟩
def xtext : ByteArray := ⟨#[120]⟩
def r1 : VwF := allocT f0 g0 2
def r2 : VwF := writeT f0 r1 1 0 abcdef
def r3 : VwF := changeT f0 r2 1 1 1
def r4 : VwF := opnT f0 r3 1 1 1
def r5 : VwF := (frd f0 r4 0 2).g
def r6 : VwF := (frd f0 r5 0 2).g
def r7 : VwF := dupT f0 r6 0
def r8 : VwF := clsT f0 r7 0
def r9 : VwF := (frd f0 r8 0 9).g
def r10 : VwF := (fwr f0 r9 0 xtext).g
def r11 : VwF := clsT f0 r10 0
def r12 : VwF := isOT r11 0
def r13 : VwF := findT r12 1
theorem ra1 : allocA f0 g0 = 1 := by decide +kernel
theorem ra2 : writeA f0 r1 1 0 abcdef = 6 := by decide +kernel
theorem ra3 : isI f0 r2 1 = true := by decide +kernel
theorem ra4 : opnA f0 r3 = 0 := by decide +kernel
theorem ra5 : (frd f0 r4 0 2).s = ⟨#[97, 98]⟩ := by decide +kernel
theorem ra6 : (frd f0 r5 0 2).s = ⟨#[99, 100]⟩ := by decide +kernel
theorem ra7 : isO f0 r6 0 = true := by decide +kernel
theorem ra8 : isO f0 r7 0 = true := by decide +kernel
theorem ra9 : (frd f0 r8 0 9).s = ⟨#[101, 102]⟩ := by decide +kernel
theorem ra10 : (fwr f0 r9 0 xtext).k = 1 := by decide +kernel
theorem ra11 : isO f0 r10 0 = true := by decide +kernel
theorem ra12 : isO f0 r11 0 = false := by decide +kernel
theorem ra13 : isI f0 r12 1 = true := by decide +kernel
theorem ra14 : (findV f0 r13 1).n1 = 1 := by decide +kernel
theorem rb5 : rdV (frd f0 r4 0 2) = .tuple #[.string ⟨#[97, 98]⟩, .int .i64 0] := by
  have h : (frd f0 r4 0 2).k = 0 := by decide +kernel
  unfold rdV; rw [ra5, h]
theorem rb6 : rdV (frd f0 r5 0 2) = .tuple #[.string ⟨#[99, 100]⟩, .int .i64 0] := by
  have h : (frd f0 r5 0 2).k = 0 := by decide +kernel
  unfold rdV; rw [ra6, h]
theorem rb9 : rdV (frd f0 r8 0 9) = .tuple #[.string ⟨#[101, 102]⟩, .int .i64 0] := by
  have h : (frd f0 r8 0 9).k = 0 := by decide +kernel
  unfold rdV; rw [ra9, h]
theorem rb10 : wrV (fwr f0 r9 0 xtext) = .tuple #[.int .i64 (-1), .int .i64 1] := by
  have h : (fwr f0 r9 0 xtext).a = -1 := by decide +kernel
  unfold wrV; rw [ra10, h]

set_option maxHeartbeats 1000000 in
theorem runs_w (w : World) : Calls Try.prog 3 #[] w fun e w' => e = .returned (.bool true) ∧ Kept (fun _ => False) w w' := by
  go_enter Try.func3, Try.ntmps3
  go_wp2_with fail
  refine (side_new w).mono ?_
  rintro e w1 ⟨T, p, B, q, N, rfl, h1, hT⟩
  have c1 := h1.t
  go_wp2_with fail
  refine (side_alloc h1 2).mono ?_
  rintro e w2 ⟨rfl, h2, -⟩
  rw [ra1, show allocV 1 = .tuple #[.int .i64 1, .bool true] from rfl]
  clear h1 c1
  go_wp2_with fail
  refine (side_write (show SideIn _ _ _ _ _ _ r1 _ from h2) 1 0 abcdef).mono ?_
  rintro e w3 ⟨rfl, h3, -⟩
  rw [ra2]
  clear h2
  go_wp2_with fail
  refine (side_change (show SideIn _ _ _ _ _ _ r2 _ from h3) 1 1 1).mono ?_
  rintro e w4 ⟨rfl, h4, -⟩
  rw [ra3]
  clear h3
  go_wp2_with fail
  refine (side_opn (show SideIn _ _ _ _ _ _ r3 _ from h4) 1 1 1).mono ?_
  rintro e w5 ⟨rfl, h5, -⟩
  rw [ra4, show opnV 0 = .tuple #[.int .i64 0, .bool true] from rfl]
  clear h4
  go_wp2_with fail
  refine (side_frd (show SideIn _ _ _ _ _ _ r4 _ from h5) 0 2).mono ?_
  rintro e w6 ⟨rfl, h6, -⟩
  rw [rb5]
  clear h5
  go_wp2_with fail
  refine (side_frd (show SideIn _ _ _ _ _ _ r5 _ from h6) 0 2).mono ?_
  rintro e w7 ⟨rfl, h7, -⟩
  rw [rb6]
  clear h6
  go_wp2_with fail
  refine (side_dup (show SideIn _ _ _ _ _ _ r6 _ from h7) 0).mono ?_
  rintro e w8 ⟨rfl, h8, -⟩
  rw [ra7]
  clear h7
  go_wp2_with fail
  refine (side_cls (show SideIn _ _ _ _ _ _ r7 _ from h8) 0).mono ?_
  rintro e w9 ⟨rfl, h9, -⟩
  rw [ra8]
  clear h8
  go_wp2_with fail
  refine (side_frd (show SideIn _ _ _ _ _ _ r8 _ from h9) 0 9).mono ?_
  rintro e w10 ⟨rfl, h10, -⟩
  rw [rb9]
  clear h9
  go_wp2_with fail
  refine (side_fwr (show SideIn _ _ _ _ _ _ r9 _ from h10) 0 xtext (by decide)).mono ?_
  rintro e w11 ⟨rfl, h11, -⟩
  rw [rb10]
  clear h10
  go_wp2_with fail
  refine (side_cls (show SideIn _ _ _ _ _ _ r10 _ from h11) 0).mono ?_
  rintro e w12 ⟨rfl, h12, -⟩
  rw [ra11]
  clear h11
  go_wp2_with fail
  refine (side_fis (show SideIn _ _ _ _ _ _ r11 _ from h12) 0).mono ?_
  rintro e w13 ⟨rfl, h13, -⟩
  rw [ra12]
  clear h12
  go_wp2_with fail
  refine (side_is (show SideIn _ _ _ _ _ _ r12 _ from h13) 1).mono ?_
  rintro e w14 ⟨rfl, h14, -⟩
  rw [ra13]
  clear h13
  go_wp2_with fail
  refine (side_links (show SideIn _ _ _ _ _ _ r13 _ from h14) 1).mono ?_
  rintro e w15 ⟨rfl, h15, -⟩
  rw [ra14]
  have HK : Hid (Kept (fun _ => False) w w15) := h15.kept
  clear h14 h15
  go_wp2_with fail
  go_ret
  exact ⟨rfl, HK.out⟩
end Go.Proofs.Ytdgkhfhlbjpaoaa
