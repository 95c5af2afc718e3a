
/- Pipes as a statement holds them: through one view, through two; chapter 13's runs; no conditions but lengths. -/
import Derived.Test.YtdjdnjngelahjaaPpU
namespace Go.Proofs.Ytdjdnjngelahjaa
open Go.RowKit
set_option maxRecDepth 100000
set_option linter.unusedSimpArgs false

section
variable {w0 : World} {T p B q N : Nat} {g g' : VwF} {w w' : World}
theorem side_pis (h : SideIn w0 T p B q N g w) (i : Int) : Calls Try.prog 13 #[.pointer (some ⟨q, 0, none⟩), .int .i64 i] w
    fun e w' => e = .returned (.bool (isP f0 g i)) ∧ SideIn w0 T p B q N (isPT g i) w' ∧ Kept (fun n => n = N) w w' := by
  refine (pis_w q N p B f0 g i w h.v h.s h.ne).mono ?_
  rintro e w1 ⟨rfl, hv, hk⟩
  exact ⟨rfl, h.put hv (h.sm.isPT i) hk, hk⟩
theorem side_pal (h : SideIn w0 T p B q N g w) : Calls Try.prog 9 #[.pointer (some ⟨q, 0, none⟩)] w
    fun e w' => e = .returned (palV (palA f0 g)) ∧ SideIn w0 T p B q N (palT f0 g) w' ∧ Kept (fun n => n = N) w w' := by
  refine (pal_w q N p B f0 g w h.v h.s h.ne).mono ?_
  rintro e w1 ⟨rfl, hv, hk⟩
  exact ⟨rfl, h.put hv h.sm.pal hk, hk⟩
theorem side_prd (h : SideIn w0 T p B q N g w) (i n : Int) : Calls Try.prog 11 #[.pointer (some ⟨q, 0, none⟩), .int .i64 i, .int .i64 n] w
    fun e w' => e = .returned (prdV (prdS f0 g i n) (prdK f0 g i n)) ∧ SideIn w0 T p B q N (prdT f0 g i n) w' ∧ Kept (fun n => n = N) w w' := by
  refine (prd_w q N p B f0 g i n w h.v h.s h.ne (h.sm.val _)).mono ?_
  rintro e w1 ⟨rfl, hv, hk⟩
  exact ⟨rfl, h.put hv (h.sm.prd i n) hk, hk⟩
theorem side_pwr (h : SideIn w0 T p B q N g w) (i : Int) (d : ByteArray) : Calls Try.prog 10 #[.pointer (some ⟨q, 0, none⟩), .int .i64 i, .string d] w
    fun e w' => e = .returned (pwrV (pwrA f0 g i d) (pwrK f0 g i d)) ∧ SideIn w0 T p B q N (pwrT f0 g i d) w' ∧ Kept (fun n => n = N) w w' := by
  refine (pwr_w q N p B f0 g i d w h.v h.s h.ne (h.sm.val _)).mono ?_
  rintro e w1 ⟨rfl, hv, hk⟩
  exact ⟨rfl, h.put hv (h.sm.pwr i d) hk, hk⟩
theorem side_pend (h : SideIn w0 T p B q N g w) (i : Int) (wr : Bool) (b : Int) : Calls Try.prog 12 #[.pointer (some ⟨q, 0, none⟩), .int .i64 i, .bool wr, .int .i64 b] w
    fun e w' => e = .returned (.bool (isP f0 g i)) ∧ SideIn w0 T p B q N (endT f0 g i wr b) w' ∧ Kept (fun n => n = N) w w' := by
  refine (pend_w q N p B f0 g i wr b w h.v h.s h.ne).mono ?_
  rintro e w1 ⟨rfl, hv, hk⟩
  exact ⟨rfl, h.put hv (h.sm.ends i wr b) hk, hk⟩
end

section
variable {w0 : World} {T p B q N rp rB rq R W : Nat} {f f2 : StF} {g g2 : VwF} {w : World}
theorem kv_pis (h : KeepIn w0 T p B q N rp rB rq R W f f2 g g2 w) (i : Int) : Calls Try.prog 13 #[.pointer (some ⟨q, 0, none⟩), .int .i64 i] w
    fun e w' => e = .returned (.bool (isP f g i)) ∧ KeepIn w0 T p B q N rp rB rq R W f f2 (isPT g i) g2 w' ∧ Kept (fun n => n = N) w w' := by
  refine (pis_w q N p B f g i w h.game.v h.game.s h.nB).mono ?_
  rintro e w1 ⟨rfl, hv, hk⟩
  exact ⟨rfl, h.putV hv hk, hk⟩
theorem kv_pal (h : KeepIn w0 T p B q N rp rB rq R W f f2 g g2 w) : Calls Try.prog 9 #[.pointer (some ⟨q, 0, none⟩)] w
    fun e w' => e = .returned (palV (palA f g)) ∧ KeepIn w0 T p B q N rp rB rq R W f f2 (palT f g) g2 w' ∧ Kept (fun n => n = N) w w' := by
  refine (pal_w q N p B f g w h.game.v h.game.s h.nB).mono ?_
  rintro e w1 ⟨rfl, hv, hk⟩
  exact ⟨rfl, h.putV hv hk, hk⟩
theorem kv_prd (h : KeepIn w0 T p B q N rp rB rq R W f f2 g g2 w) (i n : Int) (hz : (pipV f g i).s.size ≤ 200) : Calls Try.prog 11 #[.pointer (some ⟨q, 0, none⟩), .int .i64 i, .int .i64 n] w
    fun e w' => e = .returned (prdV (prdS f g i n) (prdK f g i n)) ∧ KeepIn w0 T p B q N rp rB rq R W f f2 (prdT f g i n) g2 w' ∧ Kept (fun n => n = N) w w' := by
  refine (prd_w q N p B f g i n w h.game.v h.game.s h.nB hz).mono ?_
  rintro e w1 ⟨rfl, hv, hk⟩
  exact ⟨rfl, h.putV hv hk, hk⟩
theorem kv_pwr (h : KeepIn w0 T p B q N rp rB rq R W f f2 g g2 w) (i : Int) (d : ByteArray) (hz : (pipV f g i).s.size ≤ 200) : Calls Try.prog 10 #[.pointer (some ⟨q, 0, none⟩), .int .i64 i, .string d] w
    fun e w' => e = .returned (pwrV (pwrA f g i d) (pwrK f g i d)) ∧ KeepIn w0 T p B q N rp rB rq R W f f2 (pwrT f g i d) g2 w' ∧ Kept (fun n => n = N) w w' := by
  refine (pwr_w q N p B f g i d w h.game.v h.game.s h.nB hz).mono ?_
  rintro e w1 ⟨rfl, hv, hk⟩
  exact ⟨rfl, h.putV hv hk, hk⟩
theorem kv_pend (h : KeepIn w0 T p B q N rp rB rq R W f f2 g g2 w) (i : Int) (wr : Bool) (b : Int) : Calls Try.prog 12 #[.pointer (some ⟨q, 0, none⟩), .int .i64 i, .bool wr, .int .i64 b] w
    fun e w' => e = .returned (.bool (isP f g i)) ∧ KeepIn w0 T p B q N rp rB rq R W f f2 (endT f g i wr b) g2 w' ∧ Kept (fun n => n = N) w w' := by
  refine (pend_w q N p B f g i wr b w h.game.v h.game.s h.nB).mono ?_
  rintro e w1 ⟨rfl, hv, hk⟩
  exact ⟨rfl, h.putV hv hk, hk⟩
theorem kr_pis (h : KeepIn w0 T p B q N rp rB rq R W f f2 g g2 w) (i : Int) : Calls Try.prog 21 #[.pointer (some ⟨rq, 0, none⟩), .int .i64 i] w
    fun e w' => e = .returned (.bool (isP f2 g2 i)) ∧ KeepIn w0 T p B q N rp rB rq R W f f2 g (isPT g2 i) w' ∧ Kept (RW R W) w w' := by
  refine (rpis_w h.both i).mono ?_
  rintro e w1 ⟨rfl, hb, hk⟩
  exact ⟨rfl, h.putX hb hk, hk⟩
theorem kr_pal (h : KeepIn w0 T p B q N rp rB rq R W f f2 g g2 w) : Calls Try.prog 14 #[.pointer (some ⟨rq, 0, none⟩)] w
    fun e w' => e = .returned (palV (palA f2 g2)) ∧ KeepIn w0 T p B q N rp rB rq R W f f2 g (palT f2 g2) w' ∧ Kept (RW R W) w w' := by
  refine (rpal_w h.both).mono ?_
  rintro e w1 ⟨rfl, hb, hk⟩
  exact ⟨rfl, h.putX hb hk, hk⟩
theorem kr_prd (h : KeepIn w0 T p B q N rp rB rq R W f f2 g g2 w) (i n : Int) (hz : (pipV f2 g2 i).s.size ≤ 200) : Calls Try.prog 15 #[.pointer (some ⟨rq, 0, none⟩), .int .i64 i, .int .i64 n] w
    fun e w' => e = .returned (prdV (prdS f2 g2 i n) (prdK f2 g2 i n)) ∧ KeepIn w0 T p B q N rp rB rq R W f f2 g (prdT f2 g2 i n) w' ∧ Kept (RW R W) w w' := by
  refine (rprd_w h.both i n hz).mono ?_
  rintro e w1 ⟨rfl, hb, hk⟩
  exact ⟨rfl, h.putX hb hk, hk⟩
theorem kr_pwr (h : KeepIn w0 T p B q N rp rB rq R W f f2 g g2 w) (i : Int) (d : ByteArray) (hz : (pipV f2 g2 i).s.size ≤ 200) : Calls Try.prog 18 #[.pointer (some ⟨rq, 0, none⟩), .int .i64 i, .string d] w
    fun e w' => e = .returned (pwrV (pwrA f2 g2 i d) (pwrK f2 g2 i d)) ∧ KeepIn w0 T p B q N rp rB rq R W f f2 g (pwrT f2 g2 i d) w' ∧ Kept (RW R W) w w' := by
  refine (rpwr_w h.both i d hz).mono ?_
  rintro e w1 ⟨rfl, hb, hk⟩
  exact ⟨rfl, h.putX hb hk, hk⟩
theorem kr_pend (h : KeepIn w0 T p B q N rp rB rq R W f f2 g g2 w) (i : Int) (wr : Bool) (b : Int) : Calls Try.prog 19 #[.pointer (some ⟨rq, 0, none⟩), .int .i64 i, .bool wr, .int .i64 b] w
    fun e w' => e = .returned (.bool (isP f2 g2 i)) ∧ KeepIn w0 T p B q N rp rB rq R W f f2 g (endT f2 g2 i wr b) w' ∧ Kept (RW R W) w w' := by
  refine (rpend_w h.both i wr b).mono ?_
  rintro e w1 ⟨rfl, hb, hk⟩
  exact ⟨rfl, h.putX hb hk, hk⟩
end

def abc : ByteArray := ⟨#[97, 98, 99]⟩
def r1 : VwF := palT f0 g0
def r2 : VwF := pwrT f0 r1 0 abc
def r3 : VwF := prdT f0 r2 0 2
def r4 : VwF := prdT f0 r3 0 9
def r5 : VwF := prdT f0 r4 0 1
def r6 : VwF := endT f0 r5 0 true (-1)
def r7 : VwF := prdT f0 r6 0 1
def r8 : VwF := endT f0 r7 0 false (-1)
theorem ra1 : palV (palA f0 g0) = .tuple #[.int .i64 0, .bool true] := by
  have : palA f0 g0 = 0 := by decide +kernel
  rw [this]; rfl
theorem ra2 : pwrV (pwrA f0 r1 0 abc) (pwrK f0 r1 0 abc) = .tuple #[.int .i64 3, .int .i64 0] := by
  have h1 : pwrA f0 r1 0 abc = 3 := by decide +kernel
  have h2 : pwrK f0 r1 0 abc = 0 := by decide +kernel
  rw [h1, h2]; rfl
theorem ra3 : prdV (prdS f0 r2 0 2) (prdK f0 r2 0 2) = .tuple #[.string ⟨#[97, 98]⟩, .int .i64 0] := by
  have h1 : prdS f0 r2 0 2 = ⟨#[97, 98]⟩ := by decide +kernel
  have h2 : prdK f0 r2 0 2 = 0 := by decide +kernel
  rw [h1, h2]; rfl
theorem ra4 : prdV (prdS f0 r3 0 9) (prdK f0 r3 0 9) = .tuple #[.string ⟨#[99]⟩, .int .i64 0] := by
  have h1 : prdS f0 r3 0 9 = ⟨#[99]⟩ := by decide +kernel
  have h2 : prdK f0 r3 0 9 = 0 := by decide +kernel
  rw [h1, h2]; rfl
theorem ra5 : prdV (prdS f0 r4 0 1) (prdK f0 r4 0 1) = .tuple #[.string ⟨#[]⟩, .int .i64 2] := by
  have h1 : prdS f0 r4 0 1 = ⟨#[]⟩ := by decide +kernel
  have h2 : prdK f0 r4 0 1 = 2 := by decide +kernel
  rw [h1, h2]; rfl
theorem ra6 : isP f0 r5 0 = true := by decide +kernel
theorem ra7 : prdV (prdS f0 r6 0 1) (prdK f0 r6 0 1) = .tuple #[.string ⟨#[]⟩, .int .i64 0] := by
  have h1 : prdS f0 r6 0 1 = ⟨#[]⟩ := by decide +kernel
  have h2 : prdK f0 r6 0 1 = 0 := by decide +kernel
  rw [h1, h2]; rfl
theorem ra8 : isP f0 r7 0 = true := by decide +kernel
theorem ra9 : isP f0 r8 0 = false := by decide +kernel

set_option maxHeartbeats 1000000 in
theorem runs_w (w : World) : Calls Try.prog 3 #[] w fun e w' => e = .returned (.bool true) ∧ Kept (fun _ => False) w w' := by
  go_enter Try.func3, Try.ntmps3
  go_wp2_with fail
  refine (side_new w).mono ?_
  rintro e w1 ⟨T, p, B, q, N, rfl, h1, hT⟩
  have c1 := h1.t
  go_wp2_with fail
  refine (side_pal h1).mono ?_
  rintro e w2 ⟨rfl, h2, -⟩
  rw [ra1]
  clear h1 c1
  go_wp2_with fail
  refine (side_pwr h2 0 abc).mono ?_
  rintro e w3 ⟨rfl, h3, -⟩
  rw [show palT f0 g0 = r1 from rfl, ra2]
  clear h2
  go_wp2_with fail
  refine (side_prd h3 0 2).mono ?_
  rintro e w4 ⟨rfl, h4, -⟩
  rw [show pwrT f0 (palT f0 g0) 0 abc = r2 from rfl, ra3]
  clear h3
  go_wp2_with fail
  refine (side_prd h4 0 9).mono ?_
  rintro e w5 ⟨rfl, h5, -⟩
  rw [show prdT f0 (pwrT f0 (palT f0 g0) 0 abc) 0 2 = r3 from rfl, ra4]
  clear h4
  go_wp2_with fail
  refine (side_prd (show SideIn _ _ _ _ _ _ r4 _ from h5) 0 1).mono ?_
  rintro e w6 ⟨rfl, h6, -⟩
  rw [ra5]
  clear h5
  go_wp2_with fail
  refine (side_pend (show SideIn _ _ _ _ _ _ r5 _ from h6) 0 true (-1)).mono ?_
  rintro e w7 ⟨rfl, h7, -⟩
  rw [ra6]
  clear h6
  go_wp2_with fail
  refine (side_prd (show SideIn _ _ _ _ _ _ r6 _ from h7) 0 1).mono ?_
  rintro e w8 ⟨rfl, h8, -⟩
  rw [ra7]
  clear h7
  go_wp2_with fail
  refine (side_pend (show SideIn _ _ _ _ _ _ r7 _ from h8) 0 false (-1)).mono ?_
  rintro e w9 ⟨rfl, h9, -⟩
  rw [ra8]
  clear h8
  go_wp2_with fail
  refine (side_pis (show SideIn _ _ _ _ _ _ r8 _ from h9) 0).mono ?_
  rintro e w10 ⟨rfl, h10, -⟩
  rw [ra9]
  have HK : Hid (Kept (fun _ => False) w w10) := h10.kept
  clear h9 h10
  go_wp2_with fail
  go_ret
  exact ⟨rfl, HK.out⟩
end Go.Proofs.Ytdjdnjngelahjaa
