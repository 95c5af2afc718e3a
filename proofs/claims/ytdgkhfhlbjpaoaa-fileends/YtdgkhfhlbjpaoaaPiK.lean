
/- Pipes as a statement holds them: through one view, through two; no conditions but lengths. -/
import Derived.Test.YtdgkhfhlbjpaoaaPiR
namespace Go.Proofs.Ytdgkhfhlbjpaoaa
open Go.RowKit
set_option maxRecDepth 100000
set_option linter.unusedSimpArgs false

section
variable {w0 : World} {T p B q N : Nat} {g g' : VwF} {w w' : World}
theorem side_pis (h : SideIn w0 T p B q N g w) (i : Int) : Calls Try.prog 22 #[.pointer (some ⟨q, 0, none⟩), .int .i64 i] w
    fun e w' => e = .returned (.bool (isP f0 g i)) ∧ SideIn w0 T p B q N (isPT g i) w' ∧ Kept (fun n => n = N) w w' := by
  refine (pis_w q N p B f0 g i w h.v h.s h.ne).mono ?_
  rintro e w1 ⟨rfl, hv, hk⟩
  exact ⟨rfl, h.put hv (h.sm.isPT i) hk, hk⟩
theorem side_pal (h : SideIn w0 T p B q N g w) : Calls Try.prog 21 #[.pointer (some ⟨q, 0, none⟩)] w
    fun e w' => e = .returned (palV (palA f0 g)) ∧ SideIn w0 T p B q N (palT f0 g) w' ∧ Kept (fun n => n = N) w w' := by
  refine (pal_w q N p B f0 g w h.v h.s h.ne).mono ?_
  rintro e w1 ⟨rfl, hv, hk⟩
  exact ⟨rfl, h.put hv h.sm.pal hk, hk⟩
theorem side_prd (h : SideIn w0 T p B q N g w) (i n : Int) : Calls Try.prog 38 #[.pointer (some ⟨q, 0, none⟩), .int .i64 i, .int .i64 n] w
    fun e w' => e = .returned (prdV (prdS f0 g i n) (prdK f0 g i n)) ∧ SideIn w0 T p B q N (prdT f0 g i n) w' ∧ Kept (fun n => n = N) w w' := by
  refine (prd_w q N p B f0 g i n w h.v h.s h.ne (h.sm.val _)).mono ?_
  rintro e w1 ⟨rfl, hv, hk⟩
  exact ⟨rfl, h.put hv (h.sm.prd i n) hk, hk⟩
theorem side_pwr (h : SideIn w0 T p B q N g w) (i : Int) (d : ByteArray) : Calls Try.prog 41 #[.pointer (some ⟨q, 0, none⟩), .int .i64 i, .string d] w
    fun e w' => e = .returned (pwrV (pwrA f0 g i d) (pwrK f0 g i d)) ∧ SideIn w0 T p B q N (pwrT f0 g i d) w' ∧ Kept (fun n => n = N) w w' := by
  refine (pwr_w q N p B f0 g i d w h.v h.s h.ne (h.sm.val _)).mono ?_
  rintro e w1 ⟨rfl, hv, hk⟩
  exact ⟨rfl, h.put hv (h.sm.pwr i d) hk, hk⟩
theorem side_pend (h : SideIn w0 T p B q N g w) (i : Int) (wr : Bool) (b : Int) : Calls Try.prog 56 #[.pointer (some ⟨q, 0, none⟩), .int .i64 i, .bool wr, .int .i64 b] w
    fun e w' => e = .returned (.bool (isP f0 g i)) ∧ SideIn w0 T p B q N (endT f0 g i wr b) w' ∧ Kept (fun n => n = N) w w' := by
  refine (pend_w q N p B f0 g i wr b w h.v h.s h.ne).mono ?_
  rintro e w1 ⟨rfl, hv, hk⟩
  exact ⟨rfl, h.put hv (h.sm.ends i wr b) hk, hk⟩
end

section
variable {w0 : World} {T p B q N rp rB rq R W : Nat} {f f2 : StF} {g g2 : VwF} {w : World}
theorem kv_pis (h : KeepIn w0 T p B q N rp rB rq R W f f2 g g2 w) (i : Int) : Calls Try.prog 22 #[.pointer (some ⟨q, 0, none⟩), .int .i64 i] w
    fun e w' => e = .returned (.bool (isP f g i)) ∧ KeepIn w0 T p B q N rp rB rq R W f f2 (isPT g i) g2 w' ∧ Kept (fun n => n = N) w w' := by
  refine (pis_w q N p B f g i w h.game.v h.game.s h.nB).mono ?_
  rintro e w1 ⟨rfl, hv, hk⟩
  exact ⟨rfl, h.putV hv hk, hk⟩
theorem kv_pal (h : KeepIn w0 T p B q N rp rB rq R W f f2 g g2 w) : Calls Try.prog 21 #[.pointer (some ⟨q, 0, none⟩)] w
    fun e w' => e = .returned (palV (palA f g)) ∧ KeepIn w0 T p B q N rp rB rq R W f f2 (palT f g) g2 w' ∧ Kept (fun n => n = N) w w' := by
  refine (pal_w q N p B f g w h.game.v h.game.s h.nB).mono ?_
  rintro e w1 ⟨rfl, hv, hk⟩
  exact ⟨rfl, h.putV hv hk, hk⟩
theorem kv_prd (h : KeepIn w0 T p B q N rp rB rq R W f f2 g g2 w) (i n : Int) (hz : (pipV f g i).s.size ≤ 200) : Calls Try.prog 38 #[.pointer (some ⟨q, 0, none⟩), .int .i64 i, .int .i64 n] w
    fun e w' => e = .returned (prdV (prdS f g i n) (prdK f g i n)) ∧ KeepIn w0 T p B q N rp rB rq R W f f2 (prdT f g i n) g2 w' ∧ Kept (fun n => n = N) w w' := by
  refine (prd_w q N p B f g i n w h.game.v h.game.s h.nB hz).mono ?_
  rintro e w1 ⟨rfl, hv, hk⟩
  exact ⟨rfl, h.putV hv hk, hk⟩
theorem kv_pwr (h : KeepIn w0 T p B q N rp rB rq R W f f2 g g2 w) (i : Int) (d : ByteArray) (hz : (pipV f g i).s.size ≤ 200) : Calls Try.prog 41 #[.pointer (some ⟨q, 0, none⟩), .int .i64 i, .string d] w
    fun e w' => e = .returned (pwrV (pwrA f g i d) (pwrK f g i d)) ∧ KeepIn w0 T p B q N rp rB rq R W f f2 (pwrT f g i d) g2 w' ∧ Kept (fun n => n = N) w w' := by
  refine (pwr_w q N p B f g i d w h.game.v h.game.s h.nB hz).mono ?_
  rintro e w1 ⟨rfl, hv, hk⟩
  exact ⟨rfl, h.putV hv hk, hk⟩
theorem kv_pend (h : KeepIn w0 T p B q N rp rB rq R W f f2 g g2 w) (i : Int) (wr : Bool) (b : Int) : Calls Try.prog 56 #[.pointer (some ⟨q, 0, none⟩), .int .i64 i, .bool wr, .int .i64 b] w
    fun e w' => e = .returned (.bool (isP f g i)) ∧ KeepIn w0 T p B q N rp rB rq R W f f2 (endT f g i wr b) g2 w' ∧ Kept (fun n => n = N) w w' := by
  refine (pend_w q N p B f g i wr b w h.game.v h.game.s h.nB).mono ?_
  rintro e w1 ⟨rfl, hv, hk⟩
  exact ⟨rfl, h.putV hv hk, hk⟩
end

end Go.Proofs.Ytdgkhfhlbjpaoaa
