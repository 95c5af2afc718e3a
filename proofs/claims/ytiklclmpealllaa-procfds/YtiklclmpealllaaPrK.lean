
/- Processes as a statement holds them, through one view; no conditions. -/
import Derived.Test.YtiklclmpealllaaPrC
import Derived.Test.YtiklclmpealllaaPrE
import Derived.Test.YtiklclmpealllaaPrD
namespace Go.Proofs.Ytiklclmpealllaa
open Go.RowKit
set_option maxRecDepth 100000
set_option linter.unusedSimpArgs false

section
variable {w0 : World} {T p B q N : Nat} {g : VwF} {w : World}
theorem side_state (h : SideIn w0 T p B q N g w) (i : Int) : Calls Try.prog 15 #[.pointer (some ⟨q, 0, none⟩), .int .i64 i] w
    fun e w' => e = .returned (.int .i64 (stA f0 g i)) ∧ SideIn w0 T p B q N (stT f0 g i) w' ∧ Kept (fun n => n = N) w w' := by
  refine (state_w q N p B f0 g i w h.v h.s h.ne).mono ?_
  rintro e w1 ⟨rfl, hv, hk⟩
  exact ⟨rfl, h.put hv (h.sm.stT i) hk, hk⟩
theorem side_nw (h : SideIn w0 T p B q N g w) (par : Int) : Calls Try.prog 7 #[.pointer (some ⟨q, 0, none⟩), .int .i64 par] w
    fun e w' => e = .returned (nwR (nwA f0 g)) ∧ SideIn w0 T p B q N (nwT f0 g par) w' ∧ Kept (fun n => n = N) w w' := by
  refine (nw_w q N p B f0 g par w h.v h.s h.ne).mono ?_
  rintro e w1 ⟨rfl, hv, hk⟩
  exact ⟨rfl, h.put hv (h.sm.nwT par) hk, hk⟩
theorem side_fr (h : SideIn w0 T p B q N g w) (i : Int) : Calls Try.prog 12 #[.pointer (some ⟨q, 0, none⟩), .int .i64 i] w
    fun e w' => e = .returned (.bool (isR f0 g i)) ∧ SideIn w0 T p B q N (frT f0 g i) w' ∧ Kept (fun n => n = N) w w' := by
  refine (fr_w q N p B f0 g i w h.v h.s h.ne).mono ?_
  rintro e w1 ⟨rfl, hv, hk⟩
  exact ⟨rfl, h.put hv (h.sm.frT i) hk, hk⟩
theorem side_fd (h : SideIn w0 T p B q N g w) (i d : Int) : Calls Try.prog 16 #[.pointer (some ⟨q, 0, none⟩), .int .i64 i, .int .i64 d] w
    fun e w' => e = .returned (fdV f0 g i d) ∧ SideIn w0 T p B q N (fdT f0 g i d) w' ∧ Kept (fun n => n = N) w w' := by
  refine (fd_w q N p B f0 g i d w h.v h.s h.ne).mono ?_
  rintro e w1 ⟨rfl, hv, hk⟩
  exact ⟨rfl, h.put hv (h.sm.fdT i d) hk, hk⟩
theorem side_sd (h : SideIn w0 T p B q N g w) (i d a : Int) : Calls Try.prog 10 #[.pointer (some ⟨q, 0, none⟩), .int .i64 i, .int .i64 d, .int .i64 a] w
    fun e w' => e = .returned (.bool (sdB f0 g i d a)) ∧ SideIn w0 T p B q N (sdT f0 g i d a) w' ∧ Kept (fun n => n = N) w w' := by
  refine (sd_w q N p B f0 g i d a w h.v h.s h.ne).mono ?_
  rintro e w1 ⟨rfl, hv, hk⟩
  exact ⟨rfl, h.put hv (h.sm.sdT i d a) hk, hk⟩
theorem side_ff (h : SideIn w0 T p B q N g w) (i : Int) : Calls Try.prog 11 #[.pointer (some ⟨q, 0, none⟩), .int .i64 i] w
    fun e w' => e = .returned (ffV f0 g i) ∧ SideIn w0 T p B q N (ffT f0 g i) w' ∧ Kept (fun n => n = N) w w' := by
  refine (ff_w q N p B f0 g i w h.v h.s h.ne).mono ?_
  rintro e w1 ⟨rfl, hv, hk⟩
  exact ⟨rfl, h.put hv (h.sm.ffT i) hk, hk⟩
theorem side_bypid (h : SideIn w0 T p B q N g w) (m : Int) : Calls Try.prog 9 #[.pointer (some ⟨q, 0, none⟩), .int .i64 m] w
    fun e w' => e = .returned (nwR (pidA f0 g m)) ∧ SideIn w0 T p B q N (pidT f0 g m) w' ∧ Kept (fun n => n = N) w w' := by
  refine (bypid_w q N p B f0 g m w h.v h.s h.ne).mono ?_
  rintro e w1 ⟨rfl, hv, hk⟩
  exact ⟨rfl, h.put hv (h.sm.walk _) hk, hk⟩
theorem side_kids (h : SideIn w0 T p B q N g w) (m : Int) : Calls Try.prog 8 #[.pointer (some ⟨q, 0, none⟩), .int .i64 m] w
    fun e w' => ∃ v, e = .returned v ∧ OwnX (fun n => n = N) w v (kidsN f0 g (wrap64 (m + 1)) 8) w' ∧ SideIn w0 T p B q N (walkT f0 g 8) w' := by
  refine (kids_w q N p B f0 g m w h.v h.s h.ne).mono ?_
  rintro e w1 ⟨v, rfl, ho, hv⟩
  exact ⟨v, rfl, ho, h.put hv (h.sm.walk 8) ho.kept⟩
end

def r1 : VwF := nwT f0 g0 (-1)
def r2 : VwF := nwT f0 r1 0
def r3 : VwF := walkT f0 r2 8
def r4 : VwF := pidT f0 r3 2
def r5 : VwF := sdT f0 r4 1 0 3
def r6 : VwF := ffT f0 r5 1
def r7 : VwF := frT f0 r6 1
def r8 : VwF := nwT f0 r7 0
theorem ra1 : nwA f0 g0 = 0 := by decide +kernel
theorem ra2 : nwA f0 r1 = 1 := by decide +kernel
theorem ra3 : kidsN f0 r2 (wrap64 (0 + 1)) 8 = [1] := by decide +kernel
theorem ra4 : pidA f0 r3 2 = 1 := by decide +kernel
theorem ra5 : sdB f0 r4 1 0 3 = true := by decide +kernel
theorem ra6 : ffB f0 r5 1 = true := by decide +kernel
theorem rb6 : ffA f0 r5 1 = 1 := by decide +kernel
theorem ra7 : isR f0 r6 1 = true := by decide +kernel
theorem ra8 : nwA f0 r7 = 1 := by decide +kernel
theorem ra9 : pidA f0 r8 3 = 1 := by decide +kernel
theorem rc6 : ffV f0 r5 1 = .tuple #[.int .i64 1, .bool true] := by unfold ffV; rw [ra6, rb6]; rfl

set_option maxHeartbeats 1000000 in
theorem runs_w (w : World) : Calls Try.prog 3 #[] w fun e w' => e = .returned (.bool true) ∧ Kept (fun _ => False) w w' := by
  go_enter Try.func3, Try.ntmps3
  go_wp2_with fail
  refine (side_new w).mono ?_
  rintro e w1 ⟨T, p, B, q, N, rfl, h1, hT⟩
  have c1 := h1.t
  go_wp2_with fail
  refine (side_nw h1 (-1)).mono ?_
  rintro e w2 ⟨rfl, h2, -⟩
  rw [ra1, show nwR 0 = .tuple #[.int .i64 0, .bool true] from rfl]
  clear h1 c1
  go_wp2_with fail
  refine (side_nw (show SideIn _ _ _ _ _ _ r1 _ from h2) 0).mono ?_
  rintro e w3 ⟨rfl, h3, -⟩
  rw [ra2, show nwR 1 = .tuple #[.int .i64 1, .bool true] from rfl]
  clear h2
  go_wp2_with fail
  have lN : ∀ k, k = N → k < w3.heap.size := fun k e => by have := h3.v.map.lt; omega
  refine (side_kids (show SideIn _ _ _ _ _ _ r2 _ from h3) 0).mono ?_
  rintro e w4 ⟨v, rfl, o4, h4⟩
  rw [ra3] at o4
  clear h3
  go_wp2_with fail
  refine (side_bypid (show SideIn _ _ _ _ _ _ r3 _ from h4) 2).mono ?_
  rintro e w5 ⟨rfl, h5, k5⟩
  rw [ra4, show nwR 1 = .tuple #[.int .i64 1, .bool true] from rfl]
  have o5 := o4.still k5 lN
  clear h4 o4 k5
  go_wp2_with fail
  refine (side_sd (show SideIn _ _ _ _ _ _ r4 _ from h5) 1 0 3).mono ?_
  rintro e w6 ⟨rfl, h6, k6⟩
  rw [ra5]
  have o6 := o5.still k6 lN
  clear h5 o5 k6
  go_wp2_with fail
  refine (side_ff (show SideIn _ _ _ _ _ _ r5 _ from h6) 1).mono ?_
  rintro e w7 ⟨rfl, h7, k7⟩
  rw [rc6]
  have o7 := o6.still k7 lN
  clear h6 o6 k7
  go_wp2_with fail
  refine (side_fr (show SideIn _ _ _ _ _ _ r6 _ from h7) 1).mono ?_
  rintro e w8 ⟨rfl, h8, k8⟩
  rw [ra7]
  have o8 := o7.still k8 lN
  clear h7 o7 k8
  go_wp2_with fail
  refine (side_nw (show SideIn _ _ _ _ _ _ r7 _ from h8) 0).mono ?_
  rintro e w9 ⟨rfl, h9, k9⟩
  rw [ra8, show nwR 1 = .tuple #[.int .i64 1, .bool true] from rfl]
  have o9 := o8.still k9 lN
  clear h8 o8 k9
  go_wp2_with fail
  refine (side_bypid (show SideIn _ _ _ _ _ _ r8 _ from h9) 3).mono ?_
  rintro e wa ⟨rfl, ha, ka⟩
  rw [ra9, show nwR 1 = .tuple #[.int .i64 1, .bool true] from rfl]
  have oa := o9.still ka lN
  clear h9 o9 ka
  obtain ⟨E, hE⟩ : ∃ E : Nat, wa.heap.size = E := ⟨_, rfl⟩
  have HK : Hid (Kept (fun _ => False) w wa) := ha.kept
  have kz : Kept (fun _ => False) wa (wa.alloc (.cells #[.int .i64 1] 3)) := (Kept.refl _ _).alloc _
  have HS : Hid (SrcI v [1] (wa.alloc (.cells #[.int .i64 1] 3))) := oa.src.kept kz (fun _ _ e => e)
  have HN : Hid (SrcI (.slice (some ⟨E, 0, none⟩) 1 1) [1] (wa.alloc (.cells #[.int .i64 1] 3))) := SrcI.lone (alloc_at' _ hE)
  clear ha oa lN
  go_wp2_with fail
  refine (sameI_w _ _ [1] (by decide) _ HS.out HN.out).mono ?_
  rintro e wz ⟨rfl, m, rfl⟩
  have HZ : Hid (Kept (fun _ => False) w ((wa.alloc (.cells #[.int .i64 1] 3)).drewN m)) := (HK.out.thru kz).thru (kept_drewN _ _)
  clear HK kz HS HN hE
  go_wp2_with fail
  go_ret
  exact ⟨rfl, HZ.out⟩
end Go.Proofs.Ytiklclmpealllaa
