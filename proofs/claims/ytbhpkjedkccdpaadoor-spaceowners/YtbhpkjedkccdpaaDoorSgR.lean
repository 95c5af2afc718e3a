
/- Chapter 16's run, whatever code does what space does; no conditions. -/
import Derived.Test.YtbhpkjedkccdpaaDoorSgC
namespace Go.Proofs.YtbhpkjedkccdpaaDoor
open Go.RowKit
set_option maxRecDepth 100000
set_option linter.unusedSimpArgs false

/-- A row of numbers that is not the view's. -/
def SrcN (N : Nat) (v : Value) (l : List Int) (w : World) : Prop := SrcI v l w ∧ ∀ b, v.ownBlock = some b → b ≠ N
theorem SrcN.still {N : Nat} {v : Value} {l : List Int} {w w' : World} (h : SrcN N v l w) (hk : Kept (fun n => n = N) w w') : SrcN N v l w' := ⟨h.1.kept hk (fun b e => h.2 b e), h.2⟩
theorem SrcN.quiet {N : Nat} {v : Value} {l : List Int} {w w' : World} (h : SrcN N v l w) (hk : Kept (fun _ => False) w w') : SrcN N v l w' := ⟨h.1.kept hk (fun _ _ e => e), h.2⟩
theorem SrcN.of {N : Nat} {v : Value} {l : List Int} {w w' : World} (h : SrcI v l w') (hy : ∀ b, v.ownBlock = some b → w.heap.size ≤ b) (hN : N < w.heap.size) : SrcN N v l w' := ⟨h, fun b e => by have := hy b e; omega⟩

def sf : StF := fP 15
def s1 : VwF := grT sf (gP 15) 0 2
def s2 : VwF := grT sf s1 1 1
def s3 : VwF := pgT sf s2 0
def s4 : VwF := pgT sf s3 1
def s5 : VwF := shT sf s4 0 1
def s6 : VwF := vgetT s5 (2, 0)
def s7 : VwF := baT sf s6 [1]
def s8 : VwF := vgetT s7 (2, 0)
def s9 : VwF := grT sf s8 1 2
theorem sa1 : grOk sf (gP 15) 0 2 = true ∧ (meV sf (gP 15) 0).s.size ≤ 104 ∧ (prV sf (gP 15) 0).s.size ≤ 194 := by decide +kernel
theorem sa2 : grOk sf s1 1 1 = true ∧ (meV sf s1 1).s.size ≤ 104 ∧ (prV sf s1 1).s.size ≤ 194 := by decide +kernel
theorem sa3 : pgL sf s2 0 = [0, 1] := by decide +kernel
theorem sa4 : pgL sf s3 1 = [2] := by decide +kernel
theorem sa5 : shOk sf s4 0 1 = true ∧ shL sf s4 0 1 = [1] := by decide +kernel
theorem sa6 : cntB (poV sf s5).n0 = 1 := by decide +kernel
theorem sa8 : cntB (poV sf s7).n0 = 2 := by decide +kernel
theorem sa9 : grOk sf s8 1 2 = true ∧ (meV sf s8 1).s.size ≤ 104 ∧ (prV sf s8 1).s.size ≤ 194 := by decide +kernel
theorem sa10 : pgL sf s9 1 = [2, 1, 3] := by decide +kernel

set_option maxHeartbeats 2000000 in
theorem runs_of (S : SpaceDoes) (w : World) (ht : TabIn w) : Calls Tryd.prog 3 #[] w fun e w' => e = .returned (.bool true) ∧ Kept (fun _ => False) w w' := by
  have HT : Hid (TabIn w) := ht
  clear ht
  go_enter Tryd.func3, Tryd.ntmps3
  go_wp2_with fail
  refine (pool_w 15 w HT.out).mono ?_
  rintro e w1 ⟨T, p, B, q, N, rfl, h1⟩
  have h1 : SideG sf w T p B q N (gP 15) w1 := h1
  have c1 := h1.t
  go_wp2_with fail
  refine (S.grow h1 0 2 sa1.2.1 sa1.2.2).mono ?_
  rintro e w2 ⟨rfl, h2, -⟩
  rw [sa1.1]
  clear h1 c1
  go_wp2_with fail
  refine (S.grow (show SideG sf w T p B q N s1 w2 from h2) 1 1 sa2.2.1 sa2.2.2).mono ?_
  rintro e w3 ⟨rfl, h3, -⟩
  rw [sa2.1]
  clear h2
  go_wp2_with fail
  have hN3 := h3.v.map.lt
  refine (S.pages (show SideG sf w T p B q N s2 w3 from h3) 0).mono ?_
  rintro e w4 ⟨vx, rfl, x4, y4, h4, -⟩
  rw [sa3] at x4
  have o4 : SrcN N vx [0, 1] w4 := SrcN.of x4 y4 hN3
  clear h3 x4 y4 hN3
  go_wp2_with fail
  have hN4 := h4.v.map.lt
  refine (S.pages (show SideG sf w T p B q N s3 w4 from h4) 1).mono ?_
  rintro e w5 ⟨vy, rfl, x5, y5, h5, k5⟩
  rw [sa4] at x5
  have o5 : SrcN N vx [0, 1] w5 ∧ SrcN N vy [2] w5 := ⟨o4.still k5, SrcN.of x5 y5 hN4⟩
  clear h4 x5 y5 hN4 o4 k5
  go_wp2_with fail
  have hN5 := h5.v.map.lt
  refine (S.shrink (show SideG sf w T p B q N s4 w5 from h5) 0 1 (by omega)).mono ?_
  rintro e w6 ⟨vl, rfl, x6, y6, h6, k6⟩
  rw [sa5.2] at x6
  rw [sa5.1]
  have o6 : SrcN N vx [0, 1] w6 ∧ SrcN N vy [2] w6 ∧ SrcN N vl [1] w6 := ⟨o5.1.still k6, o5.2.still k6, SrcN.of x6 y6 hN5⟩
  clear h5 x6 y6 hN5 o5 k6
  go_wp2_with fail
  refine (S.free (show SideG sf w T p B q N s5 w6 from h6)).mono ?_
  rintro e w7 ⟨rfl, h7, k7⟩
  rw [sa6]
  have o7 : SrcN N vx [0, 1] w7 ∧ SrcN N vy [2] w7 ∧ SrcN N vl [1] w7 := ⟨o6.1.still k7, o6.2.1.still k7, o6.2.2.still k7⟩
  clear h6 o6 k7
  obtain ⟨E, hE⟩ : ∃ E : Nat, w7.heap.size = E := ⟨_, rfl⟩
  have kz : Kept (fun _ => False) w7 (w7.alloc (.cells #[.int .i64 1] 3)) := (Kept.refl _ _).alloc _
  have h8 := (show SideG sf w T p B q N s6 w7 from h7).still kz
  have o8 : SrcN N vx [0, 1] (w7.alloc (.cells #[.int .i64 1] 3)) ∧ SrcN N vy [2] (w7.alloc (.cells #[.int .i64 1] 3)) ∧ SrcN N vl [1] (w7.alloc (.cells #[.int .i64 1] 3)) := ⟨o7.1.quiet kz, o7.2.1.quiet kz, o7.2.2.quiet kz⟩
  have z8 : SrcI (.slice (some ⟨E, 0, none⟩) 1 1) [1] (w7.alloc (.cells #[.int .i64 1] 3)) := SrcI.lone (alloc_at' _ hE)
  have hNE : N < E := by have := h7.v.map.lt; omega
  have hEs : E < (w7.alloc (.cells #[.int .i64 1] 3)).heap.size := by simp [hE]
  have H8 : Hid (SideG sf w T p B q N s6 (w7.alloc (.cells #[.int .i64 1] 3)) ∧ (SrcN N vx [0, 1] (w7.alloc (.cells #[.int .i64 1] 3)) ∧ SrcN N vy [2] (w7.alloc (.cells #[.int .i64 1] 3)) ∧ SrcN N vl [1] (w7.alloc (.cells #[.int .i64 1] 3))) ∧ SrcI (.slice (some ⟨E, 0, none⟩) 1 1) [1] (w7.alloc (.cells #[.int .i64 1] 3)) ∧ N < E ∧ E < (w7.alloc (.cells #[.int .i64 1] 3)).heap.size) := ⟨h8, o8, z8, hNE, hEs⟩
  clear h7 o7 kz h8 o8 z8 hNE hEs
  go_wp2_with fail
  generalize w7.alloc (.cells #[.int .i64 1] 3) = w8 at *
  obtain ⟨h8, o8, z8, hNE, hEs⟩ := H8.out
  clear H8 hE
  refine (S.back h8 _ [1] (by decide) z8 (fun b e => by
    have : E = b := by simpa [Value.ownBlock] using e
    omega)).mono ?_
  rintro e w9 ⟨rfl, h9, k9⟩
  have o9 : SrcN N vx [0, 1] w9 ∧ SrcN N vy [2] w9 ∧ SrcN N vl [1] w9 := ⟨o8.1.still k9, o8.2.1.still k9, o8.2.2.still k9⟩
  clear h8 o8 z8 hNE hEs k9
  go_wp2_with fail
  refine (S.free (show SideG sf w T p B q N s7 w9 from h9)).mono ?_
  rintro e wa ⟨rfl, ha, ka⟩
  rw [sa8]
  have oa : SrcN N vx [0, 1] wa ∧ SrcN N vy [2] wa ∧ SrcN N vl [1] wa := ⟨o9.1.still ka, o9.2.1.still ka, o9.2.2.still ka⟩
  clear h9 o9 ka
  go_wp2_with fail
  refine (S.grow (show SideG sf w T p B q N s8 wa from ha) 1 2 sa9.2.1 sa9.2.2).mono ?_
  rintro e wb ⟨rfl, hb, kb⟩
  rw [sa9.1]
  have hb : SideG sf w T p B q N s9 wb := hb
  have ob : SrcN N vx [0, 1] wb ∧ SrcN N vy [2] wb ∧ SrcN N vl [1] wb := ⟨oa.1.still kb, oa.2.1.still kb, oa.2.2.still kb⟩
  clear ha oa kb
  obtain ⟨E1, hE1⟩ : ∃ E1 : Nat, wb.heap.size = E1 := ⟨_, rfl⟩
  have kc : Kept (fun _ => False) wb (wb.alloc (.cells #[.int .i64 0, .int .i64 1] 3)) := (Kept.refl _ _).alloc _
  have zc : SrcI (.slice (some ⟨E1, 0, none⟩) 2 2) [0, 1] (wb.alloc (.cells #[.int .i64 0, .int .i64 1] 3)) := SrcI.row (l := [0, 1]) (alloc_at' _ hE1) rfl 2
  have HC : Hid (SrcI vx [0, 1] (wb.alloc (.cells #[.int .i64 0, .int .i64 1] 3)) ∧ SrcI (.slice (some ⟨E1, 0, none⟩) 2 2) [0, 1] (wb.alloc (.cells #[.int .i64 0, .int .i64 1] 3)) ∧ Kept (fun _ => False) wb (wb.alloc (.cells #[.int .i64 0, .int .i64 1] 3))) := ⟨(ob.1.quiet kc).1, zc, kc⟩
  have HB : Hid (SideG sf w T p B q N s9 wb ∧ SrcN N vy [2] wb ∧ SrcN N vl [1] wb) := ⟨hb, ob.2⟩
  clear kc zc hb ob
  go_wp2_with fail
  refine (sameI_w _ _ [0, 1] (by decide) _ HC.out.1 HC.out.2.1).mono ?_
  rintro e wd ⟨rfl, m1, hwd⟩
  have HD : Hid (SideG sf w T p B q N s9 wd ∧ SrcN N vy [2] wd ∧ SrcN N vl [1] wd) := by
    have k : Kept (fun _ => False) wb wd := by rw [hwd]; exact HC.out.2.2.thru (kept_drewN _ _)
    exact ⟨HB.out.1.still k, HB.out.2.1.quiet k, HB.out.2.2.quiet k⟩
  clear HC HB hwd hE1
  obtain ⟨E2, hE2⟩ : ∃ E2 : Nat, wd.heap.size = E2 := ⟨_, rfl⟩
  have kc : Kept (fun _ => False) wd (wd.alloc (.cells #[.int .i64 2] 3)) := (Kept.refl _ _).alloc _
  have HC : Hid (SrcI vy [2] (wd.alloc (.cells #[.int .i64 2] 3)) ∧ SrcI (.slice (some ⟨E2, 0, none⟩) 1 1) [2] (wd.alloc (.cells #[.int .i64 2] 3)) ∧ Kept (fun _ => False) wd (wd.alloc (.cells #[.int .i64 2] 3))) := ⟨(HD.out.2.1.quiet kc).1, SrcI.lone (alloc_at' _ hE2), kc⟩
  clear kc
  go_wp2_with fail
  refine (sameI_w _ _ [2] (by decide) _ HC.out.1 HC.out.2.1).mono ?_
  rintro e we ⟨rfl, m2, hwe⟩
  have HE : Hid (SideG sf w T p B q N s9 we ∧ SrcN N vl [1] we) := by
    have k : Kept (fun _ => False) wd we := by rw [hwe]; exact HC.out.2.2.thru (kept_drewN _ _)
    exact ⟨HD.out.1.still k, HD.out.2.2.quiet k⟩
  clear HC HD hwe hE2
  obtain ⟨E3, hE3⟩ : ∃ E3 : Nat, we.heap.size = E3 := ⟨_, rfl⟩
  have kc : Kept (fun _ => False) we (we.alloc (.cells #[.int .i64 1] 3)) := (Kept.refl _ _).alloc _
  have HC : Hid (SrcI vl [1] (we.alloc (.cells #[.int .i64 1] 3)) ∧ SrcI (.slice (some ⟨E3, 0, none⟩) 1 1) [1] (we.alloc (.cells #[.int .i64 1] 3)) ∧ Kept (fun _ => False) we (we.alloc (.cells #[.int .i64 1] 3))) := ⟨(HE.out.2.quiet kc).1, SrcI.lone (alloc_at' _ hE3), kc⟩
  clear kc
  go_wp2_with fail
  refine (sameI_w _ _ [1] (by decide) _ HC.out.1 HC.out.2.1).mono ?_
  rintro e wf ⟨rfl, m3, hwf⟩
  have hf : SideG sf w T p B q N s9 wf := by
    have k : Kept (fun _ => False) we wf := by rw [hwf]; exact HC.out.2.2.thru (kept_drewN _ _)
    exact HE.out.1.still k
  clear HC HE hwf hE3
  go_wp2_with fail
  refine (S.pages hf 1).mono ?_
  rintro e wg ⟨vp, rfl, xg, -, hg, -⟩
  rw [sa10] at xg
  obtain ⟨E4, hE4⟩ : ∃ E4 : Nat, wg.heap.size = E4 := ⟨_, rfl⟩
  have kc : Kept (fun _ => False) wg (wg.alloc (.cells #[.int .i64 2, .int .i64 1, .int .i64 3] 3)) := (Kept.refl _ _).alloc _
  have HC : Hid (SrcI vp [2, 1, 3] (wg.alloc (.cells #[.int .i64 2, .int .i64 1, .int .i64 3] 3)) ∧ SrcI (.slice (some ⟨E4, 0, none⟩) 3 3) [2, 1, 3] (wg.alloc (.cells #[.int .i64 2, .int .i64 1, .int .i64 3] 3)) ∧ Kept (fun _ => False) w (wg.alloc (.cells #[.int .i64 2, .int .i64 1, .int .i64 3] 3))) := ⟨xg.kept kc (fun _ _ e => e), SrcI.row (l := [2, 1, 3]) (alloc_at' _ hE4) rfl 3, hg.kept.thru kc⟩
  clear kc xg hg hf
  go_wp2_with fail
  refine (sameI_w _ _ [2, 1, 3] (by decide) _ HC.out.1 HC.out.2.1).mono ?_
  rintro e wh ⟨rfl, m4, hwh⟩
  have HZ : Hid (Kept (fun _ => False) w wh) := by show Kept _ _ _; rw [hwh]; exact HC.out.2.2.thru (kept_drewN _ _)
  clear HC hwh hE4
  go_wp2_with fail
  go_ret
  exact ⟨rfl, HZ.out⟩
end Go.Proofs.YtbhpkjedkccdpaaDoor
