/- Two lists that are the same; the chapter's runs; no conditions. -/
import Derived.Test.YtkmfeenooidbhaaLet
import Derived.BigQuiet
import Derived.Deep.QuietTactic
namespace Go.Proofs.Ytkmfeenooidbhaa
open Go.RowKit

theorem kept_drewN (w : World) (m : Nat) : Kept (fun _ => False) w (w.drewN m) := ⟨rfl, rfl, rfl, Nat.le_refl _, fun _ _ _ => rfl⟩

set_option maxHeartbeats 800000 in
theorem same_n (ao bo : Option Addr) (b o c b' o' c' n : Nat) (l : List Int) (hao : 0 < n → ao = some ⟨b, o, none⟩) (hbo : 0 < n → bo = some ⟨b', o', none⟩) (hn : n ≤ 1000000) (w : World) (hc : ∀ j, j < n → w.cell? ⟨b, o + j, none⟩ = some (.int .i64 (zd l j))) (hc' : ∀ j, j < n → w.cell? ⟨b', o' + j, none⟩ = some (.int .i64 (zd l j))) :
    Calls Try.prog 13 #[.slice ao n c, .slice bo n c'] w fun e w' => e = .returned (.bool true) ∧ ∃ m, w' = w.drewN m := by
  go_enter Try.func13, Try.ntmps13
  go_wp2
  go_loopw [5] (fun s wr => ∃ i m : Nat, s = .int .i64 i ∧ i ≤ n ∧ wr = w.drewN m) (fun s _ => n - (intOf s).toNat)
  case atStart => exact ⟨0, 0, rfl, Nat.zero_le _, rfl⟩
  case round =>
    obtain ⟨i, m, rfl, hi, rfl⟩ := hrel
    by_cases hlt : i < n
    · have c1 := hc i hlt
      have c2 := hc' i hlt
      obtain rfl := hao (by omega)
      obtain rfl := hbo (by omega)
      have t1 : (i : Int) < (n : Int) := by omega
      clear hc hc' hao hbo
      generalize zd l i = y at *
      go_wp2_with fail
      go_quiet (fail)
      go_wp2
      go_roundw
      case rel => exact ⟨i + 1, _, by go_num, by omega, rfl⟩
      case measure => simp [intOf]; omega
    · clear hc hc' hao hbo
      go_wp2
      go_ret
      exact ⟨rfl, m, rfl⟩

theorem same_w (x y : Value) (l : List Int) (hl : l.length ≤ 1000000) (w : World) (h : SrcI x l w) (h' : SrcI y l w) :
    Calls Try.prog 13 #[x, y] w fun e w' => e = .returned (.bool true) ∧ ∃ m, w' = w.drewN m := by
  rcases h.form with ⟨b, o, c, rfl⟩ | ⟨rfl, rfl⟩ <;> rcases h'.form with ⟨b', o', c', rfl⟩ | ⟨rfl, e⟩
  · exact same_n _ _ b o c b' o' c' l.length l (fun _ => rfl) (fun _ => rfl) hl w (fun j hj => h.cell hj) (fun j hj => h'.cell hj)
  · subst e; exact same_n _ _ b o c 0 0 0 0 [] (fun _ => rfl) (fun h => by omega) hl w (fun j hj => by omega) (fun j hj => by omega)
  · exact same_n _ _ 0 0 0 b' o' c' 0 [] (fun h => by omega) (fun _ => rfl) hl w (fun j hj => by omega) (fun j hj => by omega)
  · exact same_n _ _ 0 0 0 0 0 0 0 [] (fun h => by omega) (fun h => by omega) hl w (fun j hj => by omega) (fun j hj => by omega)

theorem Mine.lt {B N : Nat} {vs : List Value} {ls : List (List Int)} {w : World} (h : HeldIn B N vs ls w) {k : Nat} (hk : Mine B vs k) : k < w.heap.size := by
  rcases hk with rfl | ⟨i, hi, e⟩
  · exact lt_at h.tab
  · exact ((h.each i hi).lt k e).2

theorem inGuard_kept (w : World) : Kept (fun _ => False) w (inGuard w) := ((Kept.refl _ w).alloc _).alloc _

/-- A guard of what turns the holders alone. -/
theorem guard_left (F : Nat) (cap : Array Value) (hF : Enters F) (o : Out) (B N M : Nat) (vs : List Value) (ls ls' : List (List Int)) (w : World) (h0 : HeldIn B N vs ls w)
    (h : Calls Try.prog F cap (inGuard w) fun e w' => o.ends e ∧ Left B M vs ls' (inGuard w) w') :
    Calls Try.prog 9 #[.func (.func F) #[] cap] w fun e w' => e = .returned (.tuple #[o.told, .bool o.stopped]) ∧ Left B M vs ls' w w' := by
  have hG := h0.still (inGuard_kept w)
  refine (guard_w _ o (fun w' => Left B M vs ls' (inGuard w) w') w ((run_w F cap hF o _ _ h).mono ?_)).mono ?_
  · rintro e w' ⟨he, hL⟩
    obtain ⟨vs', h1, h2, h3, h4⟩ := id hL
    exact ⟨he, hL, h3.at (inGuard0 w) (hG.off (inGuard0 w) (by decide) (by decide)), h3.at (inGuard1 w) (hG.off (inGuard1 w) (by decide) (by decide))⟩
  · rintro e w2 ⟨rfl, w1, ⟨vs', h1, h2, h3, h4⟩, hk⟩
    have hs := inGuard_size w
    have hb := lt_at h0.box
    refine ⟨rfl, vs', h1, h2.kept hk (by omega) (fun k hm x => ?_), ?_, fun k hm => ?_⟩
    · rcases h4 k hm with y | y
      · have := Mine.lt h0 y; omega
      · omega
    · refine Kept.trans (Kept.trans ((inGuard_kept w).mono (fun _ _ e => e.elim)) h3 (fun _ _ e => e)) hk (fun k hk e => by omega)
    · rcases h4 k hm with y | y
      · exact .inl y
      · exact .inr (by omega)

/-- The holders, a variable that has them, and what was there before. -/
structure Room (B N : Nat) (vs : List Value) (ls : List (List Int)) (w0 w : World) : Prop where
  held : HeldIn B N vs ls w
  var : w.heap[B + 2]? = some (.cells #[.pointer (some ⟨B + 1, 0, none⟩)] 22 (0, 0))
  kept : Kept (fun _ => False) w0 w
  base : w0.heap.size ≤ B

theorem Room.still {B N : Nat} {vs : List Value} {ls : List (List Int)} {w0 w w' : World} (h : Room B N vs ls w0 w) (hk : Kept (fun _ => False) w w') : Room B N vs ls w0 w' :=
  ⟨h.held.still hk, hk.at h.var (fun x => x), h.kept.trans hk (fun _ _ e => e), h.base⟩

theorem Room.left {B N M : Nat} {vs : List Value} {ls ls' : List (List Int)} {w0 w w' : World} (h : Room B N vs ls w0 w) (hl : Left B M vs ls' w w') :
    ∃ vs', vs'.length = vs.length ∧ Room B M vs' ls' w0 w' ∧ Kept (Mine B vs) w w' ∧ ∀ k, Mine B vs' k → Mine B vs k ∨ w.heap.size ≤ k := by
  obtain ⟨vs', h1, h2, h3, h4⟩ := hl
  exact ⟨vs', h1, ⟨h2, h3.at h.var (h.held.off h.var (by decide) (by decide)), h.kept.trans h3 (fun k hk x => by have := Mine.low h.held x; have := h.base; omega), h.base⟩, h3, h4⟩

theorem SrcI.lone {w : World} {E : Nat} {i : Int} (h : w.heap[E]? = some (.cells #[.int .i64 i] 3 (0, 0))) : SrcI (.slice (some ⟨E, 0, none⟩) 1 1) [i] w := by
  refine .inl ⟨E, 0, 1, rfl, lt_at h, fun j u hu => ?_⟩
  obtain ⟨rfl, rfl⟩ : j = 0 ∧ u = i := by
    rcases j with _ | j
    · simp at hu; exact ⟨rfl, hu.symm⟩
    · simp at hu
  exact cell_at h (i := 0) rfl

theorem runs_c1 (B N : Nat) (vs : List Value) (ls : List (List Int)) (w0 w : World) (hN : N ≤ 1000) (hn : vs.length ≤ 64) (ho : takeOut ls 0 4 = .halts 5 4) (hT : takeTo ls 0 4 = ls) (h : Room B N vs ls w0 w) :
    Calls Try.prog 10 #[.pointer (some ⟨B + 2, 0, none⟩)] w fun e w' => (Out.halts 5 4).ends e ∧ Left B (N + 1) vs ls w w' := by
  have T := take_any B N vs ls 0 4 hN hn w h.held
  rw [ho, hT] at T
  have c0 := cell_at h.var (i := 0) rfl
  clear h
  go_enter Try.func10, Try.ntmps10
  go_wp2_with fail
  refine T.mono ?_
  rintro e w1 ⟨he, hL⟩
  rcases ends_cases he with ⟨h, rfl⟩ | ⟨hst, v, older, hv, rfl, hold⟩
  · cases h
  · exact ⟨rfl, ends_stop hv hold, hL⟩

theorem runs_c2 (B N : Nat) (vs : List Value) (ls : List (List Int)) (w0 w : World) (hN : N ≤ 1000) (hn : vs.length ≤ 64) (ho : takeOut ls 1 5 = .halts 6 5) (hT : takeTo ls 1 5 = ls) (h : Room B N vs ls w0 w) :
    Calls Try.prog 11 #[.pointer (some ⟨B + 2, 0, none⟩)] w fun e w' => (Out.halts 6 5).ends e ∧ Left B (N + 1) vs ls w w' := by
  have T := take_any B N vs ls 1 5 hN hn w h.held
  rw [ho, hT] at T
  have c0 := cell_at h.var (i := 0) rfl
  clear h
  go_enter Try.func11, Try.ntmps11
  go_wp2_with fail
  refine T.mono ?_
  rintro e w1 ⟨he, hL⟩
  rcases ends_cases he with ⟨h, rfl⟩ | ⟨hst, v, older, hv, rfl, hold⟩
  · cases h
  · exact ⟨rfl, ends_stop hv hold, hL⟩

theorem enters_c1 : Enters 10 := fun _ _ => by rfl
theorem enters_c2 : Enters 11 := fun _ _ => by rfl

set_option maxRecDepth 10000 in
set_option maxHeartbeats 1600000 in
theorem runs_w (w : World) : Calls Try.prog 3 #[] w fun e w' => e = .returned (.bool true) ∧ Kept (fun _ => False) w w' := by
  obtain ⟨B, hB⟩ : ∃ B : Nat, w.heap.size = B := ⟨_, rfl⟩
  have N := new_ok 2 (by omega) (by omega) w
  rw [show ((2 : Nat) : Int) = 2 from rfl, hB] at N
  have hmf := makeF
  go_enter Try.func3, Try.ntmps3
  go_wp2_with fail
  refine N.mono ?_
  rintro e w1 ⟨rfl, hH, hk, hs⟩
  clear N
  have R0 : Room B 0 [.slice none 0 0, .slice none 0 0] [[], []] w (w1.alloc (.cells #[.pointer (some ⟨B + 1, 0, none⟩)] 22)) :=
    ⟨hH.still ((Kept.refl _ _).alloc _), alloc_at' _ hs, hk.alloc _, by omega⟩
  clear hH hk
  have T := take_any B 0 _ _ 0 3 (by omega) (by simp) _ R0.held
  rw [show takeOut [[], []] 0 3 = .done from by decide, show takeTo [[], []] 0 3 = [[3], []] from by decide] at T
  go_wp2_with fail
  refine T.mono ?_
  rintro e w2 ⟨rfl, hL⟩
  obtain ⟨vs2, l2, R2, -, -⟩ := R0.left hL
  clear hL T R0
  have c0 := cell_at R2.var (i := 0) rfl
  have T := take_any B (0 + 1) _ _ 0 5 (by omega) (by rw [l2]; simp) _ R2.held
  rw [show takeOut [[3], []] 0 5 = .done from by decide, show takeTo [[3], []] 0 5 = [[3, 5], []] from by decide] at T
  go_wp2_with fail
  refine T.mono ?_
  rintro e w3 ⟨rfl, hL⟩
  obtain ⟨vs3, l3, R3, -, -⟩ := R2.left hL
  rw [l2] at l3
  clear hL T R2 c0 l2
  have G := guard_left 10 #[.pointer (some ⟨B + 2, 0, none⟩)] enters_c1 _ B _ _ _ _ _ w3 R3.held (runs_c1 B _ vs3 _ w _ (by omega) (by rw [l3]; simp) (by decide) (by decide) (R3.still (inGuard_kept w3)))
  go_wp2_with fail
  refine G.mono ?_
  rintro e w4 ⟨rfl, hL⟩
  obtain ⟨vs4, l4, R4, -, -⟩ := R3.left hL
  rw [l3] at l4
  clear hL G R3 l3
  obtain ⟨D, hD⟩ : ∃ D : Nat, w4.heap.size = D := ⟨_, rfl⟩
  have K5 : Kept (fun _ => False) w4 (w4.alloc (.cells #[.int .i64 5, .int .i64 4] 26)) := (Kept.refl _ _).alloc _
  have R5 := R4.still K5
  have hA5 : (w4.alloc (.cells #[.int .i64 5, .int .i64 4] 26)).heap[D]? = some (.cells #[.int .i64 5, .int .i64 4] 26 (0, 0)) := alloc_at' _ hD
  have G := guard_left 11 #[.pointer (some ⟨B + 2, 0, none⟩)] enters_c2 _ B _ _ _ _ _ _ R5.held (runs_c2 B _ vs4 _ w _ (by omega) (by rw [l4]; simp) (by decide) (by decide) (R5.still (inGuard_kept _)))
  simp only [Out.told, Out.stopped, stopV]
  go_wp2_with fail
  refine G.mono ?_
  rintro e w6 ⟨rfl, hL⟩
  obtain ⟨vs6, l6, R6, k6, -⟩ := R5.left hL
  have hA6 := k6.at hA5 (R5.held.off hA5 (by decide) (by decide))
  rw [l4] at l6
  clear hL G R4 R5 K5 hA5 k6 l4
  obtain ⟨E, hE⟩ : ∃ E : Nat, w6.heap.size = E := ⟨_, rfl⟩
  have K7 : Kept (fun _ => False) w6 (w6.alloc (.cells #[.int .i64 6, .int .i64 5] 26)) := (Kept.refl _ _).alloc _
  have R7 := R6.still K7
  have hA7 := K7.at hA6 (by simp)
  have hB7 : (w6.alloc (.cells #[.int .i64 6, .int .i64 5] 26)).heap[E]? = some (.cells #[.int .i64 6, .int .i64 5] 26 (0, 0)) := alloc_at' _ hE
  have L := let_any B _ vs6 _ 0 3 (by omega) _ R7.held
  rw [show letOut [[3, 5], []] 0 3 = .done from by decide, show letTo [[3, 5], []] 0 3 = [[5], []] from by decide] at L
  have c0 := cell_at R6.var (i := 0) rfl
  have t6 : B + 2 < E := by have := lt_at R6.var; omega
  simp only [Out.told, Out.stopped, stopV]
  go_wp2_with fail
  refine L.mono ?_
  rintro e w8 ⟨rfl, hL⟩
  obtain ⟨vs8, l8, R8, k8, -⟩ := R7.left hL
  have hA8 := k8.at hA7 (R7.held.off hA7 (by decide) (by decide))
  have hB8 := k8.at hB7 (R7.held.off hB7 (by decide) (by decide))
  rw [l6] at l8
  clear hL L R6 R7 K7 hA6 hA7 hB7 k8 l6 c0
  have c0 := cell_at R8.var (i := 0) rfl
  have a0 := cell_at hA8 (i := 0) rfl
  have a1 := cell_at hA8 (i := 1) rfl
  have b0 := cell_at hB8 (i := 0) rfl
  have b1 := cell_at hB8 (i := 1) rfl
  have LI := list_w B _ vs8 _ 0 (by rw [l8]; simp) (by omega) w8 R8.held
  go_wp2_with fail
  refine LI.mono ?_
  rintro e w9 ⟨v, rfl, h9⟩
  have e9 : ld [[5], []] 0 = [5] := rfl
  rw [e9] at h9
  obtain ⟨F, hF⟩ : ∃ F : Nat, w9.heap.size = F := ⟨_, rfl⟩
  have K10 : Kept (fun _ => False) w9 (w9.alloc (.cells #[.int .i64 5] 3)) := (Kept.refl _ _).alloc _
  have hlone : SrcI (.slice (some ⟨F, 0, none⟩) 1 1) [5] (w9.alloc (.cells #[.int .i64 5] 3)) := SrcI.lone (alloc_at' _ hF)
  have S := same_w v _ [5] (by simp) _ ((own_src h9.own).kept K10 (fun _ _ x => x)) hlone
  have R10 := (R8.still h9.kept).still K10
  clear LI e9 h9 hlone a0 a1 b0 b1 hA8 hB8 R8 c0
  go_wp2_with fail
  refine S.mono ?_
  rintro e w11 ⟨rfl, m, rfl⟩
  have R11 := R10.still (kept_drewN _ m)
  clear S R10 K10
  have O1 := owner_w B _ vs8 _ 5 (by omega) (by rw [l8]; simp) _ R11.held
  have O2 := owner_w B _ vs8 _ 3 (by omega) (by rw [l8]; simp) _ R11.held
  rw [show ownr [[5], []] 5 = 0 from by decide] at O1
  rw [show ownr [[5], []] 3 = -1 from by decide] at O2
  have c0 := cell_at R11.var (i := 0) rfl
  have HK : Hid _ := R11.kept
  clear R11
  generalize (w9.alloc (Obj.cells #[Value.int IntKind.i64 5] 3)).drewN m = w12 at *
  go_wp2_with fail
  refine O1.mono ?_
  rintro e w13 ⟨rfl, rfl⟩
  go_wp2_with fail
  refine O2.mono ?_
  rintro e w14 ⟨rfl, rfl⟩
  go_wp2
  go_ret
  exact ⟨rfl, HK.out⟩
end Go.Proofs.Ytkmfeenooidbhaa
