/- The chapter's runs; no conditions. -/
import Derived.Test.YtimjhjlgnoiimaaRunW
namespace Go.Proofs.Ytimjhjlgnoiimaa
open Go.RowKit

theorem kept_guard {w w' : World} (h : Kept (fun k => k = w.heap.size ∨ k = w.heap.size + 1) (inGuard w) w') : Kept (fun _ => False) w w' :=
  Kept.trans (((Kept.refl _ w).alloc _).alloc _) h (fun k hk hx => by omega)

theorem inGuard0 (w : World) : (inGuard w).heap[w.heap.size]? = some (.cells #[.int .i64 0, .int .i64 0] 23 (0, 0)) := alloc_off (alloc_at _ _)

theorem inGuard1 (w : World) : (inGuard w).heap[w.heap.size + 1]? = some (.cells #[.bool false] 4 (0, 0)) := by 
  exact alloc_at1 _ _ _

theorem inGuard_size (w : World) : (inGuard w).heap.size = w.heap.size + 2 := by simp [inGuard]

/-- A guard of what turns nothing. -/
theorem guard_same (fv : Value) (o : Out) (w : World) (h : Calls Try.prog 39 #[fv] (inGuard w) fun e w' => o.ends e ∧ Kept (fun _ => False) (inGuard w) w') :
    Calls Try.prog 8 #[fv] w fun e w' => e = .returned (.tuple #[o.told, .bool o.stopped]) ∧ Kept (fun _ => False) w w' := by
  refine (guard_w fv o (fun w' => Kept (fun _ => False) (inGuard w) w') w (h.mono ?_)).mono ?_
  · rintro e w' ⟨he, hk⟩
    exact ⟨he, hk, hk.at (inGuard0 w) (by simp), hk.at (inGuard1 w) (by simp)⟩
  · rintro e w' ⟨rfl, w1, h1, hk⟩
    refine ⟨rfl, kept_guard ((h1.mono (fun _ _ h => h.elim)).trans hk (fun _ _ h => h))⟩

theorem guard_nil (w : World) : Calls Try.prog 8 #[.nilFunc] w fun e w' => e = .returned (.tuple #[stopV 0 0, .bool false]) ∧ Kept (fun _ => False) w w' :=
  guard_same _ .done w ((run_nil _).mono fun _ _ ⟨he, hw⟩ => ⟨he, hw ▸ Kept.refl _ _⟩)

theorem guard_fn (F : Nat) (cap : Array Value) (hF : Enters F) (o : Out) (w : World) (h : Calls Try.prog F cap (inGuard w) fun e w' => o.ends e ∧ Kept (fun _ => False) (inGuard w) w') :
    Calls Try.prog 8 #[.func (.func F) #[] cap] w fun e w' => e = .returned (.tuple #[o.told, .bool o.stopped]) ∧ Kept (fun _ => False) w w' :=
  guard_same _ o w (run_w F cap hF o _ _ h)

theorem c1_w (w : World) : Calls Try.prog 9 #[] w fun e w' => (Out.halts 7 7).ends e ∧ Kept (fun _ => False) w w' := by
  go_enter Try.func9, Try.ntmps9
  go_wp2_with fail
  refine (stop_w 7 7 w).mono ?_
  rintro e w1 ⟨he, rfl⟩
  rcases ends_cases he with ⟨h, rfl⟩ | ⟨hst, v, older, hv, rfl, hold⟩
  · cases h
  · exact ⟨rfl, ends_stop hv hold, Kept.refl _ _⟩

theorem c2_w (w : World) : Calls Try.prog 11 #[] w fun e w' => Out.done.ends e ∧ Kept (fun _ => False) w w' := by
  go_enter Try.func11, Try.ntmps11
  go_wp2
  go_end0
  exact ⟨rfl, Kept.refl _ _⟩

theorem c4_w (w : World) : Calls Try.prog 14 #[] w fun e w' => Out.done.ends e ∧ Kept (fun _ => False) w w' := by
  go_enter Try.func14, Try.ntmps14
  go_wp2
  go_end0
  exact ⟨rfl, Kept.refl _ _⟩

theorem c5_w (w : World) : Calls Try.prog 15 #[] w fun e w' => Out.done.ends e ∧ Kept (fun _ => False) w w' := by
  go_enter Try.func15, Try.ntmps15
  go_wp2
  go_end0
  exact ⟨rfl, Kept.refl _ _⟩

theorem c7_w (w : World) : Calls Try.prog 18 #[] w fun e w' => Out.done.ends e ∧ Kept (fun _ => False) w w' := by
  go_enter Try.func18, Try.ntmps18
  go_wp2
  go_end0
  exact ⟨rfl, Kept.refl _ _⟩

theorem c6_w (w : World) : Calls Try.prog 16 #[] w fun e w' => (Out.halts 2 3).ends e ∧ Kept (fun _ => False) w w' := by
  go_enter Try.func16, Try.ntmps16
  go_wp2_with fail
  refine (must_not 2 3 w).mono ?_
  rintro e w1 ⟨he, rfl⟩
  rcases ends_cases he with ⟨h, rfl⟩ | ⟨hst, v, older, hv, rfl, hold⟩
  · cases h
  · exact ⟨rfl, ends_stop hv hold, Kept.refl _ _⟩

theorem bounds_is : Try.prog.rt.boundsError = 8 := by kernel_rfl

theorem run_bounds {α : Type} (k : IntKind) (x y : Int) (code : BoundsCode) (w : World) :
    ∃ p w', (boundsPanic k x y code : Sem α).run Try.prog w = .halt (.panic (.iface 8 p)) w' ∧ Kept (fun _ => False) w w' := by
  unfold boundsPanic
  split
  · simp only [runtimePanic, goPanic, go_sem]
    simp [go_sem]
    exact ⟨_, _, ⟨rfl, rfl⟩, (Kept.refl _ _).drew⟩
  · simp only [runtimePanic, goPanic, go_sem]
    simp [go_sem]
    exact ⟨_, _, ⟨rfl, rfl⟩, Kept.refl _ _⟩

theorem index_nil (i : Int) (w : World) : ∃ p w', (Instr.indexAt 27 (.slice none 0 0) (.int .i64 i)).run Try.prog w = .halt (.panic (.iface 8 p)) w' ∧ Kept (fun _ => False) w w' := by
  have e : (Instr.indexAt 27 (.slice none 0 0) (.int .i64 i)).run Try.prog w = (boundsPanic .i64 i 0 .index).run Try.prog w := by
    simp [Instr.indexAt, run_underlying Try.underlying27, asIntOf]
  rw [e]
  exact run_bounds _ _ _ _ _

theorem c3_w (p q : Addr) (w : World) (hc : w.cell? p = some (.slice none 0 0)) : Calls Try.prog 12 #[.pointer (some p), .pointer (some q)] w fun e w' => Out.breaks.ends e ∧ Kept (fun _ => False) w w' := by
  obtain ⟨pv, w1, hi, hk⟩ := index_nil 3 w
  go_enter Try.func12, Try.ntmps12
  go_wp2
  exact ⟨rfl, ends_stop (o := .breaks) ⟨pv, rfl⟩ (by simp), hk⟩

/-- What the four functions of the last run do. -/
def runsO : Nat → Out := fun i => if i = 2 then .halts 2 3 else .done
def runsF : Nat → Value := fun i => .func (.func (if i = 0 then 14 else if i = 1 then 15 else if i = 2 then 16 else 18)) #[] #[]

theorem runs_run (b : Nat) (w : World) (hb : w.heap[b]? = some (.cells #[.func (.func 14) #[] #[], .func (.func 15) #[] #[], .func (.func 16) #[] #[], .func (.func 18) #[] #[]] 1 (0, 0))) :
    Calls Try.prog 13 #[.slice (some ⟨b, 0, none⟩) 4 4] w fun e w' => e = .returned (.tuple #[.int .i64 2, .agg #[.int .i64 2, .int .i64 3]]) ∧ Kept (fun _ => False) w w' := by
  refine (run_list (some ⟨b, 0, none⟩) 4 4 runsF runsO (fun _ w' => Kept (fun _ => False) (w.alloc (.cells #[.int .i64 0, .int .i64 0] 23)) w') w (by decide) b (fun _ => rfl) (Kept.refl _ _)
    (fun _ _ _ h k => h.trans k (fun _ _ h => h)) (fun _ _ h => h.at (alloc_at _ _) (by simp)) ?_ ?_).mono ?_
  · intro i w1 h hi
    have h1 := h.at (alloc_off hb) (by simp)
    refine cell_at h1 ?_
    match i, hi with
    | 0, _ => rfl
    | 1, _ => rfl
    | 2, _ => rfl
    | 3, _ => rfl
  · intro i hi w1 h
    match i, hi with
    | 0, _ => exact (guard_fn 14 #[] (fun _ _ => by kernel_rfl) .done w1 (c4_w _)).mono fun e w' ⟨he, hk⟩ => ⟨he, h.trans hk (fun _ _ h => h)⟩
    | 1, _ => exact (guard_fn 15 #[] (fun _ _ => by kernel_rfl) .done w1 (c5_w _)).mono fun e w' ⟨he, hk⟩ => ⟨he, h.trans hk (fun _ _ h => h)⟩
    | 2, _ => exact (guard_fn 16 #[] (fun _ _ => by kernel_rfl) (.halts 2 3) w1 (c6_w _)).mono fun e w' ⟨he, hk⟩ => ⟨he, h.trans hk (fun _ _ h => h)⟩
    | 3, _ => exact (guard_fn 18 #[] (fun _ _ => by kernel_rfl) .done w1 (c7_w _)).mono fun e w' ⟨he, hk⟩ => ⟨he, h.trans hk (fun _ _ h => h)⟩
  · rintro e w' ⟨m, hm, h1, h2, rfl, w1, h3, h4⟩
    have hm2 : m = 2 := by
      have a1 : ¬ 2 < m := fun h => by have := h1 2 h; simp [runsO, Out.stopped] at this
      have a2 := h2 (by omega)
      match m, a1, a2 with
      | 0, _, a2 => simp [runsO, Out.stopped] at a2
      | 1, _, a2 => simp [runsO, Out.stopped] at a2
      | 2, _, _ => rfl
    subst hm2
    refine ⟨rfl, ?_⟩
    exact Kept.trans ((Kept.refl _ w).alloc _) ((h3.mono (fun _ _ h => h.elim)).trans h4 (fun _ _ h => h)) (fun k hk h => by omega)

theorem runs_w (w : World) : Calls Try.prog 3 #[] w fun e w' => e = .returned (.bool true) ∧ Kept (fun _ => False) w w' := by
  have hmf := makeF
  go_enter Try.func3, Try.ntmps3
  go_wp2_with fail
  refine (guard_fn 9 #[] (fun _ _ => by kernel_rfl) (.halts 7 7) w (c1_w _)).mono ?_
  rintro e w1 ⟨rfl, hk1⟩
  simp only [Out.told, Out.stopped, stopV]
  go_wp2_with fail
  refine (guard_fn 11 #[] (fun _ _ => by kernel_rfl) .done _ (c2_w _)).mono ?_
  rintro e w2 ⟨rfl, hk2⟩
  have ha2 := hk2.at (alloc_at _ _) (by simp)
  simp only [Out.told, Out.stopped, stopV]
  go_wp2_with fail
  refine (guard_fn 12 #[.pointer (some ⟨w2.heap.size + 1, 0, none⟩), .pointer (some ⟨w2.heap.size, 0, none⟩)] (fun _ _ => by kernel_rfl) .breaks _ (c3_w _ _ _ ?_)).mono ?_
  · exact cell_at (i := 0) (alloc_off (alloc_off (alloc_at1 w2 _ _))) (by rfl)
  rintro e w3 ⟨rfl, hk3⟩
  have ha3 := hk3.at (alloc_off (alloc_off ha2)) (by simp)
  have hb3 := hk3.at (alloc_off (alloc_at w2 _)) (by simp)
  simp only [Out.told, Out.stopped, stopV]
  go_wp2_with fail
  refine (runs_run (w3.heap.size + 1) _ (alloc_at1 _ _ _)).mono ?_
  rintro e w4 ⟨rfl, hk4⟩
  have ha4 := hk4.at (alloc_off (alloc_off ha3)) (by simp)
  have hb4 := hk4.at (alloc_off (alloc_off hb3)) (by simp)
  have hc4 := hk4.at (alloc_off (alloc_at w3 _)) (by simp)
  have HK : Hid (Kept (fun _ => False) w w4) := (((((hk1.alloc _).trans hk2 (fun _ _ h => h)).alloc _).alloc _).trans hk3 (fun _ _ h => h)|>.alloc _|>.alloc _).trans hk4 (fun _ _ h => h)
  have A0 := cell_at ha4 (i := 0) rfl
  have A1 := cell_at ha4 (i := 1) rfl
  have B0 := cell_at hb4 (i := 0) rfl
  have B1 := cell_at hb4 (i := 1) rfl
  have C0 := cell_at hc4 (i := 0) rfl
  have C1 := cell_at hc4 (i := 1) rfl
  have la := lt_at ha4
  have lb := lt_at hb4
  have lc := lt_at hc4
  clear hk1 hk2 hk3 hk4 ha2 ha3 hb3 ha4 hb4 hc4
  go_wp2
  go_ret
  exact ⟨rfl, HK.out.alloc _⟩
end Go.Proofs.Ytimjhjlgnoiimaa
