/- A try of a lock, and what each call of it does; no conditions. -/
import Derived.Test.YtlfcbijgncpieaaMem
import Derived.Deep.RegionHeld3
import Derived.RegionDies
namespace Go.Proofs.Ytlfcbijgncpieaa
open Go.RowKit

/-- A try in block q: of the lock at a, in state s, with ticket t. -/
abbrev TryIn (q : Nat) (a s t : Int) (w : World) : Prop := w.heap[q]? = some (.cells #[.int .i64 a, .int .i64 s, .int .i64 t] 49 (0, 0))

theorem try_new (a : Int) (w : World) :
    Calls Try.prog 9 #[.int .i64 a] w fun e w' => e = .returned (.pointer (some ⟨w.heap.size, 0, none⟩)) ∧ w' = w.alloc (.cells #[.int .i64 a, .int .i64 0, .int .i64 (-1)] 49) := by
  go_enter Try.func9, Try.ntmps9
  go_wp2
  go_ret
  exact ⟨rfl, rfl⟩

theorem at_w (q : Nat) (a s t : Int) (w : World) (h : TryIn q a s t w) :
    Calls Try.prog 12 #[.pointer (some ⟨q, 0, none⟩)] w fun e w' => e = .returned (.int .i64 s) ∧ w' = w := by
  have c1 := cell_at h (i := 1) rfl
  go_enter Try.func12, Try.ntmps12
  go_wp2
  go_ret
  exact ⟨rfl, rfl⟩

theorem ticket_w (q : Nat) (a s t : Int) (w : World) (h : TryIn q a s t w) :
    Calls Try.prog 13 #[.pointer (some ⟨q, 0, none⟩)] w fun e w' => e = .returned (.int .i64 t) ∧ w' = w := by
  have c1 := cell_at h (i := 2) rfl
  go_enter Try.func13, Try.ntmps13
  go_wp2
  go_ret
  exact ⟨rfl, rfl⟩

theorem next_w (q : Nat) (a s t : Int) (w : World) (h : TryIn q a s t w) :
    Calls Try.prog 21 #[.pointer (some ⟨q, 0, none⟩)] w fun e w' => e = .returned (.int .i64 a) ∧ w' = w := by
  have c1 := cell_at h (i := 0) rfl
  go_enter Try.func21, Try.ntmps21
  go_wp2
  go_ret
  exact ⟨rfl, rfl⟩

theorem turn_w (q : Nat) (a : Nat) (ha : a ≤ 4096) (s t : Int) (w : World) (h : TryIn q a s t w) :
    Calls Try.prog 22 #[.pointer (some ⟨q, 0, none⟩)] w fun e w' => e = .returned (.int .i64 ((a + 1 : Nat) : Int)) ∧ w' = w := by
  have c1 := cell_at h (i := 0) rfl
  go_enter Try.func22, Try.ntmps22
  go_wp2
  go_ret
  exact ⟨by simp, rfl⟩

/-- A try's own store. -/
theorem try_state {q : Nat} {a s t : Int} {w : World} (h : TryIn q a s t w) (s' : Int) : TryIn q a s' t (w.setCell ⟨q, 1, none⟩ (.int .i64 s')) := set_at h 1 _
theorem try_ticket {q : Nat} {a s t : Int} {w : World} (h : TryIn q a s t w) (t' : Int) : TryIn q a s t' (w.setCell ⟨q, 2, none⟩ (.int .i64 t')) := set_at h 2 _

theorem MemIn.off {p b q i : Nat} {ws : List Int} {c : Int} {w : World} (h : MemIn p b ws c w) (hp : q ≠ p) (hb : q ≠ b) (v : Value) : MemIn p b ws c (w.setCell ⟨q, i, none⟩ v) :=
  ⟨(set_off _ hp.symm).trans h.mem, (set_off _ hb.symm).trans h.row, h.ne⟩

theorem MemIn.drew {p b : Nat} {ws : List Int} {c : Int} {w : World} (h : MemIn p b ws c w) : MemIn p b ws c w.drew := ⟨h.mem, h.row, h.ne⟩

/-- A step of one that is fresh: it draws its ticket. -/
theorem step_fresh (p b q : Nat) (ws : List Int) (c : Int) (a : Nat) (t : Int) (ha : a < ws.length) (hc : 0 ≤ c ∧ c ≤ 1000000) (hp : q ≠ p) (hb : q ≠ b) (w : World) (h : MemIn p b ws c w) (hq : TryIn q a 0 t w) :
    Calls Try.prog 10 #[.pointer (some ⟨q, 0, none⟩), .pointer (some ⟨p, 0, none⟩)] w fun e w' => e = .returned (.bool false) ∧ MemIn p b (ws.set a (wrap64 (wd ws a + 1))) (c + 1) w' ∧ TryIn q a 1 (wd ws a) w' ∧ Kept (fun k => k = p ∨ k = b ∨ k = q) w w' := by
  have c0 := cell_at hq (i := 0) rfl
  have c1 := cell_at hq (i := 1) rfl
  have hqd : TryIn q a 0 t w.drew := hq
  have AD := add_ok p b ws c a 1 ha hc w.drew h.drew
  go_enter Try.func10, Try.ntmps10
  go_wp2_with fail
  go_region_held3 (fun w' => w'.cell? ⟨q, 0, none⟩ = some (.int .i64 a) ∧ w'.cell? ⟨q, 1, none⟩ = some (.int .i64 0)) (simp [*])
    (first | (go_at_call 19; refine (must_ok _ _ _).mono ?_; rintro e w1 ⟨rfl, rfl⟩))
  go_wp2_with fail
  refine (next_w q a 0 t _ hqd).mono ?_
  rintro e w1 ⟨rfl, rfl⟩
  go_wp2_with fail
  refine AD.mono ?_
  rintro e w2 ⟨rfl, hM, hk⟩
  have h2 := hk.at hqd (by omega)
  have d2 := cell_at h2 (i := 2) rfl
  have f2 := free_at h2 2
  have h3 := try_ticket h2 (wd ws a)
  have d3 := cell_at h3 (i := 1) rfl
  have f3 := free_at h3 1
  have h4 := try_state h3 1
  have HM : Hid _ := (hM.off (i := 2) hp hb (.int .i64 (wd ws a))).off (i := 1) hp hb (.int .i64 1)
  have HK : Hid (Kept (fun k => k = p ∨ k = b ∨ k = q) w w2) := (Kept.refl _ w).drew.trans hk (by intro k _ h; omega)
  have H4 : Hid _ := h4
  clear AD hM hk h2 h3 h4 hq hqd h
  go_wp2
  go_ret
  exact ⟨rfl, HM.out, H4.out, (HK.out.setCell (fun _ => .inr (.inr rfl)) _).setCell (fun _ => .inr (.inr rfl)) _⟩

/-- A step of one that waits, when it is its turn. -/
theorem step_wins (p b q : Nat) (ws : List Int) (c : Int) (a : Nat) (t : Int) (ha : a + 1 < ws.length) (ha' : a ≤ 4096) (hc : 0 ≤ c ∧ c ≤ 1000000) (hp : q ≠ p) (hb : q ≠ b) (ht : wd ws (a + 1) = t) (w : World) (h : MemIn p b ws c w) (hq : TryIn q a 1 t w) :
    Calls Try.prog 10 #[.pointer (some ⟨q, 0, none⟩), .pointer (some ⟨p, 0, none⟩)] w fun e w' => e = .returned (.bool true) ∧ MemIn p b ws (c + 1) w' ∧ TryIn q a 2 t w' ∧ Kept (fun k => k = p ∨ k = q) w w' := by
  have c0 := cell_at hq (i := 0) rfl
  have c1 := cell_at hq (i := 1) rfl
  have c2 := cell_at hq (i := 2) rfl
  have hqd : TryIn q a 1 t w.drew.drew := hq
  have LD := load_ok p b ws c (a + 1) ha hc w.drew.drew h.drew.drew
  rw [ht] at LD
  go_enter Try.func10, Try.ntmps10
  go_wp2_with fail
  go_region_held3 (fun w' => w'.cell? ⟨q, 0, none⟩ = some (.int .i64 a) ∧ w'.cell? ⟨q, 1, none⟩ = some (.int .i64 1)) (simp [*])
    (first | (go_at_call 19; refine (must_ok _ _ _).mono ?_; rintro e w1 ⟨rfl, rfl⟩))
  go_wp2_with fail
  go_region_held3 (fun w' => w'.cell? ⟨q, 2, none⟩ = some (.int .i64 t)) (simp [*])
    (first
      | (go_at_call 22; refine (turn_w q a ha' 1 t _ hqd).mono ?_; rintro e w1 ⟨rfl, rfl⟩)
      | (go_at_call 18; refine LD.mono ?_; rintro e w2 ⟨rfl, hM, hk⟩; have h2 := hk.at hqd (by omega); have d2 := cell_at h2 (i := 2) rfl))
  have d3 := cell_at h2 (i := 1) rfl
  have f3 := free_at h2 1
  have H4 : Hid _ := try_state h2 2
  have HM : Hid _ := hM.off (i := 1) hp hb (.int .i64 2)
  have HK : Hid (Kept (fun k => k = p ∨ k = q) w w2) := (Kept.refl _ w).drew.drew.trans hk (by intro k _ h; omega)
  clear LD hM hk h2 hq hqd h
  go_wp2
  go_ret
  exact ⟨rfl, HM.out, H4.out, HK.out.setCell (fun _ => .inr rfl) _⟩

/-- A step of one that waits, when it is not its turn. -/
theorem step_waits (p b q : Nat) (ws : List Int) (c : Int) (a : Nat) (t : Int) (ha : a + 1 < ws.length) (ha' : a ≤ 4096) (hc : 0 ≤ c ∧ c ≤ 1000000) (hp : q ≠ p) (ht : ¬ wd ws (a + 1) = t) (w : World) (h : MemIn p b ws c w) (hq : TryIn q a 1 t w) :
    Calls Try.prog 10 #[.pointer (some ⟨q, 0, none⟩), .pointer (some ⟨p, 0, none⟩)] w fun e w' => e = .returned (.bool false) ∧ MemIn p b ws (c + 1) w' ∧ TryIn q a 1 t w' ∧ Kept (fun k => k = p ∨ k = q) w w' := by
  have c0 := cell_at hq (i := 0) rfl
  have c1 := cell_at hq (i := 1) rfl
  have c2 := cell_at hq (i := 2) rfl
  have hqd : TryIn q a 1 t w.drew.drew := hq
  have LD := load_ok p b ws c (a + 1) ha hc w.drew.drew h.drew.drew
  have ht' : (wd ws (a + 1) == t) = false := by simpa using ht
  generalize wd ws (a + 1) = v at *
  go_enter Try.func10, Try.ntmps10
  go_wp2_with fail
  go_region_held3 (fun w' => w'.cell? ⟨q, 0, none⟩ = some (.int .i64 a) ∧ w'.cell? ⟨q, 1, none⟩ = some (.int .i64 1)) (simp [*])
    (first | (go_at_call 19; refine (must_ok _ _ _).mono ?_; rintro e w1 ⟨rfl, rfl⟩))
  go_wp2_with fail
  go_region_held3 (fun w' => w'.cell? ⟨q, 2, none⟩ = some (.int .i64 t)) (simp [*])
    (first
      | (go_at_call 22; refine (turn_w q a ha' 1 t _ hqd).mono ?_; rintro e w1 ⟨rfl, rfl⟩)
      | (go_at_call 18; refine LD.mono ?_; rintro e w2 ⟨rfl, hM, hk⟩; have h2 := hk.at hqd (by omega); have d2 := cell_at h2 (i := 2) rfl))
  have d3 := cell_at h2 (i := 1) rfl
  have H4 : Hid _ := h2
  have HM : Hid _ := hM
  have HK : Hid (Kept (fun k => k = p ∨ k = q) w w2) := (Kept.refl _ w).drew.drew.trans hk (by intro k _ h; omega)
  clear LD hM hk h2 hq hqd h
  go_wp2
  go_ret
  exact ⟨rfl, HM.out, H4.out, HK.out⟩

/-- A step of one that holds. -/
theorem step_holds (p q : Nat) (a t : Int) (w : World) (hq : TryIn q a 2 t w) :
    Calls Try.prog 10 #[.pointer (some ⟨q, 0, none⟩), .pointer (some ⟨p, 0, none⟩)] w fun e w' => e = .returned (.bool true) ∧ Kept (fun _ => False) w w' := by
  have c0 := cell_at hq (i := 0) rfl
  have c1 := cell_at hq (i := 1) rfl
  go_enter Try.func10, Try.ntmps10
  go_wp2_with fail
  go_region_held3 (fun w' => w'.cell? ⟨q, 0, none⟩ = some (.int .i64 a) ∧ w'.cell? ⟨q, 1, none⟩ = some (.int .i64 2)) (simp [*])
    (first | (go_at_call 19; refine (must_ok _ _ _).mono ?_; rintro e w1 ⟨rfl, rfl⟩))
  go_wp2
  go_ret
  exact ⟨rfl, (Kept.refl _ w).drew⟩

theorem must_dies (a b : Int) (w : World) : Calls Try.prog 19 #[.bool false, .int .i64 a, .int .i64 b] w fun e w' => ∃ v older, (Out.halts a b).says v ∧ e = .panicked ({ v := v, recovered := false } :: older) ∧ (∀ p ∈ older, p.goexit = false) ∧ w' = w :=
  (must_not a b w).mono fun e w' ⟨he, hw⟩ => by
    rcases ends_cases he with ⟨h, rfl⟩ | ⟨hst, v, older, hv, rfl, hold⟩
    · cases h
    · exact ⟨v, older, hv, rfl, hold, hw⟩

/-- A step of one that is done. -/
theorem step_done (p q : Nat) (a t : Int) (w : World) (hq : TryIn q a 3 t w) :
    Calls Try.prog 10 #[.pointer (some ⟨q, 0, none⟩), .pointer (some ⟨p, 0, none⟩)] w fun e w' => (Out.halts 9 a).ends e ∧ Kept (fun _ => False) w w' := by
  have c0 := cell_at hq (i := 0) rfl
  have c1 := cell_at hq (i := 1) rfl
  go_enter Try.func10, Try.ntmps10
  go_wp2_with fail
  go_region_dies
  all_goals
    refine (must_dies _ _ _).mono ?_
    rintro e w1 ⟨v, older, hv, rfl, hold, rfl⟩
    exact ⟨rfl, ends_stop hv hold, (Kept.refl _ w).drew⟩

/-- Leave of one that holds. -/
theorem leave_holds (p b q : Nat) (ws : List Int) (c : Int) (a : Nat) (t : Int) (ha : a + 1 < ws.length) (ha' : a ≤ 4096) (hc : 0 ≤ c ∧ c ≤ 1000000) (hp : q ≠ p) (hb : q ≠ b) (w : World) (h : MemIn p b ws c w) (hq : TryIn q a 2 t w) :
    Calls Try.prog 11 #[.pointer (some ⟨q, 0, none⟩), .pointer (some ⟨p, 0, none⟩)] w fun e w' => e = .returned (.tuple #[]) ∧ MemIn p b (ws.set (a + 1) (wrap64 (wd ws (a + 1) + 1))) (c + 1) w' ∧ TryIn q a 3 t w' ∧ Kept (fun k => k = p ∨ k = b ∨ k = q) w w' := by
  have c0 := cell_at hq (i := 0) rfl
  have c1 := cell_at hq (i := 1) rfl
  have hqd : TryIn q a 2 t w.drew := hq
  have AD := add_ok p b ws c (a + 1) 1 ha hc w.drew h.drew
  go_enter Try.func11, Try.ntmps11
  go_wp2_with fail
  go_region_held3 (fun w' => w'.cell? ⟨q, 0, none⟩ = some (.int .i64 a) ∧ w'.cell? ⟨q, 1, none⟩ = some (.int .i64 2)) (simp [*])
    (first | (go_at_call 19; refine (must_ok _ _ _).mono ?_; rintro e w1 ⟨rfl, rfl⟩))
  go_wp2_with fail
  refine (turn_w q a ha' 2 t _ hqd).mono ?_
  rintro e w1 ⟨rfl, rfl⟩
  go_wp2_with fail
  refine AD.mono ?_
  rintro e w2 ⟨rfl, hM, hk⟩
  have h2 := hk.at hqd (by omega)
  have d3 := cell_at h2 (i := 1) rfl
  have f3 := free_at h2 1
  have H4 : Hid _ := try_state h2 3
  have HM : Hid _ := hM.off (i := 1) hp hb (.int .i64 3)
  have HK : Hid (Kept (fun k => k = p ∨ k = b ∨ k = q) w w2) := (Kept.refl _ w).drew.trans hk (by intro k _ h; omega)
  clear AD hM hk h2 hq hqd h
  go_wp2
  go_end0
  exact ⟨rfl, HM.out, H4.out, HK.out.setCell (fun _ => .inr (.inr rfl)) _⟩

/-- Leave of one that doesn't hold. -/
theorem leave_no (p q : Nat) (a s t : Int) (hs : ¬ s = 2) (w : World) (hq : TryIn q a s t w) :
    Calls Try.prog 11 #[.pointer (some ⟨q, 0, none⟩), .pointer (some ⟨p, 0, none⟩)] w fun e w' => (Out.halts 6 a).ends e ∧ Kept (fun _ => False) w w' := by
  have c0 := cell_at hq (i := 0) rfl
  have c1 := cell_at hq (i := 1) rfl
  have hs' : (s == 2) = false := by simpa using hs
  go_enter Try.func11, Try.ntmps11
  go_wp2_with fail
  go_region_dies
  all_goals
    refine (must_dies _ _ _).mono ?_
    rintro e w1 ⟨v, older, hv, rfl, hold, rfl⟩
    exact ⟨rfl, ends_stop hv hold, (Kept.refl _ w).drew⟩

end Go.Proofs.Ytlfcbijgncpieaa
