/- One call of some harts, behind a guard; no conditions. -/
import Derived.Test.YtckbimgoepcoaaaRuns
namespace Go.Proofs.Ytckbimgoepcoaaa
open Go.RowKit

/-- What one call comes to: the harts behind it, what was taken, how it ends. -/
structure Res where
  hs : List H
  got : Int
  took : Bool
  o : Out

def play (kind a m : Int) (x : Bool) (hs : List H) : Res :=
  if 0 ≤ a ∧ a < (hs.length : Int) then
    if kind = 1 then
      if (hd hs a.toNat).nest = 0 then ⟨hs.set a.toNat ⟨x, (hd hs a.toNat).nest, (hd hs a.toNat).mail⟩, 0, false, .done⟩ else ⟨hs, 0, false, .halts 9 a⟩
    else if kind = 2 then ⟨hs.set a.toNat ⟨(hd hs a.toNat).on, (hd hs a.toNat).nest + 1, (hd hs a.toNat).mail⟩, 0, false, .done⟩
    else if kind = 3 then
      if (hd hs a.toNat).nest = 0 then ⟨hs, 0, false, .halts 4 a⟩ else ⟨hs.set a.toNat ⟨(hd hs a.toNat).on, (hd hs a.toNat).nest - 1, (hd hs a.toNat).mail⟩, 0, false, .done⟩
    else if kind = 4 then
      if 0 ≤ m ∧ m ≤ 7 then ⟨hs.set a.toNat ⟨(hd hs a.toNat).on, (hd hs a.toNat).nest, mset (hd hs a.toNat).mail m.toNat⟩, 0, false, .done⟩ else ⟨hs, 0, false, .halts 9 m⟩
    else if kind = 5 then
      if (hd hs a.toNat).mail = 0 then ⟨hs, 0, false, .done⟩
      else ⟨hs.set a.toNat ⟨(hd hs a.toNat).on, (hd hs a.toNat).nest, mclr (hd hs a.toNat).mail (mleast (hd hs a.toNat).mail)⟩, mleast (hd hs a.toNat).mail, true, .done⟩
    else ⟨hs, 0, false, .done⟩
  else ⟨hs, 0, false, .halts 3 a⟩

theorem play_gone {kind a m : Int} {x : Bool} {hs : List H} (ha : a < 0 ∨ (hs.length : Int) ≤ a) : play kind a m x hs = ⟨hs, 0, false, .halts 3 a⟩ := by
  unfold play; rw [if_neg (by omega)]

section
variable {a : Nat} {m : Int} {x : Bool} {hs : List H}
theorem play1a (ha : a < hs.length) (h : (hd hs a).nest = 0) : play 1 a m x hs = ⟨hs.set a ⟨x, (hd hs a).nest, (hd hs a).mail⟩, 0, false, .done⟩ := by
  unfold play; rw [if_pos (by omega), if_pos rfl, if_pos (by simpa using h)]; simp
theorem play1b (ha : a < hs.length) (h : (hd hs a).nest ≠ 0) : play 1 a m x hs = ⟨hs, 0, false, .halts 9 a⟩ := by
  unfold play; rw [if_pos (by omega), if_pos rfl, if_neg (by simpa using h)]
theorem play2 (ha : a < hs.length) : play 2 a m x hs = ⟨hs.set a ⟨(hd hs a).on, (hd hs a).nest + 1, (hd hs a).mail⟩, 0, false, .done⟩ := by
  unfold play; rw [if_pos (by omega), if_neg (by omega), if_pos rfl]; simp
theorem play3a (ha : a < hs.length) (h : (hd hs a).nest = 0) : play 3 a m x hs = ⟨hs, 0, false, .halts 4 a⟩ := by
  unfold play; rw [if_pos (by omega), if_neg (by omega), if_neg (by omega), if_pos rfl, if_pos (by simpa using h)]
theorem play3b (ha : a < hs.length) {n : Nat} (h : (hd hs a).nest = n + 1) : play 3 a m x hs = ⟨hs.set a ⟨(hd hs a).on, n, (hd hs a).mail⟩, 0, false, .done⟩ := by
  unfold play; rw [if_pos (by omega), if_neg (by omega), if_neg (by omega), if_pos rfl, if_neg (by simp [h])]; simp [h]
theorem play4a (ha : a < hs.length) {k : Nat} (hk : k < 8) : play 4 a k x hs = ⟨hs.set a ⟨(hd hs a).on, (hd hs a).nest, mset (hd hs a).mail k⟩, 0, false, .done⟩ := by
  unfold play; rw [if_pos (by omega), if_neg (by omega), if_neg (by omega), if_neg (by omega), if_pos rfl, if_pos (by omega)]; simp
theorem play4b (ha : a < hs.length) (h : m < 0 ∨ 7 < m) : play 4 a m x hs = ⟨hs, 0, false, .halts 9 m⟩ := by
  unfold play; rw [if_pos (by omega), if_neg (by omega), if_neg (by omega), if_neg (by omega), if_pos rfl, if_neg (by omega)]
theorem play5a (ha : a < hs.length) (h : (hd hs a).mail = 0) : play 5 a m x hs = ⟨hs, 0, false, .done⟩ := by
  unfold play; rw [if_pos (by omega), if_neg (by omega), if_neg (by omega), if_neg (by omega), if_neg (by omega), if_pos rfl, if_pos (by simpa using h)]
theorem play5b (ha : a < hs.length) (h : (hd hs a).mail ≠ 0) : play 5 a m x hs = ⟨hs.set a ⟨(hd hs a).on, (hd hs a).nest, mclr (hd hs a).mail (mleast (hd hs a).mail)⟩, mleast (hd hs a).mail, true, .done⟩ := by
  unfold play; rw [if_pos (by omega), if_neg (by omega), if_neg (by omega), if_neg (by omega), if_neg (by omega), if_pos rfl, if_neg (by simpa using h)]; simp
theorem play0 (ha : a < hs.length) {kind : Int} (hk : ¬ (kind = 1 ∨ kind = 2 ∨ kind = 3 ∨ kind = 4 ∨ kind = 5)) : play kind a m x hs = ⟨hs, 0, false, .done⟩ := by
  unfold play; rw [if_pos (by omega), if_neg (by omega), if_neg (by omega), if_neg (by omega), if_neg (by omega), if_neg (by omega)]
end

/-- What is held of the harts: not too deep, mail in eight bits. -/
def Sane (d : Nat) (hs : List H) : Prop := ∀ a, a < hs.length → (hd hs a).nest ≤ d ∧ (hd hs a).mail < 256

/-- A call that turns the harts, and has no result. -/
def Does (F : Nat) (args : Array Value) (p b : Nat) (r : Res) (w : World) : Prop :=
  Calls Try.prog F args w fun e w' => r.o.ends e ∧ HartsIn p b r.hs w' ∧ Kept (fun k => k = b) w w'

theorem done_ends : Out.done.ends (.returned (.tuple #[])) := rfl

theorem set_any (p b : Nat) (hs : List H) (a m : Int) (x : Bool) (w : World) (h : HartsIn p b hs w) : Does 17 #[.pointer (some ⟨p, 0, none⟩), .int .i64 a, .bool x] p b (play 1 a m x hs) w := by
  by_cases ha : 0 ≤ a ∧ a < (hs.length : Int)
  · obtain ⟨i, rfl⟩ : ∃ i : Nat, a = i := ⟨a.toNat, by omega⟩
    by_cases hn : (hd hs i).nest = 0
    · rw [play1a (by omega) hn]
      exact (set_ok p b hs i x (by omega) w h hn).mono fun e w' ⟨he, h1, h2⟩ => ⟨he, h1, h2⟩
    · rw [play1b (by omega) hn]
      exact (set_no p b hs i x (by omega) w h hn).mono fun e w' ⟨he, h1⟩ => ⟨he, h1 ▸ h, h1 ▸ Kept.refl _ _⟩
  · rw [play_gone (by omega)]
    exact (set_gone p b hs a x (by omega) w h).mono fun e w' ⟨he, h1⟩ => ⟨he, h1 ▸ h, h1 ▸ Kept.refl _ _⟩

theorem push_any (p b d : Nat) (hs : List H) (a m : Int) (x : Bool) (w : World) (h : HartsIn p b hs w) (hS : Sane d hs) (hd' : d ≤ 1000000) : Does 8 #[.pointer (some ⟨p, 0, none⟩), .int .i64 a] p b (play 2 a m x hs) w := by
  by_cases ha : 0 ≤ a ∧ a < (hs.length : Int)
  · obtain ⟨i, rfl⟩ : ∃ i : Nat, a = i := ⟨a.toNat, by omega⟩
    rw [play2 (by omega)]
    exact (push_ok p b hs i (by omega) w h (by have := (hS i (by omega)).1; omega)).mono fun e w' ⟨he, h1, h2⟩ => ⟨he, h1, h2⟩
  · rw [play_gone (by omega)]
    exact (push_gone p b hs a (by omega) w h).mono fun e w' ⟨he, h1⟩ => ⟨he, h1 ▸ h, h1 ▸ Kept.refl _ _⟩

theorem pop_any (p b d : Nat) (hs : List H) (a m : Int) (x : Bool) (w : World) (h : HartsIn p b hs w) (hS : Sane d hs) (hd' : d ≤ 1000000) : Does 9 #[.pointer (some ⟨p, 0, none⟩), .int .i64 a] p b (play 3 a m x hs) w := by
  by_cases ha : 0 ≤ a ∧ a < (hs.length : Int)
  · obtain ⟨i, rfl⟩ : ∃ i : Nat, a = i := ⟨a.toNat, by omega⟩
    by_cases hn : (hd hs i).nest = 0
    · rw [play3a (by omega) hn]
      exact (pop_no p b hs i (by omega) w h hn).mono fun e w' ⟨he, h1⟩ => ⟨he, h1 ▸ h, h1 ▸ Kept.refl _ _⟩
    · obtain ⟨n, hn'⟩ : ∃ n, (hd hs i).nest = n + 1 := ⟨(hd hs i).nest - 1, by omega⟩
      rw [play3b (by omega) hn']
      exact (pop_ok p b hs i (by omega) w h n hn' (by have := (hS i (by omega)).1; omega)).mono fun e w' ⟨he, h1, h2⟩ => ⟨he, h1, h2⟩
  · rw [play_gone (by omega)]
    exact (pop_gone p b hs a (by omega) w h).mono fun e w' ⟨he, h1⟩ => ⟨he, h1 ▸ h, h1 ▸ Kept.refl _ _⟩

theorem post_any (p b d : Nat) (hs : List H) (a m : Int) (x : Bool) (w : World) (h : HartsIn p b hs w) (hS : Sane d hs) : Does 13 #[.pointer (some ⟨p, 0, none⟩), .int .i64 a, .int .i64 m] p b (play 4 a m x hs) w := by
  by_cases ha : 0 ≤ a ∧ a < (hs.length : Int)
  · obtain ⟨i, rfl⟩ : ∃ i : Nat, a = i := ⟨a.toNat, by omega⟩
    by_cases hm : 0 ≤ m ∧ m ≤ 7
    · obtain ⟨k, rfl⟩ : ∃ k : Nat, m = k := ⟨m.toNat, by omega⟩
      rw [play4a (by omega) (by omega)]
      exact (post_ok p b hs i k (by omega) (by omega) w h (hS i (by omega)).2).mono fun e w' ⟨he, h1, h2⟩ => ⟨he, h1, h2⟩
    · rw [play4b (by omega) (by omega)]
      exact (post_no p b hs i m (by omega) (by omega) w h).mono fun e w' ⟨he, h1⟩ => ⟨he, h1 ▸ h, h1 ▸ Kept.refl _ _⟩
  · rw [play_gone (by omega)]
    exact (post_gone p b hs a m (by omega) w h).mono fun e w' ⟨he, h1⟩ => ⟨he, h1 ▸ h, h1 ▸ Kept.refl _ _⟩

/-- How a call with results ends: with these, or it stops. -/
def Gives (o : Out) (v : Value) (e : Ending) : Prop := (o = .done ∧ e = .returned v) ∨ (o ≠ .done ∧ o.ends e)

theorem halts_ne (a b : Int) : Out.halts a b ≠ .done := by intro h; cases h

theorem take_any (p b d : Nat) (hs : List H) (a m : Int) (x : Bool) (w : World) (h : HartsIn p b hs w) (hS : Sane d hs) :
    Calls Try.prog 14 #[.pointer (some ⟨p, 0, none⟩), .int .i64 a] w fun e w' => Gives (play 5 a m x hs).o (.tuple #[.int .i64 (play 5 a m x hs).got, .bool (play 5 a m x hs).took]) e ∧ HartsIn p b (play 5 a m x hs).hs w' ∧ Kept (fun k => k = b) w w' := by
  by_cases ha : 0 ≤ a ∧ a < (hs.length : Int)
  · obtain ⟨i, rfl⟩ : ∃ i : Nat, a = i := ⟨a.toNat, by omega⟩
    by_cases hm : (hd hs i).mail = 0
    · rw [play5a (by omega) hm]
      exact (take_none p b hs i (by omega) w h hm).mono fun e w' ⟨he, h1⟩ => ⟨.inl ⟨rfl, he⟩, h1 ▸ h, h1 ▸ Kept.refl _ _⟩
    · rw [play5b (by omega) hm]
      exact (take_some p b hs i (by omega) w h (hS i (by omega)).2 hm).mono fun e w' ⟨he, h1, h2⟩ => ⟨.inl ⟨rfl, he⟩, h1, h2⟩
  · rw [play_gone (by omega)]
    exact (take_gone p b hs a (by omega) w h).mono fun e w' ⟨he, h1⟩ => ⟨.inr ⟨halts_ne _ _, he⟩, h1 ▸ h, h1 ▸ Kept.refl _ _⟩

theorem due_any (p b : Nat) (hs : List H) (kind a m : Int) (x : Bool) (hk : ¬ (kind = 1 ∨ kind = 2 ∨ kind = 3 ∨ kind = 4 ∨ kind = 5)) (w : World) (h : HartsIn p b hs w) :
    Calls Try.prog 18 #[.pointer (some ⟨p, 0, none⟩), .int .i64 a] w fun e w' => (∃ v : Bool, Gives (play kind a m x hs).o (.bool v) e) ∧ HartsIn p b (play kind a m x hs).hs w' ∧ Kept (fun k => k = b) w w' := by
  by_cases ha : 0 ≤ a ∧ a < (hs.length : Int)
  · obtain ⟨i, rfl⟩ : ∃ i : Nat, a = i := ⟨a.toNat, by omega⟩
    rw [play0 (by omega) hk]
    exact (due_ok p b hs i (by omega) w h).mono fun e w' ⟨he, h1⟩ => ⟨⟨_, .inl ⟨rfl, he⟩⟩, h1 ▸ h, h1 ▸ Kept.refl _ _⟩
  · rw [play_gone (by omega)]
    exact (due_gone p b hs a (by omega) w h).mono fun e w' ⟨he, h1⟩ => ⟨⟨false, .inr ⟨halts_ne _ _, he⟩⟩, h1 ▸ h, h1 ▸ Kept.refl _ _⟩

theorem play_idle {kind a m : Int} {x : Bool} {hs : List H} (hk : kind ≠ 5) : (play kind a m x hs).got = 0 ∧ (play kind a m x hs).took = false := by
  by_cases ha : 0 ≤ a ∧ a < (hs.length : Int)
  · obtain ⟨i, rfl⟩ : ∃ i : Nat, a = i := ⟨a.toNat, by omega⟩
    by_cases h1 : kind = 1
    · subst h1
      by_cases hn : (hd hs i).nest = 0
      · rw [play1a (by omega) hn]; exact ⟨rfl, rfl⟩
      · rw [play1b (by omega) hn]; exact ⟨rfl, rfl⟩
    by_cases h2 : kind = 2
    · subst h2; rw [play2 (by omega)]; exact ⟨rfl, rfl⟩
    by_cases h3 : kind = 3
    · subst h3
      by_cases hn : (hd hs i).nest = 0
      · rw [play3a (by omega) hn]; exact ⟨rfl, rfl⟩
      · rw [play3b (n := (hd hs i).nest - 1) (by omega) (by omega)]; exact ⟨rfl, rfl⟩
    by_cases h4 : kind = 4
    · subst h4
      by_cases hm : 0 ≤ m ∧ m ≤ 7
      · obtain ⟨k, rfl⟩ : ∃ k : Nat, m = k := ⟨m.toNat, by omega⟩
        rw [play4a (by omega) (by omega)]; exact ⟨rfl, rfl⟩
      · rw [play4b (by omega) (by omega)]; exact ⟨rfl, rfl⟩
    rw [play0 (by omega) (by omega)]; exact ⟨rfl, rfl⟩
  · rw [play_gone (by omega)]; exact ⟨rfl, rfl⟩

/-- What is known around the guarded function of one call. -/
structure AskIn (qb xb gb tb p b : Nat) (kind a m : Int) (x : Bool) (hs : List H) (w : World) : Prop where
  q : w.heap[qb]? = some (.cells #[.int .i64 kind, .int .i64 a, .int .i64 m, .bool x] 39 (0, 0))
  box : w.heap[xb]? = some (.cells #[.pointer (some ⟨p, 0, none⟩)] 22 (0, 0))
  got : w.heap[gb]? = some (.cells #[.int .i64 0] 3 (0, 0))
  took : w.heap[tb]? = some (.cells #[.bool false] 4 (0, 0))
  harts : HartsIn p b hs w
  gp : gb ≠ p
  gw : gb ≠ b
  tp : tb ≠ p
  tw : tb ≠ b
  gt : gb ≠ tb

theorem AskIn.kept {qb xb gb tb p b : Nat} {kind a m : Int} {x : Bool} {hs : List H} {w w' : World} (h : AskIn qb xb gb tb p b kind a m x hs w) (hk : Kept (fun _ => False) w w') : AskIn qb xb gb tb p b kind a m x hs w' :=
  ⟨hk.at h.q (by simp), hk.at h.box (by simp), hk.at h.got (by simp), hk.at h.took (by simp), h.harts.kept hk (by simp) (by simp), h.gp, h.gw, h.tp, h.tw, h.gt⟩

def AskEnd (gb tb p b : Nat) (r : Res) (w : World) (e : Ending) (w' : World) : Prop :=
  r.o.ends e ∧ ((HartsIn p b r.hs w' ∧ w'.heap[gb]? = some (.cells #[.int .i64 r.got] 3 (0, 0)) ∧ w'.heap[tb]? = some (.cells #[.bool r.took] 4 (0, 0))) ∧ Kept (fun k => k = b ∨ k = gb ∨ k = tb) w w')

theorem ask_w (qb xb gb tb p b d : Nat) (kind a m : Int) (x : Bool) (hs : List H) (hS : Sane d hs) (hd' : d ≤ 1000000) (w : World) (h : AskIn qb xb gb tb p b kind a m x hs w) :
    Calls Try.prog 16 #[.pointer (some ⟨qb, 0, none⟩), .pointer (some ⟨xb, 0, none⟩), .pointer (some ⟨gb, 0, none⟩), .pointer (some ⟨tb, 0, none⟩)] w (AskEnd gb tb p b (play kind a m x hs) w) := by
  have q0 := cell_at h.q (i := 0) rfl
  have q1 := cell_at h.q (i := 1) rfl
  have q2 := cell_at h.q (i := 2) rfl
  have q3 := cell_at h.q (i := 3) rfl
  have m0 := cell_at h.box (i := 0) rfl
  have idle : ∀ w1, kind ≠ 5 → HartsIn p b (play kind a m x hs).hs w1 → Kept (fun k => k = b) w w1 → ((HartsIn p b (play kind a m x hs).hs w1 ∧ w1.heap[gb]? = some (.cells #[.int .i64 (play kind a m x hs).got] 3 (0, 0)) ∧ w1.heap[tb]? = some (.cells #[.bool (play kind a m x hs).took] 4 (0, 0))) ∧ Kept (fun k => k = b ∨ k = gb ∨ k = tb) w w1) := by
    intro w1 h5 h1 hk
    obtain ⟨e1, e2⟩ := play_idle (a := a) (m := m) (x := x) (hs := hs) h5
    rw [e1, e2]
    exact ⟨⟨h1, hk.at h.got h.gw, hk.at h.took h.tw⟩, hk.mono (fun _ _ e => .inl e)⟩
  have HI : Hid _ := idle
  unfold AskEnd
  clear idle
  by_cases k1 : kind = 1
  · subst k1
    have A := set_any p b hs a m x w h.harts
    unfold Does at A
    generalize play 1 a m x hs = r at *
    go_enter Try.func16, Try.ntmps16
    go_wp2_with fail
    refine A.mono ?_
    rintro e w1 ⟨he, hM, hk⟩
    have HZ : Hid _ := HI.out w1 (by omega) hM hk
    clear HI hM hk A h
    rcases ends_cases he with ⟨h', rfl⟩ | ⟨hst, v', older, hv, rfl, hold⟩
    · go_wp2
      go_end0
      exact ⟨by rw [h']; exact done_ends, HZ.out⟩
    · exact ⟨rfl, ends_stop hv hold, HZ.out⟩
  have n1 : (kind == 1) = false := by simp [k1]
  by_cases k2 : kind = 2
  · subst k2
    have A := push_any p b d hs a m x w h.harts hS hd'
    unfold Does at A
    generalize play 2 a m x hs = r at *
    go_enter Try.func16, Try.ntmps16
    go_wp2_with fail
    refine A.mono ?_
    rintro e w1 ⟨he, hM, hk⟩
    have HZ : Hid _ := HI.out w1 (by omega) hM hk
    clear HI hM hk A h
    rcases ends_cases he with ⟨h', rfl⟩ | ⟨hst, v', older, hv, rfl, hold⟩
    · go_wp2
      go_end0
      exact ⟨by rw [h']; exact done_ends, HZ.out⟩
    · exact ⟨rfl, ends_stop hv hold, HZ.out⟩
  have n2 : (kind == 2) = false := by simp [k2]
  by_cases k3 : kind = 3
  · subst k3
    have A := pop_any p b d hs a m x w h.harts hS hd'
    unfold Does at A
    generalize play 3 a m x hs = r at *
    go_enter Try.func16, Try.ntmps16
    go_wp2_with fail
    refine A.mono ?_
    rintro e w1 ⟨he, hM, hk⟩
    have HZ : Hid _ := HI.out w1 (by omega) hM hk
    clear HI hM hk A h
    rcases ends_cases he with ⟨h', rfl⟩ | ⟨hst, v', older, hv, rfl, hold⟩
    · go_wp2
      go_end0
      exact ⟨by rw [h']; exact done_ends, HZ.out⟩
    · exact ⟨rfl, ends_stop hv hold, HZ.out⟩
  have n3 : (kind == 3) = false := by simp [k3]
  by_cases k4 : kind = 4
  · subst k4
    have A := post_any p b d hs a m x w h.harts hS
    unfold Does at A
    generalize play 4 a m x hs = r at *
    go_enter Try.func16, Try.ntmps16
    go_wp2_with fail
    refine A.mono ?_
    rintro e w1 ⟨he, hM, hk⟩
    have HZ : Hid _ := HI.out w1 (by omega) hM hk
    clear HI hM hk A h
    rcases ends_cases he with ⟨h', rfl⟩ | ⟨hst, v', older, hv, rfl, hold⟩
    · go_wp2
      go_end0
      exact ⟨by rw [h']; exact done_ends, HZ.out⟩
    · exact ⟨rfl, ends_stop hv hold, HZ.out⟩
  have n4 : (kind == 4) = false := by simp [k4]
  by_cases k5 : kind = 5
  · subst k5
    clear HI
    have idle5 := play_gone (kind := 5) (a := a) (m := m) (x := x) (hs := hs)
    have A := take_any p b d hs a m x w h.harts hS
    have hz : (play 5 a m x hs).o ≠ .done → (play 5 a m x hs).got = 0 ∧ (play 5 a m x hs).took = false := by
      by_cases ha : 0 ≤ a ∧ a < (hs.length : Int)
      · obtain ⟨i, rfl⟩ : ∃ i : Nat, a = i := ⟨a.toNat, by omega⟩
        by_cases hm : (hd hs i).mail = 0
        · rw [play5a (by omega) hm]; intro _; exact ⟨rfl, rfl⟩
        · rw [play5b (by omega) hm]; intro h; exact absurd rfl h
      · rw [play_gone (by omega)]; intro _; exact ⟨rfl, rfl⟩
    clear idle5
    generalize play 5 a m x hs = r at *
    have HZ : Hid _ := hz
    clear hz
    go_enter Try.func16, Try.ntmps16
    go_wp2_with fail
    refine A.mono ?_
    rintro e w1 ⟨he, hM, hk⟩
    have hg := hk.at h.got h.gw
    have ht := hk.at h.took h.tw
    rcases he with ⟨h', rfl⟩ | ⟨hne, he⟩
    · have g0 := cell_at hg (i := 0) rfl
      have gf := free_at hg 0
      have t0 := cell_at ht (i := 0) rfl
      have tf := free_at ht 0
      have x1 := h.gt
      have x2 := Ne.symm h.gt
      have HM : Hid _ := hM
      have HK : Hid _ := hk
      clear hM hk A q0 q1 q2 q3 m0
      go_wp2
      go_end0
      have kg : Kept (fun k => k = gb) w1 (w1.setCell ⟨gb, 0, none⟩ (.int .i64 r.got)) := kept_set (X := fun k => k = gb) (Kept.refl _ _) rfl _ _
      have kt : Kept (fun k => k = tb) (w1.setCell ⟨gb, 0, none⟩ (.int .i64 r.got)) ((w1.setCell ⟨gb, 0, none⟩ (.int .i64 r.got)).setCell ⟨tb, 0, none⟩ (.bool r.took)) := kept_set (X := fun k => k = tb) (Kept.refl _ _) rfl _ _
      have y1 := Ne.symm h.gp
      have y2 := Ne.symm h.gw
      have y3 := Ne.symm h.tp
      have y4 := Ne.symm h.tw
      refine ⟨by rw [h']; exact done_ends, ⟨(HM.out.kept kg y1 y2).kept kt y3 y4, kt.at (set_at hg 0 _) x1, set_at (kg.at ht x2) 0 _⟩, ?_⟩
      exact ((HK.out.mono (Y := fun k => k = b ∨ k = gb ∨ k = tb) (fun _ _ e => .inl e)).trans kg (fun _ _ e => .inr (.inl e))).trans kt (fun _ _ e => .inr (.inr e))
    · obtain ⟨z1, z2⟩ := HZ.out hne
      rcases ends_cases he with ⟨h', rfl⟩ | ⟨hst, v', older, hv, rfl, hold⟩
      · exact absurd h' hne
      · refine ⟨rfl, ends_stop hv hold, ?_⟩
        rw [z1, z2]
        exact ⟨⟨hM, hg, ht⟩, hk.mono (fun _ _ e => .inl e)⟩
  have n5 : (kind == 5) = false := by simp [k5]
  have A := due_any p b hs kind a m x (by omega) w h.harts
  have HI5 : Hid _ := fun w1 => HI.out w1 k5
  clear HI k1 k2 k3 k4 k5
  generalize play kind a m x hs = r at *
  go_enter Try.func16, Try.ntmps16
  go_wp2_with fail
  refine A.mono ?_
  rintro e w1 ⟨⟨v, he⟩, hM, hk⟩
  have HZ : Hid _ := HI5.out w1 hM hk
  clear HI5 hM hk A h
  rcases he with ⟨h', rfl⟩ | ⟨hne, he⟩
  · go_wp2
    go_end0
    exact ⟨by rw [h']; exact done_ends, HZ.out⟩
  · rcases ends_cases he with ⟨h', rfl⟩ | ⟨hst, v', older, hv, rfl, hold⟩
    · exact absurd h' hne
    · exact ⟨rfl, ends_stop hv hold, HZ.out⟩
end Go.Proofs.Ytckbimgoepcoaaa
