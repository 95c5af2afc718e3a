/- One step of a try of two locks, behind a guard; no conditions. -/
import Derived.Test.YtlfcbijgncpieaaRow
namespace Go.Proofs.Ytlfcbijgncpieaa
open Go.RowKit

/-- Two locks, at 1 and at 3, in six words. -/
structure Lk where
  n1 : Nat
  t1 : Nat
  n3 : Nat
  t3 : Nat

def Lk.ws (l : Lk) : List Int := [0, l.n1, l.t1, l.n3, l.t3, 0]
def Lk.xs (l : Lk) : List Int := [0, l.n1, 0, l.n3]
def Lk.ys (l : Lk) : List Int := [0, l.t1, 0, l.t3]
def Lk.nx (l : Lk) (a : Nat) : Nat := if a = 1 then l.n1 else l.n3
def Lk.tn (l : Lk) (a : Nat) : Nat := if a = 1 then l.t1 else l.t3
def Lk.upN (l : Lk) (a : Nat) : Lk := if a = 1 then ⟨l.n1 + 1, l.t1, l.n3, l.t3⟩ else ⟨l.n1, l.t1, l.n3 + 1, l.t3⟩
def Lk.upT (l : Lk) (a : Nat) : Lk := if a = 1 then ⟨l.n1, l.t1 + 1, l.n3, l.t3⟩ else ⟨l.n1, l.t1, l.n3, l.t3 + 1⟩
/-- How many there were at most. -/
def Lk.low (l : Lk) (d : Nat) : Prop := l.n1 ≤ d ∧ l.t1 ≤ d ∧ l.n3 ≤ d ∧ l.t3 ≤ d

theorem w64 {n : Nat} (h : n ≤ 1000000) : wrap64 ((n : Int) + 1) = ((n + 1 : Nat) : Int) := by unfold wrap64; omega

section
variable {l : Lk} {a d : Nat}
theorem Lk.ws_nx (ha : a = 1 ∨ a = 3) : wd l.ws a = l.nx a := by rcases ha with rfl | rfl <;> rfl
theorem Lk.ws_tn (ha : a = 1 ∨ a = 3) : wd l.ws (a + 1) = l.tn a := by rcases ha with rfl | rfl <;> rfl
theorem Lk.nx_le (h : l.low d) : l.nx a ≤ d := by unfold Lk.nx; split <;> simp_all [Lk.low]
theorem Lk.tn_le (h : l.low d) : l.tn a ≤ d := by unfold Lk.tn; split <;> simp_all [Lk.low]
theorem Lk.ws_upN (ha : a = 1 ∨ a = 3) (h : l.low d) (hd : d ≤ 1000000) : l.ws.set a (wrap64 (wd l.ws a + 1)) = (l.upN a).ws := by
  rw [Lk.ws_nx ha, w64 (Nat.le_trans (Lk.nx_le h) hd)]
  rcases ha with rfl | rfl <;> simp [Lk.ws, Lk.upN, Lk.nx]
theorem Lk.ws_upT (ha : a = 1 ∨ a = 3) (h : l.low d) (hd : d ≤ 1000000) : l.ws.set (a + 1) (wrap64 (wd l.ws (a + 1) + 1)) = (l.upT a).ws := by
  rw [Lk.ws_tn ha, w64 (Nat.le_trans (Lk.tn_le h) hd)]
  rcases ha with rfl | rfl <;> simp [Lk.ws, Lk.upT, Lk.tn]
theorem Lk.xs_upN (ha : a = 1 ∨ a = 3) : (l.upN a).xs = l.xs.set a ((l.nx a + 1 : Nat) : Int) := by rcases ha with rfl | rfl <;> simp [Lk.xs, Lk.upN, Lk.nx]
theorem Lk.ys_upN (ha : a = 1 ∨ a = 3) : (l.upN a).ys = l.ys := by rcases ha with rfl | rfl <;> simp [Lk.ys, Lk.upN]
theorem Lk.ys_upT (ha : a = 1 ∨ a = 3) : (l.upT a).ys = l.ys.set a ((l.tn a + 1 : Nat) : Int) := by rcases ha with rfl | rfl <;> simp [Lk.ys, Lk.upT, Lk.tn]
theorem Lk.xs_upT (ha : a = 1 ∨ a = 3) : (l.upT a).xs = l.xs := by rcases ha with rfl | rfl <;> simp [Lk.xs, Lk.upT]
theorem Lk.xs_get (ha : a = 1 ∨ a = 3) : l.xs[a]? = some (l.nx a : Int) := by rcases ha with rfl | rfl <;> simp [Lk.xs, Lk.nx]
theorem Lk.ys_get (ha : a = 1 ∨ a = 3) : l.ys[a]? = some (l.tn a : Int) := by rcases ha with rfl | rfl <;> simp [Lk.ys, Lk.tn]
theorem Lk.low_upN (h : l.low d) : (l.upN a).low (d + 1) := by unfold Lk.upN Lk.low at *; split <;> simp_all <;> omega
theorem Lk.low_upT (h : l.low d) : (l.upT a).low (d + 1) := by unfold Lk.upT Lk.low at *; split <;> simp_all <;> omega
theorem Lk.low_more (h : l.low d) : l.low (d + 1) := by unfold Lk.low at *; omega
end

/-- What one ask comes to: the locks, the try, how many accesses, what was told, how it ends. -/
structure Res where
  l : Lk
  x : T
  dc : Nat
  got : Bool
  o : Out

def play (leave : Bool) (a : Nat) (l : Lk) (s t : Int) : Res :=
  if leave = true then
    if s = 2 then ⟨l.upT a, ⟨a, 3, t⟩, 1, false, .done⟩ else ⟨l, ⟨a, s, t⟩, 0, false, .halts 6 a⟩
  else if s = 0 then ⟨l.upN a, ⟨a, 1, l.nx a⟩, 1, false, .done⟩
  else if s = 1 then
    if (l.tn a : Int) = t then ⟨l, ⟨a, 2, t⟩, 1, true, .done⟩ else ⟨l, ⟨a, 1, t⟩, 1, false, .done⟩
  else if s = 2 then ⟨l, ⟨a, 2, t⟩, 0, true, .done⟩ else ⟨l, ⟨a, s, t⟩, 0, false, .halts 9 a⟩

section
variable {a : Nat} {l : Lk} {s t : Int}
theorem play_l2 : play true a l 2 t = ⟨l.upT a, ⟨a, 3, t⟩, 1, false, .done⟩ := by simp [play]
theorem play_lx (h : ¬ s = 2) : play true a l s t = ⟨l, ⟨a, s, t⟩, 0, false, .halts 6 a⟩ := by simp [play, h]
theorem play_s0 : play false a l 0 t = ⟨l.upN a, ⟨a, 1, l.nx a⟩, 1, false, .done⟩ := by simp [play]
theorem play_s1 (h : (l.tn a : Int) = t) : play false a l 1 t = ⟨l, ⟨a, 2, t⟩, 1, true, .done⟩ := by simp [play, h]
theorem play_s1n (h : ¬ (l.tn a : Int) = t) : play false a l 1 t = ⟨l, ⟨a, 1, t⟩, 1, false, .done⟩ := by simp [play, h]
theorem play_s2 : play false a l 2 t = ⟨l, ⟨a, 2, t⟩, 0, true, .done⟩ := by simp [play]
theorem play_s3 : play false a l 3 t = ⟨l, ⟨a, 3, t⟩, 0, false, .halts 9 a⟩ := by simp [play]
end

/-- How a call with a result ends: with it, or it stops. -/
def Gives (o : Out) (v : Value) (e : Ending) : Prop := (o = .done ∧ e = .returned v) ∨ (o ≠ .done ∧ o.ends e)

theorem halts_ne (a b : Int) : Out.halts a b ≠ .done := by intro h; cases h

/-- What a call leaves. -/
def Left (p b q : Nat) (c : Int) (r : Res) (w w' : World) : Prop :=
  MemIn p b r.l.ws (c + r.dc) w' ∧ TryIn q r.x.a r.x.s r.x.t w' ∧ Kept (fun k => k = p ∨ k = b ∨ k = q) w w'

theorem left_same {p b q a : Nat} {l : Lk} {c s t : Int} {got : Bool} {o : Out} {w w' : World} (h : MemIn p b l.ws c w) (hq : TryIn q a s t w) (hk : Kept (fun _ => False) w w') : Left p b q c ⟨l, ⟨a, s, t⟩, 0, got, o⟩ w w' :=
  ⟨by simpa using h.kept hk (by simp) (by simp), hk.at hq (by simp), hk.mono (fun _ _ e => e.elim)⟩

theorem step_any (p b q a : Nat) (l : Lk) (c s t : Int) (d : Nat) (ha : a = 1 ∨ a = 3) (hl : l.low d) (hd : d ≤ 1000000) (hc : 0 ≤ c ∧ c ≤ 1000000) (hs : 0 ≤ s ∧ s ≤ 3) (hp : q ≠ p) (hb : q ≠ b) (w : World) (h : MemIn p b l.ws c w) (hq : TryIn q a s t w) :
    Calls Try.prog 10 #[.pointer (some ⟨q, 0, none⟩), .pointer (some ⟨p, 0, none⟩)] w fun e w' => Gives (play false a l s t).o (.bool (play false a l s t).got) e ∧ Left p b q c (play false a l s t) w w' := by
  have hlen : l.ws.length = 6 := rfl
  rcases (show s = 0 ∨ s = 1 ∨ s = 2 ∨ s = 3 by omega) with rfl | rfl | rfl | rfl
  · have A := step_fresh p b q l.ws c a t (by omega) hc hp hb w h hq
    rw [Lk.ws_upN ha hl hd, Lk.ws_nx ha] at A
    rw [play_s0]
    exact A.mono fun e w' ⟨he, h1, h2, h3⟩ => ⟨.inl ⟨rfl, he⟩, h1, h2, h3.mono (fun k _ e => by omega)⟩
  · by_cases ht : (l.tn a : Int) = t
    · rw [play_s1 ht]
      exact (step_wins p b q l.ws c a t (by omega) (by omega) hc hp hb (by rw [Lk.ws_tn ha]; exact ht) w h hq).mono fun e w' ⟨he, h1, h2, h3⟩ => ⟨.inl ⟨rfl, he⟩, h1, h2, h3.mono (fun k _ e => by omega)⟩
    · rw [play_s1n ht]
      exact (step_waits p b q l.ws c a t (by omega) (by omega) hc hp (by rw [Lk.ws_tn ha]; exact ht) w h hq).mono fun e w' ⟨he, h1, h2, h3⟩ => ⟨.inl ⟨rfl, he⟩, h1, h2, h3.mono (fun k _ e => by omega)⟩
  · rw [play_s2]
    exact (step_holds p q a t w hq).mono fun e w' ⟨he, h1⟩ => ⟨.inl ⟨rfl, he⟩, left_same h hq h1⟩
  · rw [play_s3]
    exact (step_done p q a t w hq).mono fun e w' ⟨he, h1⟩ => ⟨.inr ⟨halts_ne _ _, he⟩, left_same h hq h1⟩

theorem leave_any (p b q a : Nat) (l : Lk) (c s t : Int) (d : Nat) (ha : a = 1 ∨ a = 3) (hl : l.low d) (hd : d ≤ 1000000) (hc : 0 ≤ c ∧ c ≤ 1000000) (hp : q ≠ p) (hb : q ≠ b) (w : World) (h : MemIn p b l.ws c w) (hq : TryIn q a s t w) :
    Calls Try.prog 11 #[.pointer (some ⟨q, 0, none⟩), .pointer (some ⟨p, 0, none⟩)] w fun e w' => (play true a l s t).o.ends e ∧ Left p b q c (play true a l s t) w w' := by
  have hlen : l.ws.length = 6 := rfl
  by_cases hs : s = 2
  · subst hs
    have A := leave_holds p b q l.ws c a t (by omega) (by omega) hc hp hb w h hq
    rw [Lk.ws_upT ha hl hd] at A
    rw [play_l2]
    exact A.mono fun e w' ⟨he, h1, h2, h3⟩ => ⟨he, h1, h2, h3.mono (fun k _ e => by omega)⟩
  · rw [play_lx hs]
    exact (leave_no p q a s t hs w hq).mono fun e w' ⟨he, h1⟩ => ⟨he, left_same h hq h1⟩

/-- A guard of what turns the blocks X alone. -/
theorem guard_kept (F : Nat) (cap : Array Value) (hF : Enters F) (o : Out) (X : Nat → Prop) (S : World → Prop) (w : World) (hX : ∀ k, X k → k < w.heap.size) (hS : ∀ w1 w2, S w1 → Kept X (inGuard w) w1 → Kept (fun k => k = w.heap.size ∨ k = w.heap.size + 1) w1 w2 → S w2)
    (h : Calls Try.prog F cap (inGuard w) fun e w' => o.ends e ∧ (S w' ∧ Kept X (inGuard w) w')) :
    Calls Try.prog 16 #[.func (.func F) #[] cap] w fun e w' => e = .returned (.tuple #[o.told, .bool o.stopped]) ∧ S w' ∧ Kept X w w' := by
  refine (guard_w _ o (fun w' => S w' ∧ Kept X (inGuard w) w') w ((run_w F cap hF o _ _ h).mono ?_)).mono ?_
  · rintro e w' ⟨he, hs, hk⟩
    exact ⟨he, ⟨hs, hk⟩, hk.at (inGuard0 w) (fun x => by have := hX _ x; omega), hk.at (inGuard1 w) (fun x => by have := hX _ x; omega)⟩
  · rintro e w' ⟨rfl, w1, ⟨hs, hk⟩, hk'⟩
    refine ⟨rfl, hS w1 w' hs hk hk', ?_⟩
    have K0 : Kept X w (inGuard w) := ((Kept.refl _ w).alloc _).alloc _
    exact (K0.trans hk (fun _ _ h => h)).trans hk' (fun k hk e => by omega)

theorem inGuard_kept (w : World) : Kept (fun _ => False) w (inGuard w) := ((Kept.refl _ w).alloc _).alloc _

/-- What the guarded function reads: the asks, which one, the tries, which one, the memory, what is told. -/
structure AskIn (lb ib vb jb mb gb p b q g len cap xb off r j n vc : Nat) (leave : Bool) (l : Lk) (c : Int) (a : Nat) (s t : Int) (got : Bool) (w : World) : Prop where
  lbox : w.heap[lb]? = some (.cells #[.slice (some ⟨xb, off, none⟩) len cap] 30 (0, 0))
  ibox : w.heap[ib]? = some (.cells #[.int .i64 r] 3 (0, 0))
  vbox : w.heap[vb]? = some (.cells #[.slice (some ⟨g, 0, none⟩) n vc] 32 (0, 0))
  jbox : w.heap[jb]? = some (.cells #[.int .i64 j] 3 (0, 0))
  mbox : w.heap[mb]? = some (.cells #[.pointer (some ⟨p, 0, none⟩)] 22 (0, 0))
  gbox : w.heap[gb]? = some (.cells #[.bool got] 4 (0, 0))
  ask : w.cell? ⟨xb, off + r * 2 + 1, none⟩ = some (.bool leave)
  row : w.cell? ⟨g, j, none⟩ = some (.pointer (some ⟨q, 0, none⟩))
  mem : MemIn p b l.ws c w
  try_ : TryIn q a s t w
  rl : r < len
  jn : j < n
  far : ∀ k, k = vb ∨ k = jb ∨ k = mb ∨ k = g ∨ k = gb → ¬ (k = p ∨ k = b ∨ k = q)
  own : ¬ gb = vb ∧ ¬ gb = jb ∧ ¬ gb = mb ∧ ¬ gb = g

/-- What the guarded function leaves. -/
def Gone (p b q gb : Nat) (c : Int) (r : Res) (w : World) : Prop :=
  MemIn p b r.l.ws (c + r.dc) w ∧ TryIn q r.x.a r.x.s r.x.t w ∧ w.heap[gb]? = some (.cells #[.bool r.got] 4 (0, 0))

/-- A call that is done, or dies of a stop. -/
theorem ends_dies {o : Out} {e : Ending} (h : o.ends e) (hn : o ≠ .done) : ∃ v older, o.says v ∧ e = .panicked ({ v := v, recovered := false } :: older) ∧ ∀ p ∈ older, p.goexit = false := by
  rcases ends_cases h with ⟨h1, _⟩ | ⟨_, g⟩
  · exact absurd h1 hn
  · exact g

theorem gives_dies {o : Out} {v : Value} {e : Ending} (h : Gives o v e) (hn : o ≠ .done) : o.ends e := by
  rcases h with ⟨h1, _⟩ | ⟨_, g⟩
  · exact absurd h1 hn
  · exact g

theorem gives_done {o : Out} {v : Value} {e : Ending} (h : Gives o v e) (hn : o = .done) : e = Ending.returned v := by
  rcases h with ⟨_, g⟩ | ⟨h1, _⟩
  · exact g
  · exact absurd hn h1

theorem got_leave (a : Nat) (l : Lk) (s t : Int) : (play true a l s t).got = false := by
  by_cases hs : s = 2
  · subst hs; rw [play_l2]
  · rw [play_lx hs]

theorem got_stops (a : Nat) (l : Lk) (s t : Int) (hs : 0 ≤ s ∧ s ≤ 3) (h : (play false a l s t).o ≠ .done) : (play false a l s t).got = false := by
  rcases (show s = 0 ∨ s = 1 ∨ s = 2 ∨ s = 3 by omega) with rfl | rfl | rfl | rfl
  · rw [play_s0] at h; exact absurd rfl h
  · by_cases ht : (l.tn a : Int) = t
    · rw [play_s1 ht] at h; exact absurd rfl h
    · rw [play_s1n ht] at h; exact absurd rfl h
  · rw [play_s2] at h; exact absurd rfl h
  · rw [play_s3]

set_option maxHeartbeats 8000000 in
theorem ask_leave (lb ib vb jb mb gb p b q g len cap xb off r j n vc : Nat) (l : Lk) (c : Int) (a : Nat) (s t : Int) (d : Nat) (ha : a = 1 ∨ a = 3) (hl : l.low d) (hd : d ≤ 1000000) (hc : 0 ≤ c ∧ c ≤ 1000000) (hp : q ≠ p) (hb : q ≠ b) (w : World) (h : AskIn lb ib vb jb mb gb p b q g len cap xb off r j n vc true l c a s t false w) :
    Calls Try.prog 17 #[.pointer (some ⟨lb, 0, none⟩), .pointer (some ⟨ib, 0, none⟩), .pointer (some ⟨vb, 0, none⟩), .pointer (some ⟨jb, 0, none⟩), .pointer (some ⟨mb, 0, none⟩), .pointer (some ⟨gb, 0, none⟩)] w fun e w' =>
      (play true a l s t).o.ends e ∧ (Gone p b q gb c (play true a l s t) w' ∧ Kept (fun k => k = p ∨ k = b ∨ k = q ∨ k = gb) w w') := by
  have c0 := cell_at h.lbox (i := 0) rfl
  have c1 := cell_at h.ibox (i := 0) rfl
  have c2 := cell_at h.vbox (i := 0) rfl
  have c3 := cell_at h.jbox (i := 0) rfl
  have c4 := cell_at h.mbox (i := 0) rfl
  have c6 := h.ask
  have c7 := h.row
  have t1 : (r : Int) < (len : Int) := by have := h.rl; omega
  have t2 : (j : Int) < (n : Int) := by have := h.jn; omega
  have A := leave_any p b q a l c s t d ha hl hd hc hp hb w.drew h.mem.drew h.try_
  have HG : Hid _ := got_leave a l s t
  have HH : Hid _ := h
  clear h
  generalize hz : play true a l s t = z at *
  clear hz
  have fin : ∀ w', Left p b q c z w.drew w' → Gone p b q gb c z w' ∧ Kept (fun k => k = p ∨ k = b ∨ k = q ∨ k = gb) w w' := by
    intro w' ⟨h1, h2, h3⟩
    have h3' : Kept (fun k => k = p ∨ k = b ∨ k = q) w w' := (Kept.refl _ w).drew.trans h3 (fun _ _ e => e)
    refine ⟨⟨h1, h2, ?_⟩, h3'.mono (fun k _ e => by omega)⟩
    rw [HG.out]
    exact h3'.at HH.out.gbox (HH.out.far _ (by omega))
  have HF : Hid _ := fin
  clear fin
  by_cases ho : z.o = .done
  · have A2 := A.mono (fun (e : Ending) w' ⟨he, hL⟩ => (⟨by rw [ho] at he; exact he, hL⟩ : e = Ending.returned (.tuple #[]) ∧ Left p b q c z w.drew w'))
    clear A
    go_enter Try.func17, Try.ntmps17
    go_wp2_with fail
    go_region_held3 (fun w' => w'.cell? ⟨vb, 0, none⟩ = some (.slice (some ⟨g, 0, none⟩) n vc) ∧ w'.cell? ⟨jb, 0, none⟩ = some (.int .i64 j) ∧ w'.cell? ⟨mb, 0, none⟩ = some (.pointer (some ⟨p, 0, none⟩)) ∧ w'.cell? ⟨g, j, none⟩ = some (.pointer (some ⟨q, 0, none⟩))) (simp [*])
      (first | (go_at_call 11; refine A2.mono ?_; rintro e w1 ⟨rfl, hL⟩; have e2 := hL.2.2.cell c2 (HH.out.far vb (by omega)); have e3 := hL.2.2.cell c3 (HH.out.far jb (by omega)); have e4 := hL.2.2.cell c4 (HH.out.far mb (by omega)); have e7 := hL.2.2.cell c7 (HH.out.far g (by omega)); have hG := hL.2.2.at HH.out.gbox (HH.out.far gb (by omega)); have e5 := cell_at hG (i := 0) rfl; have e6 := free_at hG 0))
    go_wp2
    go_end0
    rw [ho]
    exact ⟨rfl, HF.out _ hL⟩
  · have A2 := A.mono (fun (e : Ending) w' ⟨he, hL⟩ => (⟨ends_dies he ho, hL⟩ : (∃ v older, z.o.says v ∧ e = Ending.panicked ({ v := v, recovered := false } :: older) ∧ ∀ p ∈ older, p.goexit = false) ∧ Left p b q c z w.drew w'))
    clear A ha hl hd hc hp hb ho
    go_enter Try.func17, Try.ntmps17
    go_wp2_with fail
    clear c0 c1 c6 t1
    go_region_dies
    all_goals
      refine A2.mono ?_
      rintro e w1 ⟨⟨v, older, hv, rfl, hold⟩, hL⟩
      exact ⟨rfl, ends_stop hv hold, HF.out _ hL⟩

set_option maxHeartbeats 8000000 in
theorem ask_step (lb ib vb jb mb gb p b q g len cap xb off r j n vc : Nat) (l : Lk) (c : Int) (a : Nat) (s t : Int) (d : Nat) (ha : a = 1 ∨ a = 3) (hl : l.low d) (hd : d ≤ 1000000) (hc : 0 ≤ c ∧ c ≤ 1000000) (hs : 0 ≤ s ∧ s ≤ 3) (hp : q ≠ p) (hb : q ≠ b) (w : World) (h : AskIn lb ib vb jb mb gb p b q g len cap xb off r j n vc false l c a s t false w) :
    Calls Try.prog 17 #[.pointer (some ⟨lb, 0, none⟩), .pointer (some ⟨ib, 0, none⟩), .pointer (some ⟨vb, 0, none⟩), .pointer (some ⟨jb, 0, none⟩), .pointer (some ⟨mb, 0, none⟩), .pointer (some ⟨gb, 0, none⟩)] w fun e w' =>
      (play false a l s t).o.ends e ∧ (Gone p b q gb c (play false a l s t) w' ∧ Kept (fun k => k = p ∨ k = b ∨ k = q ∨ k = gb) w w') := by
  have c0 := cell_at h.lbox (i := 0) rfl
  have c1 := cell_at h.ibox (i := 0) rfl
  have c2 := cell_at h.vbox (i := 0) rfl
  have c3 := cell_at h.jbox (i := 0) rfl
  have c4 := cell_at h.mbox (i := 0) rfl
  have c6 := h.ask
  have c7 := h.row
  have t1 : (r : Int) < (len : Int) := by have := h.rl; omega
  have t2 : (j : Int) < (n : Int) := by have := h.jn; omega
  have A := step_any p b q a l c s t d ha hl hd hc hs hp hb w.drew h.mem.drew h.try_
  have HG : Hid ((play false a l s t).o ≠ .done → (play false a l s t).got = false) := got_stops a l s t hs
  have HH : Hid _ := h
  clear h
  generalize hz : play false a l s t = z at *
  clear hz
  by_cases ho : z.o = .done
  · have A2 := A.mono (fun (e : Ending) w' ⟨he, hL⟩ => (⟨gives_done he ho, hL⟩ : e = Ending.returned (.bool z.got) ∧ Left p b q c z w.drew w'))
    clear A
    obtain ⟨o1, o2, o3, o4⟩ := HH.out.own
    have o1' : ¬ vb = gb := fun e => o1 e.symm
    have o2' : ¬ jb = gb := fun e => o2 e.symm
    have o3' : ¬ mb = gb := fun e => o3 e.symm
    have o4' : ¬ g = gb := fun e => o4 e.symm
    go_enter Try.func17, Try.ntmps17
    go_wp2_with fail
    go_region_held3 (fun w' => w'.cell? ⟨vb, 0, none⟩ = some (.slice (some ⟨g, 0, none⟩) n vc) ∧ w'.cell? ⟨jb, 0, none⟩ = some (.int .i64 j) ∧ w'.cell? ⟨mb, 0, none⟩ = some (.pointer (some ⟨p, 0, none⟩)) ∧ w'.cell? ⟨g, j, none⟩ = some (.pointer (some ⟨q, 0, none⟩))) (go_keep)
      (first | (go_at_call 10; refine A2.mono ?_; rintro e w1 ⟨rfl, hL⟩; have e2 := hL.2.2.cell c2 (HH.out.far vb (by omega)); have e3 := hL.2.2.cell c3 (HH.out.far jb (by omega)); have e4 := hL.2.2.cell c4 (HH.out.far mb (by omega)); have e7 := hL.2.2.cell c7 (HH.out.far g (by omega)); have hG := hL.2.2.at HH.out.gbox (HH.out.far gb (by omega)); have e5 := cell_at hG (i := 0) rfl; have e6 := free_at hG 0))
    go_wp2
    go_end0
    rw [ho]
    obtain ⟨h1, h2, h3⟩ := hL
    have h3' : Kept (fun k => k = p ∨ k = b ∨ k = q) w w1 := (Kept.refl _ w).drew.trans h3 (fun _ _ e => e)
    have n1 := HH.out.far gb (by omega)
    have kk : Kept (fun k => k = gb) w1 (w1.setCell ⟨gb, 0, none⟩ (.bool z.got)) := Kept.setCell (X := fun k => k = gb) (Kept.refl _ _) (fun _ => rfl) _
    exact ⟨rfl, ⟨h1.kept kk (by omega) (by omega), kk.at h2 (by omega), set_at hG 0 _⟩, (h3'.mono (fun k _ e => by omega)).trans kk (fun k _ e => by omega)⟩
  · have A2 := A.mono (fun (e : Ending) w' ⟨he, hL⟩ => (⟨ends_dies (gives_dies he ho) ho, hL⟩ : (∃ v older, z.o.says v ∧ e = Ending.panicked ({ v := v, recovered := false } :: older) ∧ ∀ p ∈ older, p.goexit = false) ∧ Left p b q c z w.drew w'))
    have fin : ∀ w', Left p b q c z w.drew w' → Gone p b q gb c z w' ∧ Kept (fun k => k = p ∨ k = b ∨ k = q ∨ k = gb) w w' := by
      intro w' ⟨h1, h2, h3⟩
      have h3' : Kept (fun k => k = p ∨ k = b ∨ k = q) w w' := (Kept.refl _ w).drew.trans h3 (fun _ _ e => e)
      refine ⟨⟨h1, h2, ?_⟩, h3'.mono (fun k _ e => by omega)⟩
      rw [HG.out ho]
      exact h3'.at HH.out.gbox (HH.out.far _ (by omega))
    have HF : Hid _ := fin
    clear fin
    clear A ha hl hd hc hp hb ho
    go_enter Try.func17, Try.ntmps17
    go_wp2_with fail
    clear c0 c1 c6 t1
    go_region_dies
    all_goals
      refine A2.mono ?_
      rintro e w1 ⟨⟨v, older, hv, rfl, hold⟩, hL⟩
      exact ⟨rfl, ends_stop hv hold, HF.out _ hL⟩
end Go.Proofs.Ytlfcbijgncpieaa
