/- One ask of a memory, behind a guard; no conditions. -/
import Derived.Test.YtkejnoifcfeliaaRuns
import Derived.Test.YtkejnoifcfeliaaRef
namespace Go.Proofs.Ytkejnoifcfeliaa
open Go.RowKit

/-- What one ask comes to: the words behind it, the answer, how it ends, how many accesses it is, why it stopped. -/
structure Res where
  ws : List Int
  ans : Int
  o : Out
  dc : Int
  why : Int

def play (kind a v : Int) (ws : List Int) : Res :=
  if kind = 1 ∨ kind = 2 ∨ kind = 3 ∨ kind = 4 then
    if 0 ≤ a ∧ a < (ws.length : Int) then
      ⟨if kind = 1 then ws else if kind = 3 then ws.set a.toNat (wrap64 (wd ws a.toNat + v)) else ws.set a.toNat v, if kind = 2 then 0 else wd ws a.toNat, .done, 1, 0⟩
    else ⟨ws, 0, .halts 2 a, 0, 2⟩
  else ⟨ws, 0, .done, 0, 0⟩

theorem play_out {kind a v : Int} {ws : List Int} (hk : kind = 1 ∨ kind = 2 ∨ kind = 3 ∨ kind = 4) (ha : a < 0 ∨ (ws.length : Int) ≤ a) : play kind a v ws = ⟨ws, 0, .halts 2 a, 0, 2⟩ := by
  unfold play; rw [if_pos hk, if_neg (by omega)]

theorem play_none {kind a v : Int} {ws : List Int} (hk : ¬ (kind = 1 ∨ kind = 2 ∨ kind = 3 ∨ kind = 4)) : play kind a v ws = ⟨ws, 0, .done, 0, 0⟩ := by
  unfold play; rw [if_neg hk]

theorem play1 {a : Nat} {v : Int} {ws : List Int} (ha : a < ws.length) : play 1 a v ws = ⟨ws, wd ws a, .done, 1, 0⟩ := by
  unfold play; rw [if_pos (by omega), if_pos (by omega)]; simp
theorem play2 {a : Nat} {v : Int} {ws : List Int} (ha : a < ws.length) : play 2 a v ws = ⟨ws.set a v, 0, .done, 1, 0⟩ := by
  unfold play; rw [if_pos (by omega), if_pos (by omega)]; simp
theorem play3 {a : Nat} {v : Int} {ws : List Int} (ha : a < ws.length) : play 3 a v ws = ⟨ws.set a (wrap64 (wd ws a + v)), wd ws a, .done, 1, 0⟩ := by
  unfold play; rw [if_pos (by omega), if_pos (by omega)]; simp
theorem play4 {a : Nat} {v : Int} {ws : List Int} (ha : a < ws.length) : play 4 a v ws = ⟨ws.set a v, wd ws a, .done, 1, 0⟩ := by
  unfold play; rw [if_pos (by omega), if_pos (by omega)]; simp

theorem play_length (kind a v : Int) (ws : List Int) : (play kind a v ws).ws.length = ws.length := by
  unfold play
  split
  · split
    · simp only
      split
      · rfl
      · split <;> simp
    · rfl
  · rfl

theorem play_dc (kind a v : Int) (ws : List Int) : 0 ≤ (play kind a v ws).dc ∧ (play kind a v ws).dc ≤ 1 := by
  unfold play
  split
  · split <;> simp
  · simp

/-- What is known around the guarded function of one ask. -/
structure AskIn (qb mb gb p b : Nat) (kind a v g : Int) (ws : List Int) (c : Int) (w : World) : Prop where
  q : w.heap[qb]? = some (.cells #[.int .i64 kind, .int .i64 a, .int .i64 v] 39 (0, 0))
  box : w.heap[mb]? = some (.cells #[.pointer (some ⟨p, 0, none⟩)] 22 (0, 0))
  got : w.heap[gb]? = some (.cells #[.int .i64 g] 3 (0, 0))
  mem : MemIn p b ws c w
  gp : gb ≠ p
  gw : gb ≠ b

theorem AskIn.kept {qb mb gb p b : Nat} {kind a v g : Int} {ws : List Int} {c : Int} {w w' : World} {X : Nat → Prop} (h : AskIn qb mb gb p b kind a v g ws c w) (hk : Kept X w w') (h0 : ¬ X qb) (h1 : ¬ X mb) (h2 : ¬ X gb) (h3 : ¬ X p) (h4 : ¬ X b) : AskIn qb mb gb p b kind a v g ws c w' :=
  ⟨hk.at h.q h0, hk.at h.box h1, hk.at h.got h2, h.mem.kept hk h3 h4, h.gp, h.gw⟩

def AskEnd (gb p b : Nat) (kind a v : Int) (ws : List Int) (c : Int) (w : World) (e : Ending) (w' : World) : Prop :=
  (play kind a v ws).o.ends e ∧ (MemIn p b (play kind a v ws).ws (c + (play kind a v ws).dc) w' ∧ w'.heap[gb]? = some (.cells #[.int .i64 (play kind a v ws).ans] 3 (0, 0)) ∧ Kept (fun k => k = p ∨ k = b ∨ k = gb) w w')

theorem ask1_in (qb mb gb p b a : Nat) (v : Int) (ws : List Int) (c : Int) (ha : a < ws.length) (hc : 0 ≤ c ∧ c ≤ 1000000) (w : World) (h : AskIn qb mb gb p b 1 a v 0 ws c w) :
    Calls Try.prog 16 #[.pointer (some ⟨qb, 0, none⟩), .pointer (some ⟨mb, 0, none⟩), .pointer (some ⟨gb, 0, none⟩)] w (AskEnd gb p b 1 a v ws c w) := by
  have A := load_ok p b ws c a ha hc w h.mem
  have q0 := cell_at h.q (i := 0) rfl
  have q1 := cell_at h.q (i := 1) rfl
  have q2 := cell_at h.q (i := 2) rfl
  have m0 := cell_at h.box (i := 0) rfl
  unfold AskEnd
  rw [play1 ha]
  go_enter Try.func16, Try.ntmps16
  go_wp2_with fail
  refine A.mono ?_
  rintro e w1 ⟨rfl, hM, hk⟩
  have hg := hk.at h.got (by have := h.gp; have := h.gw; omega)
  have g0 := cell_at hg (i := 0) rfl
  have gf := free_at hg 0
  clear A q0 q1 q2 m0
  go_wp2
  go_end0
  have kk : Kept (fun k => k = gb) w1 (w1.setCell ⟨gb, 0, none⟩ (.int .i64 (wd ws a))) := kept_counted (X := fun k => k = gb) (Kept.refl _ _) rfl _ _
  refine ⟨rfl, hM.kept kk (Ne.symm h.gp) (Ne.symm h.gw), set_at hg 0 _, Kept.trans (hk.mono (Y := fun k => k = p ∨ k = b ∨ k = gb) (fun _ _ e => by omega)) kk (fun _ _ e => by omega)⟩

theorem ask1_out (qb mb gb p b : Nat) (a v : Int) (ws : List Int) (c : Int) (ha : a < 0 ∨ (ws.length : Int) ≤ a) (w : World) (h : AskIn qb mb gb p b 1 a v 0 ws c w) :
    Calls Try.prog 16 #[.pointer (some ⟨qb, 0, none⟩), .pointer (some ⟨mb, 0, none⟩), .pointer (some ⟨gb, 0, none⟩)] w (AskEnd gb p b 1 a v ws c w) := by
  have A := load_no p b ws c a ha w h.mem
  have q0 := cell_at h.q (i := 0) rfl
  have q1 := cell_at h.q (i := 1) rfl
  have q2 := cell_at h.q (i := 2) rfl
  have m0 := cell_at h.box (i := 0) rfl
  unfold AskEnd
  rw [play_out (by omega) ha]
  go_enter Try.func16, Try.ntmps16
  go_wp2_with fail
  refine A.mono ?_
  rintro e w1 ⟨he, rfl⟩
  rcases ends_cases he with ⟨h', rfl⟩ | ⟨hst, v', older, hv, rfl, hold⟩
  · cases h'
  · exact ⟨rfl, ends_stop hv hold, by simpa using h.mem, h.got, Kept.refl _ _⟩

theorem ask2_in (qb mb gb p b a : Nat) (v : Int) (ws : List Int) (c : Int) (ha : a < ws.length) (hc : 0 ≤ c ∧ c ≤ 1000000) (w : World) (h : AskIn qb mb gb p b 2 a v 0 ws c w) :
    Calls Try.prog 16 #[.pointer (some ⟨qb, 0, none⟩), .pointer (some ⟨mb, 0, none⟩), .pointer (some ⟨gb, 0, none⟩)] w (AskEnd gb p b 2 a v ws c w) := by
  have A := store_ok p b ws c a v ha hc w h.mem
  have q0 := cell_at h.q (i := 0) rfl
  have q1 := cell_at h.q (i := 1) rfl
  have q2 := cell_at h.q (i := 2) rfl
  have m0 := cell_at h.box (i := 0) rfl
  unfold AskEnd
  rw [play2 ha]
  go_enter Try.func16, Try.ntmps16
  go_wp2_with fail
  refine A.mono ?_
  rintro e w1 ⟨rfl, hM, hk⟩
  have hg := hk.at h.got (by have := h.gp; have := h.gw; omega)
  have g0 := cell_at hg (i := 0) rfl
  have gf := free_at hg 0
  clear A q0 q1 q2 m0
  go_wp2
  go_end0
  exact ⟨rfl, hM, hg, hk.mono (fun _ _ e => by omega)⟩

theorem ask2_out (qb mb gb p b : Nat) (a v : Int) (ws : List Int) (c : Int) (ha : a < 0 ∨ (ws.length : Int) ≤ a) (w : World) (h : AskIn qb mb gb p b 2 a v 0 ws c w) :
    Calls Try.prog 16 #[.pointer (some ⟨qb, 0, none⟩), .pointer (some ⟨mb, 0, none⟩), .pointer (some ⟨gb, 0, none⟩)] w (AskEnd gb p b 2 a v ws c w) := by
  have A := store_no p b ws c a v ha w h.mem
  have q0 := cell_at h.q (i := 0) rfl
  have q1 := cell_at h.q (i := 1) rfl
  have q2 := cell_at h.q (i := 2) rfl
  have m0 := cell_at h.box (i := 0) rfl
  unfold AskEnd
  rw [play_out (by omega) ha]
  go_enter Try.func16, Try.ntmps16
  go_wp2_with fail
  refine A.mono ?_
  rintro e w1 ⟨he, rfl⟩
  rcases ends_cases he with ⟨h', rfl⟩ | ⟨hst, v', older, hv, rfl, hold⟩
  · cases h'
  · exact ⟨rfl, ends_stop hv hold, by simpa using h.mem, h.got, Kept.refl _ _⟩

theorem ask3_in (qb mb gb p b a : Nat) (v : Int) (ws : List Int) (c : Int) (ha : a < ws.length) (hc : 0 ≤ c ∧ c ≤ 1000000) (w : World) (h : AskIn qb mb gb p b 3 a v 0 ws c w) :
    Calls Try.prog 16 #[.pointer (some ⟨qb, 0, none⟩), .pointer (some ⟨mb, 0, none⟩), .pointer (some ⟨gb, 0, none⟩)] w (AskEnd gb p b 3 a v ws c w) := by
  have A := add_ok p b ws c a v ha hc w h.mem
  have q0 := cell_at h.q (i := 0) rfl
  have q1 := cell_at h.q (i := 1) rfl
  have q2 := cell_at h.q (i := 2) rfl
  have m0 := cell_at h.box (i := 0) rfl
  unfold AskEnd
  rw [play3 ha]
  go_enter Try.func16, Try.ntmps16
  go_wp2_with fail
  refine A.mono ?_
  rintro e w1 ⟨rfl, hM, hk⟩
  have hg := hk.at h.got (by have := h.gp; have := h.gw; omega)
  have g0 := cell_at hg (i := 0) rfl
  have gf := free_at hg 0
  clear A q0 q1 q2 m0
  go_wp2
  go_end0
  have kk : Kept (fun k => k = gb) w1 (w1.setCell ⟨gb, 0, none⟩ (.int .i64 (wd ws a))) := kept_counted (X := fun k => k = gb) (Kept.refl _ _) rfl _ _
  refine ⟨rfl, hM.kept kk (Ne.symm h.gp) (Ne.symm h.gw), set_at hg 0 _, Kept.trans (hk.mono (Y := fun k => k = p ∨ k = b ∨ k = gb) (fun _ _ e => by omega)) kk (fun _ _ e => by omega)⟩

theorem ask3_out (qb mb gb p b : Nat) (a v : Int) (ws : List Int) (c : Int) (ha : a < 0 ∨ (ws.length : Int) ≤ a) (w : World) (h : AskIn qb mb gb p b 3 a v 0 ws c w) :
    Calls Try.prog 16 #[.pointer (some ⟨qb, 0, none⟩), .pointer (some ⟨mb, 0, none⟩), .pointer (some ⟨gb, 0, none⟩)] w (AskEnd gb p b 3 a v ws c w) := by
  have A := add_no p b ws c a v ha w h.mem
  have q0 := cell_at h.q (i := 0) rfl
  have q1 := cell_at h.q (i := 1) rfl
  have q2 := cell_at h.q (i := 2) rfl
  have m0 := cell_at h.box (i := 0) rfl
  unfold AskEnd
  rw [play_out (by omega) ha]
  go_enter Try.func16, Try.ntmps16
  go_wp2_with fail
  refine A.mono ?_
  rintro e w1 ⟨he, rfl⟩
  rcases ends_cases he with ⟨h', rfl⟩ | ⟨hst, v', older, hv, rfl, hold⟩
  · cases h'
  · exact ⟨rfl, ends_stop hv hold, by simpa using h.mem, h.got, Kept.refl _ _⟩

theorem ask4_in (qb mb gb p b a : Nat) (v : Int) (ws : List Int) (c : Int) (ha : a < ws.length) (hc : 0 ≤ c ∧ c ≤ 1000000) (w : World) (h : AskIn qb mb gb p b 4 a v 0 ws c w) :
    Calls Try.prog 16 #[.pointer (some ⟨qb, 0, none⟩), .pointer (some ⟨mb, 0, none⟩), .pointer (some ⟨gb, 0, none⟩)] w (AskEnd gb p b 4 a v ws c w) := by
  have A := swap_ok p b ws c a v ha hc w h.mem
  have q0 := cell_at h.q (i := 0) rfl
  have q1 := cell_at h.q (i := 1) rfl
  have q2 := cell_at h.q (i := 2) rfl
  have m0 := cell_at h.box (i := 0) rfl
  unfold AskEnd
  rw [play4 ha]
  go_enter Try.func16, Try.ntmps16
  go_wp2_with fail
  refine A.mono ?_
  rintro e w1 ⟨rfl, hM, hk⟩
  have hg := hk.at h.got (by have := h.gp; have := h.gw; omega)
  have g0 := cell_at hg (i := 0) rfl
  have gf := free_at hg 0
  clear A q0 q1 q2 m0
  go_wp2
  go_end0
  have kk : Kept (fun k => k = gb) w1 (w1.setCell ⟨gb, 0, none⟩ (.int .i64 (wd ws a))) := kept_counted (X := fun k => k = gb) (Kept.refl _ _) rfl _ _
  refine ⟨rfl, hM.kept kk (Ne.symm h.gp) (Ne.symm h.gw), set_at hg 0 _, Kept.trans (hk.mono (Y := fun k => k = p ∨ k = b ∨ k = gb) (fun _ _ e => by omega)) kk (fun _ _ e => by omega)⟩

theorem ask4_out (qb mb gb p b : Nat) (a v : Int) (ws : List Int) (c : Int) (ha : a < 0 ∨ (ws.length : Int) ≤ a) (w : World) (h : AskIn qb mb gb p b 4 a v 0 ws c w) :
    Calls Try.prog 16 #[.pointer (some ⟨qb, 0, none⟩), .pointer (some ⟨mb, 0, none⟩), .pointer (some ⟨gb, 0, none⟩)] w (AskEnd gb p b 4 a v ws c w) := by
  have A := swap_no p b ws c a v ha w h.mem
  have q0 := cell_at h.q (i := 0) rfl
  have q1 := cell_at h.q (i := 1) rfl
  have q2 := cell_at h.q (i := 2) rfl
  have m0 := cell_at h.box (i := 0) rfl
  unfold AskEnd
  rw [play_out (by omega) ha]
  go_enter Try.func16, Try.ntmps16
  go_wp2_with fail
  refine A.mono ?_
  rintro e w1 ⟨he, rfl⟩
  rcases ends_cases he with ⟨h', rfl⟩ | ⟨hst, v', older, hv, rfl, hold⟩
  · cases h'
  · exact ⟨rfl, ends_stop hv hold, by simpa using h.mem, h.got, Kept.refl _ _⟩

theorem ask_none (qb mb gb p b : Nat) (kind a v : Int) (hk : ¬ (kind = 1 ∨ kind = 2 ∨ kind = 3 ∨ kind = 4)) (ws : List Int) (c : Int) (w : World) (h : AskIn qb mb gb p b kind a v 0 ws c w) :
    Calls Try.prog 16 #[.pointer (some ⟨qb, 0, none⟩), .pointer (some ⟨mb, 0, none⟩), .pointer (some ⟨gb, 0, none⟩)] w (AskEnd gb p b kind a v ws c w) := by
  have q0 := cell_at h.q (i := 0) rfl
  have k1 : (kind == 1) = false := by simp; omega
  have k2 : (kind == 2) = false := by simp; omega
  have k3 : (kind == 3) = false := by simp; omega
  have k4 : (kind == 4) = false := by simp; omega
  unfold AskEnd
  rw [play_none hk]
  clear hk
  go_enter Try.func16, Try.ntmps16
  go_wp2
  go_end0
  exact ⟨rfl, by simpa using h.mem, h.got, Kept.refl _ _⟩

theorem ask_w (qb mb gb p b : Nat) (kind a v : Int) (ws : List Int) (c : Int) (hc : 0 ≤ c ∧ c ≤ 1000000) (w : World) (h : AskIn qb mb gb p b kind a v 0 ws c w) :
    Calls Try.prog 16 #[.pointer (some ⟨qb, 0, none⟩), .pointer (some ⟨mb, 0, none⟩), .pointer (some ⟨gb, 0, none⟩)] w (AskEnd gb p b kind a v ws c w) := by
  by_cases hk : kind = 1 ∨ kind = 2 ∨ kind = 3 ∨ kind = 4
  · by_cases ha : 0 ≤ a ∧ a < (ws.length : Int)
    · obtain ⟨n, rfl⟩ : ∃ n : Nat, a = n := ⟨a.toNat, by omega⟩
      rcases hk with rfl | rfl | rfl | rfl
      · exact ask1_in _ _ _ _ _ n v ws c (by omega) hc w h
      · exact ask2_in _ _ _ _ _ n v ws c (by omega) hc w h
      · exact ask3_in _ _ _ _ _ n v ws c (by omega) hc w h
      · exact ask4_in _ _ _ _ _ n v ws c (by omega) hc w h
    · rcases hk with rfl | rfl | rfl | rfl
      · exact ask1_out _ _ _ _ _ a v ws c (by omega) w h
      · exact ask2_out _ _ _ _ _ a v ws c (by omega) w h
      · exact ask3_out _ _ _ _ _ a v ws c (by omega) w h
      · exact ask4_out _ _ _ _ _ a v ws c (by omega) w h
  · exact ask_none _ _ _ _ _ kind a v hk ws c w h

/-- A guard of what turns the blocks X alone. -/
theorem guard_kept (F : Nat) (cap : Array Value) (hF : Enters F) (o : Out) (X : Nat → Prop) (S : World → Prop) (w : World) (hX : ∀ k, X k → k < w.heap.size) (hS : ∀ w1 w2, S w1 → Kept X (inGuard w) w1 → Kept (fun k => k = w.heap.size ∨ k = w.heap.size + 1) w1 w2 → S w2)
    (h : Calls Try.prog F cap (inGuard w) fun e w' => o.ends e ∧ (S w' ∧ Kept X (inGuard w) w')) :
    Calls Try.prog 12 #[.func (.func F) #[] cap] w fun e w' => e = .returned (.tuple #[o.told, .bool o.stopped]) ∧ S w' ∧ Kept X w w' := by
  refine (guard_w _ o (fun w' => S w' ∧ Kept X (inGuard w) w') w ((run_w F cap hF o _ _ h).mono ?_)).mono ?_
  · rintro e w' ⟨he, hs, hk⟩
    exact ⟨he, ⟨hs, hk⟩, hk.at (inGuard0 w) (fun x => by have := hX _ x; omega), hk.at (inGuard1 w) (fun x => by have := hX _ x; omega)⟩
  · rintro e w' ⟨rfl, w1, ⟨hs, hk⟩, hk'⟩
    refine ⟨rfl, hS w1 w' hs hk hk', ?_⟩
    have K0 : Kept X w (inGuard w) := ((Kept.refl _ w).alloc _).alloc _
    exact (K0.trans hk (fun _ _ h => h)).trans hk' (fun k hk e => by omega)

theorem ask_g (qb mb gb p b : Nat) (kind a v : Int) (ws : List Int) (c : Int) (hc : 0 ≤ c ∧ c ≤ 1000000) (w : World) (h : AskIn qb mb gb p b kind a v 0 ws c w) :
    Calls Try.prog 12 #[.func (.func 16) #[] #[.pointer (some ⟨qb, 0, none⟩), .pointer (some ⟨mb, 0, none⟩), .pointer (some ⟨gb, 0, none⟩)]] w fun e w' =>
      e = .returned (.tuple #[(play kind a v ws).o.told, .bool (play kind a v ws).o.stopped]) ∧ (MemIn p b (play kind a v ws).ws (c + (play kind a v ws).dc) w' ∧ w'.heap[gb]? = some (.cells #[.int .i64 (play kind a v ws).ans] 3 (0, 0))) ∧ Kept (fun k => k = p ∨ k = b ∨ k = gb) w w' := by
  have k0 : Kept (fun _ => False) w (inGuard w) := ((Kept.refl _ w).alloc _).alloc _
  have l1 := lt_at h.mem.mem
  have l2 := lt_at h.mem.row
  have l3 := lt_at h.got
  refine guard_kept 16 _ (fun _ _ => by kernel_rfl) _ (fun k => k = p ∨ k = b ∨ k = gb) (fun w' => MemIn p b (play kind a v ws).ws (c + (play kind a v ws).dc) w' ∧ w'.heap[gb]? = some (.cells #[.int .i64 (play kind a v ws).ans] 3 (0, 0))) w (fun k hk => by omega) ?_ ?_
  · rintro w1 w2 ⟨h1, h2⟩ _ hk
    exact ⟨h1.kept hk (by omega) (by omega), hk.at h2 (by omega)⟩
  · exact (ask_w qb mb gb p b kind a v ws c hc (inGuard w) (h.kept k0 (by simp) (by simp) (by simp) (by simp) (by simp))).mono fun e w' ⟨he, hm, hg, hk⟩ => ⟨he, ⟨hm, hg⟩, hk⟩

/-- The guarded function that makes the memory: of a size that may be. -/
theorem make_ok (nb mb n : Nat) (hn : n ≤ 4096) (w : World) (h0 : w.heap[nb]? = some (.cells #[.int .i64 n] 3 (0, 0))) (h1 : w.heap[mb]? = some (.cells #[.pointer none] 22 (0, 0))) :
    Calls Try.prog 15 #[.pointer (some ⟨nb, 0, none⟩), .pointer (some ⟨mb, 0, none⟩)] w fun e w' => Out.done.ends e ∧
      ((∃ p b, MemIn p b (List.replicate n 0) 0 w' ∧ w.heap.size ≤ p ∧ w.heap.size ≤ b ∧ w'.heap[mb]? = some (.cells #[.pointer (some ⟨p, 0, none⟩)] 22 (0, 0))) ∧ Kept (fun k => k = mb) w w') := by
  have A := new_ok n hn w
  have n0 := cell_at h0 (i := 0) rfl
  have lm := lt_at h1
  go_enter Try.func15, Try.ntmps15
  go_wp2_with fail
  refine A.mono ?_
  rintro e w1 ⟨rfl, hM, hk, hs⟩
  have hm := hk.at h1 (by simp)
  have m0 := cell_at hm (i := 0) rfl
  have mf := free_at hm 0
  clear A n0
  go_wp2
  go_end0
  have kk : Kept (fun k => k = mb) w1 (w1.setCell ⟨mb, 0, none⟩ (.pointer (some ⟨w.heap.size + 1, 0, none⟩))) := kept_counted (X := fun k => k = mb) (Kept.refl _ _) rfl _ _
  exact ⟨rfl, ⟨w.heap.size + 1, w.heap.size, hM.kept kk (by omega) (by omega), by omega, by omega, set_at hm 0 _⟩, Kept.trans (hk.mono (fun _ _ e => e.elim)) kk (fun _ _ e => e)⟩

theorem make_no (nb mb : Nat) (n : Int) (hn : n < 0 ∨ 4096 < n) (w : World) (h0 : w.heap[nb]? = some (.cells #[.int .i64 n] 3 (0, 0))) :
    Calls Try.prog 15 #[.pointer (some ⟨nb, 0, none⟩), .pointer (some ⟨mb, 0, none⟩)] w fun e w' => (Out.halts 2 n).ends e ∧ w' = w := by
  have A := new_no n hn w
  have n0 := cell_at h0 (i := 0) rfl
  go_enter Try.func15, Try.ntmps15
  go_wp2_with fail
  refine A.mono ?_
  rintro e w1 ⟨he, rfl⟩
  rcases ends_cases he with ⟨h', rfl⟩ | ⟨hst, v', older, hv, rfl, hold⟩
  · cases h'
  · exact ⟨rfl, ends_stop hv hold, rfl⟩

theorem make_g_ok (nb mb n : Nat) (hn : n ≤ 4096) (w : World) (h0 : w.heap[nb]? = some (.cells #[.int .i64 n] 3 (0, 0))) (h1 : w.heap[mb]? = some (.cells #[.pointer none] 22 (0, 0))) :
    Calls Try.prog 12 #[.func (.func 15) #[] #[.pointer (some ⟨nb, 0, none⟩), .pointer (some ⟨mb, 0, none⟩)]] w fun e w' => e = .returned (.tuple #[.agg #[.int .i64 0, .int .i64 0], .bool false]) ∧
      (∃ p b, MemIn p b (List.replicate n 0) 0 w' ∧ w.heap.size + 2 ≤ p ∧ w.heap.size + 2 ≤ b ∧ w'.heap[mb]? = some (.cells #[.pointer (some ⟨p, 0, none⟩)] 22 (0, 0))) ∧ Kept (fun k => k = mb) w w' := by
  have k0 : Kept (fun _ => False) w (inGuard w) := ((Kept.refl _ w).alloc _).alloc _
  have l1 := lt_at h1
  refine guard_kept 15 _ (fun _ _ => by kernel_rfl) .done (fun k => k = mb) (fun w' => ∃ p b, MemIn p b (List.replicate n 0) 0 w' ∧ w.heap.size + 2 ≤ p ∧ w.heap.size + 2 ≤ b ∧ w'.heap[mb]? = some (.cells #[.pointer (some ⟨p, 0, none⟩)] 22 (0, 0))) w (fun k hk => by omega) ?_ ?_
  · rintro w1 w2 ⟨p, b, h1, h2, h3, h4⟩ _ hk
    exact ⟨p, b, h1.kept hk (by omega) (by omega), h2, h3, hk.at h4 (by omega)⟩
  · have M := make_ok nb mb n hn (inGuard w) (k0.at h0 (by simp)) (k0.at h1 (by simp))
    rw [inGuard_size] at M
    exact M

theorem make_g_no (nb mb : Nat) (n : Int) (hn : n < 0 ∨ 4096 < n) (w : World) (h0 : w.heap[nb]? = some (.cells #[.int .i64 n] 3 (0, 0))) :
    Calls Try.prog 12 #[.func (.func 15) #[] #[.pointer (some ⟨nb, 0, none⟩), .pointer (some ⟨mb, 0, none⟩)]] w fun e w' => e = .returned (.tuple #[.agg #[.int .i64 2, .int .i64 n], .bool true]) ∧ Kept (fun _ => False) w w' := by
  have k0 : Kept (fun _ => False) w (inGuard w) := ((Kept.refl _ w).alloc _).alloc _
  exact guard_fn 15 _ (fun _ _ => by kernel_rfl) (.halts 2 n) w ((make_no nb mb n hn (inGuard w) (k0.at h0 (by simp))).mono fun _ _ ⟨he, hw⟩ => ⟨he, hw ▸ Kept.refl _ _⟩)

end Go.Proofs.Ytkejnoifcfeliaa
