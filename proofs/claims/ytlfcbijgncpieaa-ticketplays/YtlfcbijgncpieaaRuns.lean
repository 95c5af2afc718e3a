/- One lock in a memory of two words, and the chapter's runs; no conditions. -/
import Derived.Test.YtlfcbijgncpieaaTries
namespace Go.Proofs.Ytlfcbijgncpieaa
open Go.RowKit

/-- A lock at 0 in a memory of two words: the next ticket, whose turn it is, how many accesses there were. -/
abbrev LockIn (p b n t : Nat) (c : Int) (w : World) : Prop := MemIn p b [(n : Int), (t : Int)] c w

theorem lock_next (n t : Nat) (hn : n ≤ 1000000) : [(n : Int), (t : Int)].set 0 (wrap64 (wd [(n : Int), (t : Int)] 0 + 1)) = [((n + 1 : Nat) : Int), (t : Int)] := by
  have : wrap64 ((n : Int) + 1) = ((n + 1 : Nat) : Int) := by unfold wrap64; omega
  simp only [wd, List.getD_cons_zero, this, List.set_cons_zero]

theorem lock_turn (n t : Nat) (hn : t ≤ 1000000) : [(n : Int), (t : Int)].set (0 + 1) (wrap64 (wd [(n : Int), (t : Int)] (0 + 1) + 1)) = [(n : Int), ((t + 1 : Nat) : Int)] := by
  have : wrap64 ((t : Int) + 1) = ((t + 1 : Nat) : Int) := by unfold wrap64; omega
  simp only [wd, List.getD_cons_zero, List.getD_cons_succ, this, List.set_cons_zero, List.set_cons_succ]

theorem lock_fresh (p b q n t : Nat) (c x : Int) (hn : n ≤ 1000000) (hc : 0 ≤ c ∧ c ≤ 1000000) (hp : q ≠ p) (hb : q ≠ b) (w : World) (h : LockIn p b n t c w) (hq : TryIn q 0 0 x w) :
    Calls Try.prog 10 #[.pointer (some ⟨q, 0, none⟩), .pointer (some ⟨p, 0, none⟩)] w fun e w' => e = .returned (.bool false) ∧ LockIn p b (n + 1) t (c + 1) w' ∧ TryIn q 0 1 n w' ∧ Kept (fun k => k = p ∨ k = b ∨ k = q) w w' := by
  have A := step_fresh p b q _ c 0 x (by simp) hc hp hb w h hq
  rw [lock_next n t hn] at A
  exact A

theorem lock_wins (p b q n t : Nat) (c : Int) (hc : 0 ≤ c ∧ c ≤ 1000000) (hp : q ≠ p) (hb : q ≠ b) (w : World) (h : LockIn p b n t c w) (hq : TryIn q 0 1 t w) :
    Calls Try.prog 10 #[.pointer (some ⟨q, 0, none⟩), .pointer (some ⟨p, 0, none⟩)] w fun e w' => e = .returned (.bool true) ∧ LockIn p b n t (c + 1) w' ∧ TryIn q 0 2 t w' ∧ Kept (fun k => k = p ∨ k = b ∨ k = q) w w' :=
  (step_wins p b q _ c 0 t (by simp) (by omega) hc hp hb rfl w h hq).mono fun _ _ ⟨a, b, c, d⟩ => ⟨a, b, c, d.mono (fun k _ h => by omega)⟩

theorem lock_waits (p b q n t x : Nat) (c : Int) (hx : t ≠ x) (hc : 0 ≤ c ∧ c ≤ 1000000) (hp : q ≠ p) (w : World) (h : LockIn p b n t c w) (hq : TryIn q 0 1 x w) :
    Calls Try.prog 10 #[.pointer (some ⟨q, 0, none⟩), .pointer (some ⟨p, 0, none⟩)] w fun e w' => e = .returned (.bool false) ∧ LockIn p b n t (c + 1) w' ∧ TryIn q 0 1 x w' ∧ Kept (fun k => k = p ∨ k = b ∨ k = q) w w' :=
  (step_waits p b q _ c 0 x (by simp) (by omega) hc hp (by show ¬ (t : Int) = (x : Int); omega) w h hq).mono fun _ _ ⟨a, b, c, d⟩ => ⟨a, b, c, d.mono (fun k _ h => by omega)⟩

theorem lock_leave (p b q n t : Nat) (c x : Int) (hn : t ≤ 1000000) (hc : 0 ≤ c ∧ c ≤ 1000000) (hp : q ≠ p) (hb : q ≠ b) (w : World) (h : LockIn p b n t c w) (hq : TryIn q 0 2 x w) :
    Calls Try.prog 11 #[.pointer (some ⟨q, 0, none⟩), .pointer (some ⟨p, 0, none⟩)] w fun e w' => e = .returned (.tuple #[]) ∧ LockIn p b n (t + 1) (c + 1) w' ∧ TryIn q 0 3 x w' ∧ Kept (fun k => k = p ∨ k = b ∨ k = q) w w' := by
  have A := leave_holds p b q _ c 0 x (by simp) (by omega) hc hp hb w h hq
  rw [lock_turn n t hn] at A
  exact A

theorem try_made (a : Int) (n : Nat) (w : World) (hn : w.heap.size = n) :
    Calls Try.prog 9 #[.int .i64 a] w fun e w' => e = .returned (.pointer (some ⟨n, 0, none⟩)) ∧ TryIn n a 0 (-1) w' ∧ Kept (fun _ => False) w w' ∧ w'.heap.size = n + 1 :=
  (try_new a w).mono fun e w' ⟨he, hw⟩ => by
    subst hw
    exact ⟨hn ▸ he, alloc_at' _ hn, (Kept.refl _ _).alloc _, by simp [hn]⟩

/-- A memory, a lock in it, two tries. -/
structure Two (B n t : Nat) (c sx tx sy ty : Int) (w0 w : World) : Prop where
  mem : LockIn (B + 1) B n t c w
  x : TryIn (B + 2) 0 sx tx w
  y : TryIn (B + 2 + 1) 0 sy ty w
  kept : Kept (fun _ => False) w0 w
  base : w0.heap.size = B

theorem Two.stepX {B n t n' t' : Nat} {c c' sx tx sy ty sx' tx' : Int} {w0 w w' : World} (h : Two B n t c sx tx sy ty w0 w) (hm : LockIn (B + 1) B n' t' c' w') (hx : TryIn (B + 2) 0 sx' tx' w') (hk : Kept (fun k => k = B + 1 ∨ k = B ∨ k = B + 2) w w') : Two B n' t' c' sx' tx' sy ty w0 w' :=
  ⟨hm, hx, hk.at h.y (by omega), h.kept.trans hk (fun k hk' e => by have := h.base; omega), h.base⟩

theorem Two.stepY {B n t n' t' : Nat} {c c' sx tx sy ty sy' ty' : Int} {w0 w w' : World} (h : Two B n t c sx tx sy ty w0 w) (hm : LockIn (B + 1) B n' t' c' w') (hy : TryIn (B + 2 + 1) 0 sy' ty' w') (hk : Kept (fun k => k = B + 1 ∨ k = B ∨ k = B + 2 + 1) w w') : Two B n' t' c' sx tx sy' ty' w0 w' :=
  ⟨hm, hk.at h.x (by omega), hy, h.kept.trans hk (fun k hk' e => by have := h.base; omega), h.base⟩

set_option maxHeartbeats 800000 in
theorem runs_w (w : World) : Calls Try.prog 3 #[] w fun e w' => e = .returned (.bool true) ∧ Kept (fun _ => False) w w' := by
  obtain ⟨B, hB⟩ : ∃ B : Nat, w.heap.size = B := ⟨_, rfl⟩
  have N := new_ok 2 (by omega) w
  rw [show ((2 : Nat) : Int) = 2 from rfl, hB] at N
  go_enter Try.func3, Try.ntmps3
  go_wp2_with fail
  refine N.mono ?_
  rintro e w1 ⟨rfl, hM, hk, hs⟩
  clear N
  go_wp2_with fail
  refine (try_made 0 (B + 2) w1 hs).mono ?_
  rintro e w2 ⟨rfl, hx2, hk2, hs2⟩
  go_wp2_with fail
  refine (try_made 0 (B + 2 + 1) w2 hs2).mono ?_
  rintro e w3 ⟨rfl, hy3, hk3, hs3⟩
  have T : Two B 0 0 0 0 (-1) 0 (-1) w w3 :=
    ⟨(hM.kept hk2 (by simp) (by simp)).kept hk3 (by simp) (by simp), hk3.at hx2 (by simp), hy3, (hk.trans hk2 (fun _ _ h => h)).trans hk3 (fun _ _ h => h), hB⟩
  clear hM hk hs hk2 hs2 hx2 hy3 hk3 hs3 hB
  have A := lock_fresh (B + 1) B (B + 2) 0 0 0 (-1) (by omega) (by omega) (by omega) (by omega) _ T.mem T.x
  go_wp2_with fail
  refine A.mono ?_
  rintro e w4 ⟨rfl, hm, hx, hk⟩
  replace T := T.stepX hm hx hk
  clear A hm hx hk
  have A := lock_fresh (B + 1) B (B + 2 + 1) _ _ _ (-1) (by omega) (by omega) (by omega) (by omega) _ T.mem T.y
  go_wp2_with fail
  refine A.mono ?_
  rintro e w5 ⟨rfl, hm, hx, hk⟩
  replace T := T.stepY hm hx hk
  clear A hm hx hk
  have A := lock_waits (B + 1) B (B + 2 + 1) _ _ 1 _ (by omega) (by omega) (by omega) _ T.mem T.y
  go_wp2_with fail
  refine A.mono ?_
  rintro e w6 ⟨rfl, hm, hx, hk⟩
  replace T := T.stepY hm hx hk
  clear A hm hx hk
  have A := lock_wins (B + 1) B (B + 2) _ 0 _ (by omega) (by omega) (by omega) _ T.mem T.x
  go_wp2_with fail
  refine A.mono ?_
  rintro e w7 ⟨rfl, hm, hx, hk⟩
  replace T := T.stepX hm hx hk
  clear A hm hx hk
  have A := lock_leave (B + 1) B (B + 2) _ 0 _ 0 (by omega) (by omega) (by omega) (by omega) _ T.mem T.x
  go_wp2_with fail
  refine A.mono ?_
  rintro e w8 ⟨rfl, hm, hx, hk⟩
  replace T := T.stepX hm hx hk
  clear A hm hx hk
  have A := lock_wins (B + 1) B (B + 2 + 1) _ 1 _ (by omega) (by omega) (by omega) _ T.mem T.y
  go_wp2_with fail
  refine A.mono ?_
  rintro e w9 ⟨rfl, hm, hx, hk⟩
  replace T := T.stepY hm hx hk
  clear A hm hx hk
  go_wp2_with fail
  refine (at_w _ _ _ _ _ T.y).mono ?_
  rintro e w10 ⟨rfl, rfl⟩
  go_wp2_with fail
  refine (at_w _ _ _ _ _ T.x).mono ?_
  rintro e w10 ⟨rfl, rfl⟩
  go_wp2_with fail
  refine (ticket_w _ _ _ _ _ T.y).mono ?_
  rintro e w10 ⟨rfl, rfl⟩
  go_wp2_with fail
  refine (count_w _ _ _ _ _ T.mem).mono ?_
  rintro e w10 ⟨rfl, rfl⟩
  go_wp2
  go_ret
  exact ⟨rfl, T.kept⟩
end Go.Proofs.Ytlfcbijgncpieaa
