
/- Two views beside their stores, as a statement holds them: each directory call's end; no conditions but lengths. -/
import Derived.Test.YtkpcillgoeidaaaSmall
import Derived.Test.YtkpcillgoeidaaaRDir2
namespace Go.Proofs.Ytkpcillgoeidaaa
open Go.RowKit
set_option maxRecDepth 100000

theorem dir_again (f : StF) (g : VwF) (d : Int) : dirE f (findT g d) d = dirE f g d ∧ isDirF f (findT g d) d = isDirF f g d := by unfold dirE isDirF; rw [find_find]; exact ⟨rfl, rfl⟩
theorem MapIn.offC {κ ν : Type} {enc : κ → Value} {encv : ν → Value} {f : κ → Option ν} {B : Nat} {w : World} (h : MapIn enc encv B f w) {k o : Nat} {v : Value} (hc : w.cell? ⟨k, o, none⟩ = some v) : k ≠ B := by
  obtain ⟨es, clock, hb, _⟩ := h
  intro e
  subst e
  simp [World.cell?, hb] at hc
theorem srcM {x : Value} {xs : List Bs} {w w' : World} {X : Nat → Prop} (h : Nm.SrcS x xs w) (hk : Kept X w w') (hX : ∀ k o v, w.cell? ⟨k, o, none⟩ = some v → ¬ X k) : Nm.SrcS x xs w' := by
  rcases h with ⟨b, o, c, rfl, hb, hc⟩ | h
  · exact .inl ⟨b, o, c, rfl, Nat.lt_of_lt_of_le hb hk.size, fun j u hu => hk.cell (hc j u hu) (hX b _ _ (hc j u hu))⟩
  · exact .inr h

section
variable {w0 : World} {T p B q N rp rB rq R W : Nat} {f f2 : StF} {g g2 : VwF} {w : World}

theorem KeepIn.offR (h : KeepIn w0 T p B q N rp rB rq R W f f2 g g2 w) (k o : Nat) (v : Value) (hc : w.cell? ⟨k, o, none⟩ = some v) : ¬ RW R W k := fun e => by
  rcases e with e | e
  · exact h.game.rv.r.offC hc e
  · exact h.game.rv.w.offC hc e

theorem kv_dis (h : KeepIn w0 T p B q N rp rB rq R W f f2 g g2 w) (d : Int) : Calls Try.prog 19 #[.pointer (some ⟨q, 0, none⟩), .int .i64 d] w
    fun e w' => e = .returned (.bool (isDirF f g d)) ∧ KeepIn w0 T p B q N rp rB rq R W f f2 (findT g d) g2 w' ∧ Kept (fun n => n = N) w w' := by
  refine (dis_w q N p B f g d w h.game.v h.game.s h.nB).mono ?_
  rintro e w1 ⟨rfl, hv, hk⟩
  exact ⟨rfl, h.putV hv hk, hk⟩

theorem kv_dfind (h : KeepIn w0 T p B q N rp rB rq R W f f2 g g2 w) (d : Int) (s : ByteArray) (hs : s.size ≤ 1000000) (hz : (findV f g d).s.size ≤ 100000) : Calls Try.prog 12 #[.pointer (some ⟨q, 0, none⟩), .int .i64 d, .string s] w
    fun e w' => e = .returned (foundV (foundE (dirE f g d) (bl s))) ∧ KeepIn w0 T p B q N rp rB rq R W f f2 (findT g d) g2 w' ∧ Kept (fun n => n = N) w w' := by
  refine (dfind_w q N p B f g d s hs w h.game.v h.game.s h.nB hz).mono ?_
  rintro e w1 ⟨rfl, hv, hk⟩
  exact ⟨rfl, h.putV hv hk, hk⟩

theorem kv_dadd (h : KeepIn w0 T p B q N rp rB rq R W f f2 g g2 w) (d : Int) (s : ByteArray) (hs : s.size ≤ 1000000) (i : Int) (hz : (findV f g d).s.size ≤ 100000) : Calls Try.prog 10 #[.pointer (some ⟨q, 0, none⟩), .int .i64 d, .string s, .int .i64 i] w
    fun e w' => e = .returned (.bool (addOk f g d (bl s) i)) ∧ KeepIn w0 T p B q N rp rB rq R W f f2 (addT f g d (bl s) i) g2 w' ∧ Kept (fun n => n = N) w w' := by
  refine (dadd_w q N p B f g d s hs i w h.game.v h.game.s h.nB hz).mono ?_
  rintro e w1 ⟨rfl, hv, hk⟩
  exact ⟨rfl, h.putV hv hk, hk⟩

theorem kv_drm (h : KeepIn w0 T p B q N rp rB rq R W f f2 g g2 w) (d : Int) (s : ByteArray) (hs : s.size ≤ 1000000) (hz : (findV f g d).s.size ≤ 100000) : Calls Try.prog 11 #[.pointer (some ⟨q, 0, none⟩), .int .i64 d, .string s] w
    fun e w' => e = .returned (.bool (foundE (dirE f g d) (bl s)).isSome) ∧ KeepIn w0 T p B q N rp rB rq R W f f2 (rmT f g d (bl s)) g2 w' ∧ Kept (fun n => n = N) w w' := by
  refine (dremove_w q N p B f g d s hs w h.game.v h.game.s h.nB hz).mono ?_
  rintro e w1 ⟨rfl, hv, hk⟩
  exact ⟨rfl, h.putV hv hk, hk⟩

theorem kv_dnames (h : KeepIn w0 T p B q N rp rB rq R W f f2 g g2 w) (d : Int) (hz : (findV f g d).s.size ≤ 100000) : Calls Try.prog 14 #[.pointer (some ⟨q, 0, none⟩), .int .i64 d] w
    fun e w' => ∃ v, e = .returned v ∧ Nm.SrcS v (namesE (dirE f g d)) w' ∧ KeepIn w0 T p B q N rp rB rq R W f f2 (findT g d) g2 w' ∧ Kept (fun n => n = N) w w' := by
  refine (dnames_w q N p B f g d w h.game.v h.game.s h.nB hz).mono ?_
  rintro e w1 ⟨v, rfl, ha, hv, hk⟩
  exact ⟨v, rfl, ha, h.putV hv hk, hk⟩

theorem kv_dbare (h : KeepIn w0 T p B q N rp rB rq R W f f2 g g2 w) (d : Int) (hz : (findV f g d).s.size ≤ 100000) : Calls Try.prog 22 #[.pointer (some ⟨q, 0, none⟩), .int .i64 d] w
    fun e w' => e = .returned (.bool (bareE (dirE f g d))) ∧ KeepIn w0 T p B q N rp rB rq R W f f2 (findT g d) g2 w' ∧ Kept (fun n => n = N) w w' := by
  refine (dbare_w q N p B f g d w h.game.v h.game.s h.nB hz).mono ?_
  rintro e w1 ⟨rfl, hv, hk⟩
  exact ⟨rfl, h.putV hv hk, hk⟩

theorem kr_dis (h : KeepIn w0 T p B q N rp rB rq R W f f2 g g2 w) (d : Int) : Calls Try.prog 20 #[.pointer (some ⟨rq, 0, none⟩), .int .i64 d] w
    fun e w' => e = .returned (.bool (isDirF f2 g2 d)) ∧ KeepIn w0 T p B q N rp rB rq R W f f2 g (findT g2 d) w' ∧ Kept (RW R W) w w' := by
  refine (rdis_w h.both d).mono ?_
  rintro e w1 ⟨rfl, hb, hk⟩
  exact ⟨rfl, h.putX hb hk, hk⟩

theorem kr_dfind (h : KeepIn w0 T p B q N rp rB rq R W f f2 g g2 w) (d : Int) (s : ByteArray) (hs : s.size ≤ 1000000) (hz : (findV f2 g2 d).s.size ≤ 100000) : Calls Try.prog 18 #[.pointer (some ⟨rq, 0, none⟩), .int .i64 d, .string s] w
    fun e w' => e = .returned (foundV (foundE (dirE f2 g2 d) (bl s))) ∧ KeepIn w0 T p B q N rp rB rq R W f f2 g (findT g2 d) w' ∧ Kept (RW R W) w w' := by
  refine (rfind_w h.both d s hs hz).mono ?_
  rintro e w1 ⟨rfl, hb, hk⟩
  exact ⟨rfl, h.putX hb hk, hk⟩

theorem kr_dadd (h : KeepIn w0 T p B q N rp rB rq R W f f2 g g2 w) (d : Int) (s : ByteArray) (hs : s.size ≤ 1000000) (i : Int) (hz : (findV f2 g2 d).s.size ≤ 100000) : Calls Try.prog 15 #[.pointer (some ⟨rq, 0, none⟩), .int .i64 d, .string s, .int .i64 i] w
    fun e w' => e = .returned (.bool (addOk f2 g2 d (bl s) i)) ∧ KeepIn w0 T p B q N rp rB rq R W f f2 g (addT f2 g2 d (bl s) i) w' ∧ Kept (RW R W) w w' := by
  refine (radd_w h.both d s hs i hz).mono ?_
  rintro e w1 ⟨rfl, hb, hk⟩
  exact ⟨rfl, h.putX hb hk, hk⟩

theorem kr_drm (h : KeepIn w0 T p B q N rp rB rq R W f f2 g g2 w) (d : Int) (s : ByteArray) (hs : s.size ≤ 1000000) (hz : (findV f2 g2 d).s.size ≤ 100000) : Calls Try.prog 16 #[.pointer (some ⟨rq, 0, none⟩), .int .i64 d, .string s] w
    fun e w' => e = .returned (.bool (foundE (dirE f2 g2 d) (bl s)).isSome) ∧ KeepIn w0 T p B q N rp rB rq R W f f2 g (rmT f2 g2 d (bl s)) w' ∧ Kept (RW R W) w w' := by
  refine (rremove_w h.both d s hs hz).mono ?_
  rintro e w1 ⟨rfl, hb, hk⟩
  exact ⟨rfl, h.putX hb hk, hk⟩

theorem kr_dnames (h : KeepIn w0 T p B q N rp rB rq R W f f2 g g2 w) (d : Int) (hz : (findV f2 g2 d).s.size ≤ 100000) : Calls Try.prog 21 #[.pointer (some ⟨rq, 0, none⟩), .int .i64 d] w
    fun e w' => ∃ v, e = .returned v ∧ Nm.SrcS v (namesE (dirE f2 g2 d)) w' ∧ KeepIn w0 T p B q N rp rB rq R W f f2 g (findT g2 d) w' ∧ Kept (RW R W) w w' := by
  refine (rnames_w h.both d hz).mono ?_
  rintro e w1 ⟨v, rfl, ha, hb, hk⟩
  exact ⟨v, rfl, ha, h.putX hb hk, hk⟩

theorem kr_dbare (h : KeepIn w0 T p B q N rp rB rq R W f f2 g g2 w) (d : Int) (hz : (findV f2 g2 d).s.size ≤ 100000) : Calls Try.prog 23 #[.pointer (some ⟨rq, 0, none⟩), .int .i64 d] w
    fun e w' => e = .returned (.bool (bareE (dirE f2 g2 d))) ∧ KeepIn w0 T p B q N rp rB rq R W f f2 g (findT g2 d) w' ∧ Kept (RW R W) w w' := by
  refine (rbare_w h.both d hz).mono ?_
  rintro e w1 ⟨rfl, hb, hk⟩
  exact ⟨rfl, h.putX hb hk, hk⟩

/-- A block of cells is none of the views' maps. -/
theorem KeepIn.off {X : Nat} {c : Array Value} {t : TypeId} (h : KeepIn w0 T p B q N rp rB rq R W f f2 g g2 w) (hX : w.heap[X]? = some (.cells c t (0, 0))) : X ≠ N ∧ ¬ RW R W X ∧ X ≠ B ∧ X ≠ rB :=
  ⟨h.game.v.map.off hX, fun e => by rcases e with e | e; exact h.game.rv.r.off hX e; exact h.game.rv.w.off hX e, h.game.s.map.off hX, h.game.rs.map.off hX⟩
end
end Go.Proofs.Ytkpcillgoeidaaa
