/- The holders beside a map of whose each rank is; what is asked, guarded; no conditions but their own. -/
import Derived.Test.YtkmfeenooidbhaaPlayF
namespace Go.Proofs.Ytkmfeenooidbhaa
open Go.RowKit

theorem map_kept {b n : Nat} {D : Dat} {X : Nat → Prop} {w w' : World} (h : MapIn b n D w) (hk : Kept X w w') (hx : ¬ X b) : MapIn b n D w' := by
  obtain ⟨es, clock, hb, r⟩ := h
  exact ⟨es, clock, hk.at hb hx, r⟩

theorem HeldIn.offMap {B N b n : Nat} {vs : List Value} {ls : List (List Int)} {D : Dat} {w : World} (h : HeldIn B N vs ls w) (hm : MapIn b n D w) : ¬ Mine B vs b := by
  obtain ⟨es, clock, hb, r⟩ := hm
  rintro (rfl | ⟨i, hi, e⟩)
  · rw [h.tab] at hb; cases hb
  · obtain ⟨cur, hr⟩ := row_type (h.each i hi) e
    rw [hb] at hr; cases hr

theorem SrcI.opened {x : Value} {l : List Int} {w : World} (h : SrcI x l w) : ∃ ao b o c, x = .slice ao l.length c ∧ (0 < l.length → ao = some ⟨b, o, none⟩) ∧ ∀ j, j < l.length → w.cell? ⟨b, o + j, none⟩ = some (.int .i64 (zd l j)) := by
  rcases h.form with ⟨b, o, c, rfl⟩ | ⟨rfl, rfl⟩
  · exact ⟨_, b, o, c, rfl, fun _ => rfl, fun j hj => h.cell hj⟩
  · exact ⟨none, 0, 0, 0, rfl, fun h => by simp at h, fun j hj => by simp at hj⟩

theorem cells_off_map {b n k : Nat} {D : Dat} {w : World} {c : Array Value} {t : TypeId} (h : MapIn b n D w) (hc : w.heap[k]? = some (.cells c t (0, 0))) : k ≠ b := by
  obtain ⟨es, clock, hb, r⟩ := h
  rintro rfl
  rw [hb] at hc; cases hc

structure Hall (B N : Nat) (vs : List Value) (ls : List (List Int)) (D : Dat) (w0 w : World) : Prop where
  room : Room B N vs ls w0 w
  map : MapIn (B + 3) N D w

theorem Hall.still {B N : Nat} {vs : List Value} {ls : List (List Int)} {D : Dat} {w0 w w' : World} (h : Hall B N vs ls D w0 w) (hk : Kept (fun _ => False) w w') : Hall B N vs ls D w0 w' :=
  ⟨h.room.still hk, map_kept h.map hk (fun x => x)⟩

theorem Hall.left {B N : Nat} {vs : List Value} {ls ls' : List (List Int)} {D : Dat} {w0 w w' : World} (h : Hall B N vs ls D w0 w) (hl : Left B (N + 1) vs ls' w w') :
    ∃ vs', vs'.length = vs.length ∧ Hall B (N + 1) vs' ls' D w0 w' ∧ Kept (Mine B vs) w w' := by
  obtain ⟨vs', h1, h2, h3, h4⟩ := h.room.left hl
  exact ⟨vs', h1, ⟨h2, (map_kept h.map h3 (h.room.held.offMap h.map)).mono (Nat.le_succ _)⟩, h3⟩

/-- The map turns. -/
theorem Hall.put {B N M : Nat} {vs : List Value} {ls : List (List Int)} {D D' : Dat} {w0 w w' : World} (h : Hall B N vs ls D w0 w) (hm : MapIn (B + 3) M D' w') (ht : w.mapTurned w' (B + 3)) (hN : N ≤ M) : Hall B M vs ls D' w0 w' ∧ Kept (fun k => k = B + 3) w w' := by
  have hk : Kept (fun k => k = B + 3) w w' := Kept.grown (Kept.refl _ w) ht.grown (fun k e _ => by simpa using e.symm)
  have hr := h.room
  have hoff := hr.held.offMap h.map
  refine ⟨⟨⟨(hr.held.more hN).kept hk (by omega) (fun k hx e => by subst e; exact hoff hx), hk.at hr.var (by omega), hr.kept.trans hk (fun k hk e => by have := hr.base; omega), hr.base⟩, hm⟩, hk⟩

def playOut (b : Bool) (ls : List (List Int)) (who r : Int) : Out := if b then letOut ls who r else takeOut ls who r
def playTo (b : Bool) (ls : List (List Int)) (who r : Int) : List (List Int) := if b then letTo ls who r else takeTo ls who r

theorem Hall.more {B N M : Nat} {vs : List Value} {ls : List (List Int)} {D : Dat} {w0 w : World} (h : Hall B N vs ls D w0 w) (hM : N ≤ M) : Hall B M vs ls D w0 w :=
  ⟨⟨h.room.held.more hM, h.room.var, h.room.kept, h.room.base⟩, h.map.mono hM⟩

theorem Hall.tidy {B N : Nat} {vs : List Value} {ls : List (List Int)} {D : Dat} {w0 w : World} (h : Hall B N vs ls D w0 w) : Maps.Tidy D := h.map.tidy law

/-- What a call comes to, way by way. -/
theorem play_cases (b : Bool) (ls : List (List Int)) (who r : Int) :
    (¬ (0 ≤ who ∧ who < ls.length) ∧ playOut b ls who r = .halts 3 who ∧ playTo b ls who r = ls) ∨
    ∃ i : Nat, who = i ∧ i < ls.length ∧
      ((b = true ∧ r ∉ ld ls i ∧ playOut b ls who r = .halts 6 r ∧ playTo b ls who r = ls) ∨
       (b = true ∧ r ∈ ld ls i ∧ playOut b ls who r = .done ∧ playTo b ls who r = ls.set i (without (ld ls i) r)) ∨
       (b = false ∧ ¬ top (ld ls i) < r ∧ playOut b ls who r = .halts 5 r ∧ playTo b ls who r = ls) ∨
       (b = false ∧ top (ld ls i) < r ∧ ownr ls r ≠ -1 ∧ playOut b ls who r = .halts 6 r ∧ playTo b ls who r = ls) ∨
       (b = false ∧ top (ld ls i) < r ∧ ownr ls r = -1 ∧ playOut b ls who r = .done ∧ playTo b ls who r = ls.set i (ld ls i ++ [r]))) := by
  unfold playOut playTo letOut letTo takeOut takeTo
  by_cases hw : 0 ≤ who ∧ who < ls.length
  · right
    obtain ⟨i, rfl⟩ : ∃ i : Nat, who = i := ⟨who.toNat, by omega⟩
    refine ⟨i, rfl, by omega, ?_⟩
    simp only [Int.toNat_natCast]
    rcases b with _ | _
    · right; right
      by_cases ht : top (ld ls i) < r
      · right
        by_cases ho : ownr ls r = -1
        · right; exact ⟨rfl, ht, ho, by simp only [Bool.false_eq_true, if_false, if_pos hw, if_pos ht, if_pos ho], by simp only [Bool.false_eq_true, if_false]; rw [if_pos ⟨hw.1, hw.2, ht, ho⟩]⟩
        · left; exact ⟨rfl, ht, ho, by simp only [Bool.false_eq_true, if_false, if_pos hw, if_pos ht, if_neg ho], by simp only [Bool.false_eq_true, if_false]; rw [if_neg (fun x => ho x.2.2.2)]⟩
      · left; exact ⟨rfl, ht, by simp only [Bool.false_eq_true, if_false, if_pos hw, if_neg ht], by simp only [Bool.false_eq_true, if_false]; rw [if_neg (fun x => ht x.2.2.1)]⟩
    · by_cases hr : r ∈ ld ls i
      · right; left; exact ⟨rfl, hr, by simp only [if_true, if_pos hw, if_pos hr], by simp only [if_true]; rw [if_pos ⟨hw.1, hw.2, hr⟩]⟩
      · left; exact ⟨rfl, hr, by simp only [if_true, if_pos hw, if_neg hr], by simp only [if_true]; rw [if_neg (fun x => hr x.2.2)]⟩
  · left
    refine ⟨hw, ?_, ?_⟩
    · rcases b with _ | _ <;> simp only [Bool.false_eq_true, if_false, if_true, if_neg hw]
    · rcases b with _ | _
      · simp only [Bool.false_eq_true, if_false]; rw [if_neg (fun x => hw ⟨x.1, x.2.1⟩)]
      · simp only [if_true]; rw [if_neg (fun x => hw ⟨x.1, x.2.1⟩)]

theorem play_told {b : Bool} {ls : List (List Int)} {who r sa sb : Int} {st : Bool} (h : (playOut b ls who r).told = .agg #[.int .i64 sa, .int .i64 sb]) (hs : (playOut b ls who r).stopped = st) : (st = false ∧ sa = 0 ∧ sb = 0) ∨ (st = true ∧ sa ≠ 0) := by
  have key : ∀ {o : Out}, playOut b ls who r = o → (o = .done ∨ ∃ a c, o = .halts a c ∧ a ≠ 0) → (st = false ∧ sa = 0 ∧ sb = 0) ∨ (st = true ∧ sa ≠ 0) := by
    intro o ho hc
    rw [ho] at h hs
    rcases hc with rfl | ⟨a, c, rfl, ha⟩
    · left
      simp only [Out.told, stopV, Value.agg.injEq, Array.mk.injEq, List.cons.injEq, Value.int.injEq, true_and, and_true] at h
      exact ⟨hs.symm, h.1.symm, h.2.symm⟩
    · right
      simp only [Out.told, stopV, Value.agg.injEq, Array.mk.injEq, List.cons.injEq, Value.int.injEq, true_and, and_true] at h
      exact ⟨hs.symm, h.1 ▸ ha⟩
  rcases play_cases b ls who r with ⟨_, e, _⟩ | ⟨i, _, hi, hh⟩
  · exact key e (.inr ⟨_, _, rfl, by decide⟩)
  · rcases hh with ⟨_, _, e, _⟩ | ⟨_, _, e, _⟩ | ⟨_, _, e, _⟩ | ⟨_, _, _, e, _⟩ | ⟨_, _, _, e, _⟩
    · exact key e (.inr ⟨_, _, rfl, by decide⟩)
    · exact key e (.inl rfl)
    · exact key e (.inr ⟨_, _, rfl, by decide⟩)
    · exact key e (.inr ⟨_, _, rfl, by decide⟩)
    · exact key e (.inl rfl)

theorem playTo_len (b : Bool) (ls : List (List Int)) (who r : Int) : (playTo b ls who r).length = ls.length := by
  unfold playTo; rcases b with _ | _
  · exact takeTo_len _ _ _
  · exact letTo_len _ _ _

def Wf (ls : List (List Int)) : Prop := ∀ i x, i < ls.length → x ∈ ld ls i → (Lit.int .i64 x).wf = true

theorem Wf.play {ls : List (List Int)} (h : Wf ls) {r : Int} (hr : (Lit.int .i64 r).wf = true) (b : Bool) (who : Int) : Wf (playTo b ls who r) := by
  intro j x hj hx
  rw [playTo_len] at hj
  rcases play_cases b ls who r with ⟨_, _, e⟩ | ⟨i, _, hi, hh⟩
  · rw [e] at hx; exact h j x hj hx
  · rcases hh with ⟨_, _, _, e⟩ | ⟨_, _, _, e⟩ | ⟨_, _, _, e⟩ | ⟨_, _, _, _, e⟩ | ⟨_, _, _, _, e⟩
    · rw [e] at hx; exact h j x hj hx
    · rw [e, ld_set hi] at hx
      by_cases e2 : i = j
      · rw [if_pos e2] at hx; exact h i x hi (without_mem.1 hx).1
      · rw [if_neg e2] at hx; exact h j x hj hx
    · rw [e] at hx; exact h j x hj hx
    · rw [e] at hx; exact h j x hj hx
    · rw [e, ld_set hi] at hx
      by_cases e2 : i = j
      · rw [if_pos e2] at hx
        rcases List.mem_append.1 hx with hx | hx
        · exact h i x hi hx
        · rw [List.mem_singleton.1 hx]; exact hr
      · rw [if_neg e2] at hx; exact h j x hj hx

theorem lk_none {ls : List (List Int)} {r : Int} (h : ownr ls r = -1) : lk ls r = 0 ∧ hd ls r = false := by unfold lk hd; rw [if_pos h, h]; exact ⟨rfl, by decide⟩
theorem lk_some {ls : List (List Int)} {r : Int} {i : Nat} (h : ownr ls r = i) : lk ls r = i ∧ hd ls r = true := by unfold lk hd; rw [if_neg (by omega), h]; exact ⟨rfl, by simp <;> omega⟩

theorem Left.more {B N M : Nat} {vs : List Value} {ls : List (List Int)} {w w' : World} (h : Left B N vs ls w w') (hM : N ≤ M) : Left B M vs ls w w' := by
  obtain ⟨vs', h1, h2, h3, h4⟩ := h
  exact ⟨vs', h1, h2.more hM, h3, h4⟩

theorem plays_c1 (B N Q : Nat) (vs : List Value) (ls : List (List Int)) (who r : Int) (b : Bool) (w0 w : World) (hN : N ≤ 1000) (hn : vs.length ≤ 64) (h : Room B N vs ls w0 w) (hq : w.heap[Q]? = some (.cells #[.int .i64 who, .int .i64 r, .bool b] 38 (0, 0))) :
    Calls Try.prog 17 #[.pointer (some ⟨Q, 0, none⟩), .pointer (some ⟨B + 2, 0, none⟩)] w fun e w' => (playOut b ls who r).ends e ∧ Left B (N + 1) vs (playTo b ls who r) w w' := by
  have c0 := cell_at h.var (i := 0) rfl
  have d0 := cell_at hq (i := 0) rfl
  have d1 := cell_at hq (i := 1) rfl
  have d2 := cell_at hq (i := 2) rfl
  unfold playOut playTo
  rcases b with _ | _
  · have T := take_any B N vs ls who r hN hn w h.held
    simp only [Bool.false_eq_true, if_false]
    clear h hq
    go_enter Try.func17, Try.ntmps17
    go_wp2_with fail
    refine T.mono ?_
    rintro e w1 ⟨he, hL⟩
    rcases ends_cases he with ⟨h, rfl⟩ | ⟨hst, v, older, hv, rfl, hold⟩
    · go_wp2
      go_end0
      exact ⟨he, hL⟩
    · exact ⟨rfl, ends_stop hv hold, hL⟩
  · have T := (let_any B N vs ls who r hN w h.held).mono (fun e w' ⟨a, b⟩ => (⟨a, b.more (Nat.le_succ N)⟩ : (letOut ls who r).ends e ∧ Left B (N + 1) vs (letTo ls who r) w w'))
    simp only [if_true]
    clear h hq
    go_enter Try.func17, Try.ntmps17
    go_wp2_with fail
    refine T.mono ?_
    rintro e w1 ⟨he, hL⟩
    rcases ends_cases he with ⟨h, rfl⟩ | ⟨hst, v, older, hv, rfl, hold⟩
    · go_wp2
      go_end0
      exact ⟨he, hL⟩
    · exact ⟨rfl, ends_stop hv hold, hL⟩

theorem enters_p1 : Enters 17 := fun _ _ => by rfl
theorem enters_p2 : Enters 19 := fun _ _ => by rfl

theorem ask_g (B N Q : Nat) (vs : List Value) (ls : List (List Int)) (who r : Int) (b : Bool) (w0 w : World) (hN : N ≤ 1000) (hn : vs.length ≤ 64) (h : Room B N vs ls w0 w) (hq : w.heap[Q]? = some (.cells #[.int .i64 who, .int .i64 r, .bool b] 38 (0, 0))) :
    Calls Try.prog 9 #[.func (.func 17) #[] #[.pointer (some ⟨Q, 0, none⟩), .pointer (some ⟨B + 2, 0, none⟩)]] w fun e w' =>
      e = .returned (.tuple #[(playOut b ls who r).told, .bool (playOut b ls who r).stopped]) ∧ Left B (N + 1) vs (playTo b ls who r) w w' :=
  guard_left 17 _ enters_p1 _ B N (N + 1) vs ls _ w h.held (plays_c1 B N Q vs ls who r b w0 _ hN hn (h.still (inGuard_kept w)) ((inGuard_kept w).at hq (fun x => x)))

theorem plays_c2 (w : World) : Calls Try.prog 19 #[] w fun e w' => (Out.halts 3 0).ends e ∧ w' = w := by
  have T := new_no 0 (by omega) w
  go_enter Try.func19, Try.ntmps19
  go_wp2_with fail
  refine T.mono ?_
  rintro e w1 ⟨he, rfl⟩
  rcases ends_cases he with ⟨h, rfl⟩ | ⟨hst, v, older, hv, rfl, hold⟩
  · cases h
  · exact ⟨rfl, ends_stop hv hold, rfl⟩

theorem new_g (w : World) : Calls Try.prog 9 #[.func (.func 19) #[] #[]] w fun e w' => e = .returned (.tuple #[stopV 3 0, .bool true]) ∧ Kept (fun _ => False) w w' :=
  guard_fn 19 #[] enters_p2 (.halts 3 0) w ((plays_c2 _).mono fun e w' ⟨he, hw⟩ => by subst hw; exact ⟨he, Kept.refl _ _⟩)
end Go.Proofs.Ytkmfeenooidbhaa
