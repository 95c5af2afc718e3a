/- What Take does, whatever is asked; no conditions. -/
import Derived.Test.YtkmfeenooidbhaaIntRow
import Derived.Deep.CutBlock
namespace Go.Proofs.Ytkmfeenooidbhaa
open Go.RowKit

theorem take_no (B N : Nat) (vs : List Value) (ls : List (List Int)) (a r : Int) (ha : ¬ (0 ≤ a ∧ a < vs.length)) (w : World) (h : HeldIn B N vs ls w) :
    Calls Try.prog 8 #[.pointer (some ⟨B + 1, 0, none⟩), .int .i64 a, .int .i64 r] w fun e w' => (Out.halts 3 a).ends e ∧ w' = w := by
  have O := of_no B N vs ls a ha w h
  clear h
  go_enter Try.func8, Try.ntmps8
  go_wp2_with fail
  refine O.mono ?_
  rintro e w1 ⟨he, rfl⟩
  rcases ends_cases he with ⟨h, rfl⟩ | ⟨hst, v, older, hv, rfl, hold⟩
  · cases h
  · exact ⟨rfl, ends_stop hv hold, rfl⟩

theorem take_low (B N : Nat) (vs : List Value) (ls : List (List Int)) (i : Nat) (hi : i < vs.length) (r : Int) (hr : ¬ top (ld ls i) < r) (hN : N ≤ 1000) (w : World) (h : HeldIn B N vs ls w) :
    Calls Try.prog 8 #[.pointer (some ⟨B + 1, 0, none⟩), .int .i64 i, .int .i64 r] w fun e w' => (Out.halts 5 r).ends e ∧ w' = w := by
  have c1 := h.list hi
  have O := of_ok B N vs ls i hi w h
  have T := highest_w (vd vs i) (ld ls i) (by have := h.cap i hi; omega) w (h.src hi)
  have hd : decide (top (ld ls i) < r) = false := by simpa using hr
  clear h hr
  go_enter Try.func8, Try.ntmps8
  go_wp2_with fail
  refine O.mono ?_
  rintro e w1 ⟨rfl, rfl⟩
  go_wp2_with fail
  refine T.mono ?_
  rintro e w1 ⟨rfl, rfl⟩
  go_wp2_with fail
  refine (must_not _ _ _).mono ?_
  rintro e w1 ⟨he, rfl⟩
  rcases ends_cases he with ⟨h, rfl⟩ | ⟨hst, v, older, hv, rfl, hold⟩
  · cases h
  · exact ⟨rfl, ends_stop hv hold, rfl⟩

theorem take_had (B N : Nat) (vs : List Value) (ls : List (List Int)) (i : Nat) (hi : i < vs.length) (r : Int) (hr : top (ld ls i) < r) (ho : ¬ ownr ls r = -1) (hN : N ≤ 1000) (hn : vs.length ≤ 64) (w : World) (h : HeldIn B N vs ls w) :
    Calls Try.prog 8 #[.pointer (some ⟨B + 1, 0, none⟩), .int .i64 i, .int .i64 r] w fun e w' => (Out.halts 6 r).ends e ∧ w' = w := by
  have c1 := h.list hi
  have O := of_ok B N vs ls i hi w h
  have T := highest_w (vd vs i) (ld ls i) (by have := h.cap i hi; omega) w (h.src hi)
  have W := owner_w B N vs ls r hN hn w h
  have hd : decide (top (ld ls i) < r) = true := by simpa using hr
  have hd2 : (ownr ls r == -1) = false := by simpa using ho
  clear h
  go_enter Try.func8, Try.ntmps8
  go_wp2_with fail
  refine O.mono ?_
  rintro e w1 ⟨rfl, rfl⟩
  go_wp2_with fail
  refine T.mono ?_
  rintro e w1 ⟨rfl, rfl⟩
  go_wp2_with fail
  refine (must_ok _ _ _).mono ?_
  rintro e w1 ⟨rfl, rfl⟩
  go_wp2_with fail
  refine W.mono ?_
  rintro e w1 ⟨rfl, rfl⟩
  go_wp2_with fail
  refine (must_not _ _ _).mono ?_
  rintro e w1 ⟨he, rfl⟩
  rcases ends_cases he with ⟨h, rfl⟩ | ⟨hst, v, older, hv, rfl, hold⟩
  · cases h
  · exact ⟨rfl, ends_stop hv hold, rfl⟩

/-- What a call leaves behind. -/
def Left (B M : Nat) (vs : List Value) (ls' : List (List Int)) (w w' : World) : Prop :=
  ∃ vs', vs'.length = vs.length ∧ HeldIn B M vs' ls' w' ∧ Kept (Mine B vs) w w' ∧ ∀ k, Mine B vs' k → Mine B vs k ∨ w.heap.size ≤ k

theorem Left.same {B N M : Nat} {vs : List Value} {ls : List (List Int)} {w : World} (h : HeldIn B N vs ls w) (hM : N ≤ M) : Left B M vs ls w w := ⟨vs, rfl, h.more hM, Kept.refl _ _, fun _ h => .inl h⟩

theorem take_ok (B N : Nat) (vs : List Value) (ls : List (List Int)) (i : Nat) (hi : i < vs.length) (r : Int) (hr : top (ld ls i) < r) (ho : ownr ls r = -1) (hN : N ≤ 1000) (hn : vs.length ≤ 64) (w : World) (h : HeldIn B N vs ls w) :
    Calls Try.prog 8 #[.pointer (some ⟨B + 1, 0, none⟩), .int .i64 i, .int .i64 r] w fun e w' => e = .returned (.tuple #[]) ∧ Left B (N + 1) vs (ls.set i (ld ls i ++ [r])) w w' := by
  obtain ⟨i0, hi0, hz0, hz1, hz2⟩ := info_parts info_int
  have c1 := h.list hi
  have O := of_ok B N vs ls i hi w h
  have T := highest_w (vd vs i) (ld ls i) (by have := h.cap i hi; omega) w (h.src hi)
  have W := owner_w B N vs ls r hN hn w h
  rw [ho] at W
  have hd : decide (top (ld ls i) < r) = true := by simpa using hr
  have HO : Hid _ := ho
  have HR : Hid _ := hr
  have HH : Hid _ := h
  have hcap := h.cap i hi
  have hBw := lt_at h.box
  obtain ⟨D, hD⟩ : ∃ D : Nat, w.heap.size = D := ⟨_, rfl⟩
  clear h ho hr
  go_enter Try.func8, Try.ntmps8
  go_wp2_with fail
  refine O.mono ?_
  rintro e w1 ⟨rfl, rfl⟩
  go_wp2_with fail
  refine T.mono ?_
  rintro e w1 ⟨rfl, rfl⟩
  go_wp2_with fail
  refine (must_ok _ _ _).mono ?_
  rintro e w1 ⟨rfl, rfl⟩
  go_wp2_with fail
  refine W.mono ?_
  rintro e w1 ⟨rfl, rfl⟩
  go_wp2_with fail
  refine (must_ok _ _ _).mono ?_
  rintro e w1 ⟨rfl, rfl⟩
  clear O T W
  go_wp2_with (at_builtin; refine wpList_append_lies _ rfl _ _ 30 rfl (B + 2) 3 i0 (.int .i64 0) 1 8 Try.underlying30 hi0 hz0 hz1 hz2 rfl (by decide) _ _ _ rfl ((HH.out.each i hi).alloc _) ⟨D, 0, none⟩ 1 1 [.int .i64 r] rfl rfl ?c1 ?c2 (by decide) ?c3 ?c4 ?c5 _ rfl ?_)
  case c1 => exact fun j u hu => World.news_of_block (cs := #[.int .i64 r]) (alloc_at' _ hD) j u hu
  case c2 => intro u hu; simp at hu; subst hu; rfl
  case c3 => unfold maxLen; omega
  case c4 => omega
  case c5 => simp; omega
  intro g cp w4 hown hgr hat hlt
  have hk4 : Kept (fun k => (vd vs i).ownBlock = some k) w1 w4 := Kept.grown ((Kept.refl _ w1).alloc _) hgr (fun k e _ => e)
  have hput := HH.out.put (v' := .slice (some ⟨g, 0, none⟩) ((ld ls i).length + 1) cp) (l' := ld ls i ++ [r]) (M := N + 1) hi hk4 (by rw [ints_app, List.length_append]; exact hown)
    (fun k e => by
      have e1 : g = k := by simpa [Value.ownBlock] using e
      subst e1
      rcases hat with x | x
      · exact .inl x
      · exact .inr (by omega)) (HH.out.good.take (by rw [HH.out.len]; exact hi) HR.out HO.out) (by simp; omega) (by omega)
  have HP : Hid _ := hput
  have d1 := hk4.cell (HH.out.list hi) (fun e => row_off (HH.out.each i hi) HH.out.tab (by decide) e)
  have f1 := free_at (hk4.at HH.out.tab (fun e => row_off (HH.out.each i hi) HH.out.tab (by decide) e)) i
  clear hput hk4 hown hgr hat hlt HH c1
  go_wp2
  go_end0
  exact ⟨rfl, _, by simp, HP.out⟩

/-- Take, whatever is asked. -/
theorem take_any (B N : Nat) (vs : List Value) (ls : List (List Int)) (a r : Int) (hN : N ≤ 1000) (hn : vs.length ≤ 64) (w : World) (h : HeldIn B N vs ls w) :
    Calls Try.prog 8 #[.pointer (some ⟨B + 1, 0, none⟩), .int .i64 a, .int .i64 r] w fun e w' => (takeOut ls a r).ends e ∧ Left B (N + 1) vs (takeTo ls a r) w w' := by
  have hlen := h.len
  unfold takeOut takeTo
  by_cases ha : 0 ≤ a ∧ a < ls.length
  · obtain ⟨i, rfl⟩ : ∃ i : Nat, a = i := ⟨a.toNat, by omega⟩
    have hi : i < vs.length := by omega
    rw [if_pos ha, Int.toNat_natCast]
    by_cases ht : top (ld ls i) < r
    · by_cases ho : ownr ls r = -1
      · rw [if_pos ht, if_pos ho, if_pos ⟨ha.1, ha.2, ht, ho⟩]
        exact take_ok B N vs ls i hi r ht ho hN hn w h
      · rw [if_pos ht, if_neg ho, if_neg (fun x => ho x.2.2.2)]
        exact (take_had B N vs ls i hi r ht ho hN hn w h).mono fun e w' ⟨he, hw⟩ => by subst hw; exact ⟨he, Left.same h (Nat.le_succ N)⟩
    · rw [if_neg ht, if_neg (fun x => ht x.2.2.1)]
      exact (take_low B N vs ls i hi r ht hN w h).mono fun e w' ⟨he, hw⟩ => by subst hw; exact ⟨he, Left.same h (Nat.le_succ N)⟩
  · rw [if_neg ha, if_neg (fun x => ha ⟨x.1, x.2.1⟩)]
    exact (take_no B N vs ls a r (by rw [← hlen]; exact ha) w h).mono fun e w' ⟨he, hw⟩ => by subst hw; exact ⟨he, Left.same h (Nat.le_succ N)⟩
end Go.Proofs.Ytkmfeenooidbhaa
