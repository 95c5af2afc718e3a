/- What Let does, whatever is asked; no conditions. -/
import Derived.Test.YtkmfeenooidbhaaDel
namespace Go.Proofs.Ytkmfeenooidbhaa
open Go.RowKit

theorem own_slice {w : World} {base e n : Nat} {v : Value} {xs : List Value} (h : w.ownsRow base e 1 v n xs) : ∃ a m c, v = .slice a m c := by
  rcases h.2 with ⟨rfl, _⟩ | ⟨g, cap, cur, rfl, _⟩
  · exact ⟨_, _, _, rfl⟩
  · exact ⟨_, _, _, rfl⟩

theorem let_no (B N : Nat) (vs : List Value) (ls : List (List Int)) (a r : Int) (ha : ¬ (0 ≤ a ∧ a < vs.length)) (w : World) (h : HeldIn B N vs ls w) :
    Calls Try.prog 12 #[.pointer (some ⟨B + 1, 0, none⟩), .int .i64 a, .int .i64 r] w fun e w' => (Out.halts 3 a).ends e ∧ w' = w := by
  have O := of_no B N vs ls a ha w h
  clear h
  go_enter Try.func12, Try.ntmps12
  go_wp2_with fail
  refine O.mono ?_
  rintro e w1 ⟨he, rfl⟩
  rcases ends_cases he with ⟨h, rfl⟩ | ⟨hst, v, older, hv, rfl, hold⟩
  · cases h
  · exact ⟨rfl, ends_stop hv hold, rfl⟩

theorem let_free (B N : Nat) (vs : List Value) (ls : List (List Int)) (i : Nat) (hi : i < vs.length) (r : Int) (hr : r ∉ ld ls i) (hN : N ≤ 1000) (w : World) (h : HeldIn B N vs ls w) :
    Calls Try.prog 12 #[.pointer (some ⟨B + 1, 0, none⟩), .int .i64 i, .int .i64 r] w fun e w' => (Out.halts 6 r).ends e ∧ w' = w := by
  have c1 := h.list hi
  have O := of_ok B N vs ls i hi w h
  have S := search_w (vd vs i) (ld ls i) r (h.good.rise i (by have := h.len; omega)) (by have := h.cap i hi; omega) w (h.src hi)
  rw [isIn_no hr] at S
  clear h hr
  go_enter Try.func12, Try.ntmps12
  go_wp2_with fail
  refine O.mono ?_
  rintro e w1 ⟨rfl, rfl⟩
  go_wp2_with fail
  refine S.mono ?_
  rintro e w1 ⟨⟨j, rfl, _⟩, rfl⟩
  go_wp2_with fail
  refine (must_not _ _ _).mono ?_
  rintro e w1 ⟨he, rfl⟩
  rcases ends_cases he with ⟨h, rfl⟩ | ⟨hst, v, older, hv, rfl, hold⟩
  · cases h
  · exact ⟨rfl, ends_stop hv hold, rfl⟩

theorem let_ok (B N : Nat) (vs : List Value) (ls : List (List Int)) (i : Nat) (hi : i < vs.length) (r : Int) (hr : r ∈ ld ls i) (hN : N ≤ 1000) (w : World) (h : HeldIn B N vs ls w) :
    Calls Try.prog 12 #[.pointer (some ⟨B + 1, 0, none⟩), .int .i64 i, .int .i64 r] w fun e w' => e = .returned (.tuple #[]) ∧ Left B N vs (ls.set i (without (ld ls i) r)) w w' := by
  have c1 := h.list hi
  have hrise := h.good.rise i (by have := h.len; omega)
  have O := of_ok B N vs ls i hi w h
  have S := search_w (vd vs i) (ld ls i) r hrise (by have := h.cap i hi; omega) w (h.src hi)
  rw [isIn_yes hr] at S
  have HM : Hid _ := hr
  have HH : Hid _ := h
  have HS : Hid _ := hrise
  have hcap := h.cap i hi
  clear h hr hrise
  go_enter Try.func12, Try.ntmps12
  go_wp2_with fail
  refine O.mono ?_
  rintro e w1 ⟨rfl, rfl⟩
  go_wp2_with fail
  refine S.mono ?_
  rintro e w1 ⟨⟨j, rfl, hj⟩, rfl⟩
  have hj2 := (hj HM.out).1
  have hj3 : Hid _ := (hj HM.out).2
  clear hj O S
  go_wp2_with fail
  refine (must_ok _ _ _).mono ?_
  rintro e w1 ⟨rfl, rfl⟩
  have D := delete_own (B + 2) j (vd vs i) (ld ls i) hj2 w1 (HH.out.each i hi)
  go_wp2_with fail
  refine D.mono ?_
  rintro e w2 ⟨v', rfl, hv, hk, hown⟩
  obtain ⟨a', m', c', rfl⟩ := own_slice hown
  have e1 : (ld ls i).eraseIdx j = without (ld ls i) r := by rw [← without_at HS.out hj2, hj3.out]
  rw [e1] at hown
  have HP : Hid _ := HH.out.put (v' := .slice a' m' c') (l' := without (ld ls i) r) (M := N) hi hk hown (fun k e => .inl (hv ▸ e)) (HH.out.good.drop (by rw [HH.out.len]; exact hi) r) (Nat.le_trans (without_le _ _) hcap) (Nat.le_refl _)
  have d1 := hk.cell (HH.out.list hi) (fun e => row_off (HH.out.each i hi) HH.out.tab (by decide) e)
  have f1 := free_at (hk.at HH.out.tab (fun e => row_off (HH.out.each i hi) HH.out.tab (by decide) e)) i
  clear D hv hk hown HH c1 e1 HS
  go_wp2
  go_end0
  exact ⟨rfl, _, by simp, HP.out⟩

/-- Let, whatever is asked. -/
theorem let_any (B N : Nat) (vs : List Value) (ls : List (List Int)) (a r : Int) (hN : N ≤ 1000) (w : World) (h : HeldIn B N vs ls w) :
    Calls Try.prog 12 #[.pointer (some ⟨B + 1, 0, none⟩), .int .i64 a, .int .i64 r] w fun e w' => (letOut ls a r).ends e ∧ Left B N vs (letTo ls a r) w w' := by
  have hlen := h.len
  unfold letOut letTo
  by_cases ha : 0 ≤ a ∧ a < ls.length
  · obtain ⟨i, rfl⟩ : ∃ i : Nat, a = i := ⟨a.toNat, by omega⟩
    have hi : i < vs.length := by omega
    rw [if_pos ha, Int.toNat_natCast]
    by_cases hr : r ∈ ld ls i
    · rw [if_pos hr, if_pos ⟨ha.1, ha.2, hr⟩]
      exact let_ok B N vs ls i hi r hr hN w h
    · rw [if_neg hr, if_neg (fun x => hr x.2.2)]
      exact (let_free B N vs ls i hi r hr hN w h).mono fun e w' ⟨he, hw⟩ => by subst hw; exact ⟨he, Left.same h (Nat.le_refl N)⟩
  · rw [if_neg ha, if_neg (fun x => ha ⟨x.1, x.2.1⟩)]
    exact (let_no B N vs ls a r (by rw [← hlen]; exact ha) w h).mono fun e w' ⟨he, hw⟩ => by subst hw; exact ⟨he, Left.same h (Nat.le_refl N)⟩
end Go.Proofs.Ytkmfeenooidbhaa
