/- What is asked of the holders, and changes nothing; no conditions. -/
import Derived.Test.YtkmfeenooidbhaaHeld
namespace Go.Proofs.Ytkmfeenooidbhaa
open Go.RowKit

theorem of_ok (B N : Nat) (vs : List Value) (ls : List (List Int)) (i : Nat) (hi : i < vs.length) (w : World) (h : HeldIn B N vs ls w) :
    Calls Try.prog 23 #[.pointer (some ⟨B + 1, 0, none⟩), .int .i64 i] w fun e w' => e = .returned (.pointer (some ⟨B, i, none⟩)) ∧ w' = w := by
  have c0 := cell_at h.box (i := 0) rfl
  have hi' : (i : Int) < (vs.length : Int) := by omega
  have hd : decide ((0 : Int) ≤ (i : Int)) = true := by simp
  clear h
  go_enter Try.func23, Try.ntmps23
  go_wp2_with fail
  refine (must_ok _ _ w).mono ?_
  rintro e w1 ⟨rfl, rfl⟩
  go_wp2
  go_ret
  exact ⟨rfl, rfl⟩

theorem of_no (B N : Nat) (vs : List Value) (ls : List (List Int)) (a : Int) (ha : ¬ (0 ≤ a ∧ a < vs.length)) (w : World) (h : HeldIn B N vs ls w) :
    Calls Try.prog 23 #[.pointer (some ⟨B + 1, 0, none⟩), .int .i64 a] w fun e w' => (Out.halts 3 a).ends e ∧ w' = w := by
  have c0 := cell_at h.box (i := 0) rfl
  by_cases h0 : a < 0
  · have hd : decide ((0 : Int) ≤ a) = false := by simp; omega
    go_enter Try.func23, Try.ntmps23
    go_wp2_with fail
    refine (must_not _ _ w).mono ?_
    rintro e w1 ⟨he, rfl⟩
    rcases ends_cases he with ⟨h, rfl⟩ | ⟨hst, v, older, hv, rfl, hold⟩
    · cases h
    · exact ⟨rfl, ends_stop hv hold, rfl⟩
  · have hd : decide ((0 : Int) ≤ a) = true := by simp; omega
    have h1 : (vs.length : Int) ≤ a := by omega
    have hd1 : decide (a < (vs.length : Int)) = false := by simp; omega
    go_enter Try.func23, Try.ntmps23
    go_wp2_with fail
    refine (must_not _ _ w).mono ?_
    rintro e w1 ⟨he, rfl⟩
    rcases ends_cases he with ⟨h, rfl⟩ | ⟨hst, v, older, hv, rfl, hold⟩
    · cases h
    · exact ⟨rfl, ends_stop hv hold, rfl⟩

theorem highest_w (x : Value) (l : List Int) (hl : l.length ≤ 1000000) (w : World) (h : SrcI x l w) :
    Calls Try.prog 24 #[x] w fun e w' => e = .returned (.int .i64 (top l)) ∧ w' = w := by
  by_cases h0 : l.length = 0
  · have ht : top l = -1 := by unfold top; rw [if_pos h0]
    have hx : ∃ a c, x = .slice a 0 c := by
      rcases h.form with ⟨b, o, c, e⟩ | ⟨e, _⟩
      · exact ⟨_, _, by rw [e, h0]⟩
      · exact ⟨_, _, e⟩
    obtain ⟨a, c, rfl⟩ := hx
    rw [ht]
    clear h ht
    go_enter Try.func24, Try.ntmps24
    go_wp2
    go_ret
    exact ⟨rfl, rfl⟩
  · have ht : top l = zd l (l.length - 1) := by unfold top; rw [if_neg h0]
    rcases h.form with ⟨b, o, c, rfl⟩ | ⟨_, rfl⟩
    · have c1 := h.cell (j := l.length - 1) (by omega)
      rw [ht]
      generalize zd l (l.length - 1) = y at *
      obtain ⟨m, hm⟩ : ∃ m : Nat, l.length = m + 1 := ⟨l.length - 1, by omega⟩
      rw [hm, Nat.add_sub_cancel] at c1
      rw [hm]
      clear h ht h0
      have hm1 : m + 1 ≤ 1000000 := by omega
      clear hm hl
      go_enter Try.func24, Try.ntmps24
      go_wp2
      go_ret
      exact ⟨rfl, rfl⟩
    · simp at h0

theorem cmpnan_w (x : Int) (w : World) : Calls Try.prog 34 #[.int .i64 x] w fun e w' => e = .returned (.bool false) ∧ w' = w := by
  go_enter Try.func34, Try.ntmps34
  go_wp2
  go_ret
  exact ⟨by simp, rfl⟩

theorem nan_w (x : Int) (w : World) : Calls Try.prog 33 #[.int .i64 x] w fun e w' => e = .returned (.bool false) ∧ w' = w := by
  go_enter Try.func33, Try.ntmps33
  go_wp2
  go_ret
  exact ⟨by simp, rfl⟩

theorem less_w (x y : Int) (w : World) : Calls Try.prog 32 #[.int .i64 x, .int .i64 y] w fun e w' => e = .returned (.bool (decide (x < y))) ∧ w' = w := by
  go_enter Try.func32, Try.ntmps32
  go_wp2_with (go_at_call 34; refine (cmpnan_w _ _).mono ?_; rintro e w' ⟨rfl, rfl⟩)
  go_ret
  exact ⟨rfl, rfl⟩

set_option maxHeartbeats 1600000 in
theorem search_n (ao : Option Addr) (b o c n : Nat) (l : List Int) (r : Int) (HN : Hid (l.length = n)) (hao : 0 < n → ao = some ⟨b, o, none⟩) (R : Hid (Rising l)) (hl : n ≤ 1000000) (w : World) (hc : ∀ j, j < n → w.cell? ⟨b, o + j, none⟩ = some (.int .i64 (zd l j))) :
    Calls Try.prog 28 #[.slice ao n c, .int .i64 r] w fun e w' => (∃ i : Nat, e = .returned (.tuple #[.int .i64 i, .bool (isIn l r)]) ∧ (r ∈ l → i < n ∧ zd l i = r)) ∧ w' = w := by
  go_enter Try.func28, Try.ntmps28
  go_wp2
  go_loop [7, 8] (fun s t => ∃ lo hi : Nat, s = .int .i64 lo ∧ t = .int .i64 hi ∧ lo ≤ hi ∧ hi ≤ n ∧ Hid ((∀ t, t < lo → zd l t < r) ∧ (∀ t, hi ≤ t → t < n → r ≤ zd l t))) (fun s t => (intOf t - intOf s).toNat)
  case atStart => exact ⟨0, n, rfl, rfl, Nat.zero_le _, Nat.le_refl _, fun t ht => by omega, fun t h1 h2 => by omega⟩
  case round =>
    obtain ⟨lo, hi, rfl, rfl, hlh, hin, I⟩ := hrel
    by_cases hlt : lo < hi
    · have cm := hc ((lo + hi) / 2) (by omega)
      obtain rfl := hao (by omega)
      have h7 : (lo + hi) / 2 < n := by omega
      clear hc hao
      generalize hy : zd l ((lo + hi) / 2) = y at cm
      have Y : Hid (zd l ((lo + hi) / 2) = y) := hy
      clear hy
      go_wp2_with (first | (go_at_call 32; refine (less_w _ _ _).mono ?_; rintro e w' ⟨rfl, rfl⟩))
      · refine ⟨⟨(lo + hi) / 2 + 1, hi, by rw [show ((lo : Int) + (hi : Int)) / 2 + 1 = (((lo + hi) / 2 + 1 : Nat) : Int) by omega], rfl, by omega, hin, fun t ht => ?_, I.out.2⟩, by simp [intOf]; omega⟩
        rcases Nat.lt_or_ge t ((lo + hi) / 2) with h8 | h8
        · have h9 := R.out t ((lo + hi) / 2) h8 (by have := HN.out; omega)
          rw [Y.out] at h9
          omega
        · rw [show t = (lo + hi) / 2 by omega, Y.out]; assumption
      · refine ⟨⟨lo, (lo + hi) / 2, rfl, by rw [show ((lo : Int) + (hi : Int)) / 2 = (((lo + hi) / 2 : Nat) : Int) by omega], by omega, by omega, I.out.1, fun t h8 h9 => ?_⟩, by simp [intOf]; omega⟩
        rcases Nat.lt_or_ge ((lo + hi) / 2) t with h8 | h8
        · have h9 := R.out ((lo + hi) / 2) t h8 (by have := HN.out; omega)
          rw [Y.out] at h9
          omega
        · rw [show t = (lo + hi) / 2 by omega, Y.out]; assumption
    · obtain rfl : lo = hi := by omega
      by_cases hend : lo < n
      · have cm := hc lo hend
        obtain rfl := hao (by omega)
        clear hc hao
        generalize hy : zd l lo = y at cm
        have Y : Hid (zd l lo = y) := hy
        clear hy
        by_cases hyr : y = r
        · subst hyr
          have hin' : Hid (isIn l y = true) := isIn_yes (by rw [← Y.out]; exact zd_mem (by rw [HN.out]; exact hend))
          go_wp2_with (first | (go_at_call 33; refine (nan_w _ _).mono ?_; rintro e w' ⟨rfl, rfl⟩))
          go_ret2
          exact ⟨⟨lo, by rw [hin'.out]; rfl, fun _ => ⟨hend, Y.out⟩⟩, rfl⟩
        · have hno : r ∉ l := by
            intro hm
            obtain ⟨t, ht, e⟩ := mem_zd hm
            rw [HN.out] at ht
            rcases Nat.lt_trichotomy t lo with h8 | h8 | h8
            · have := I.out.1 t h8; omega
            · subst h8; rw [Y.out] at e; exact hyr e
            · have h9 := R.out lo t h8 (by rw [HN.out]; exact ht)
              have := I.out.2 lo (Nat.le_refl _) hend
              rw [Y.out] at h9 this
              omega
          have hd : (y == r) = false := by simpa using hyr
          go_wp2_with (first | (go_at_call 33; refine (nan_w _ _).mono ?_; rintro e w' ⟨rfl, rfl⟩))
          go_ret2
          exact ⟨⟨lo, by rw [isIn_no hno]; rfl, fun h => absurd h hno⟩, rfl⟩
      · have hno : r ∉ l := by
          intro hm
          obtain ⟨t, ht, e⟩ := mem_zd hm
          rw [HN.out] at ht
          have := I.out.1 t (by omega)
          omega
        clear hc hao
        go_wp2
        go_ret2
        exact ⟨⟨lo, by rw [isIn_no hno]; rfl⟩, rfl⟩

theorem search_w (x : Value) (l : List Int) (r : Int) (hr : Rising l) (hl : l.length ≤ 1000000) (w : World) (h : SrcI x l w) :
    Calls Try.prog 28 #[x, .int .i64 r] w fun e w' => (∃ i : Nat, e = .returned (.tuple #[.int .i64 i, .bool (isIn l r)]) ∧ (r ∈ l → i < l.length ∧ zd l i = r)) ∧ w' = w := by
  rcases h.form with ⟨b, o, c, rfl⟩ | ⟨rfl, rfl⟩
  · exact search_n _ b o c l.length l r rfl (fun _ => rfl) hr hl w (fun j hj => h.cell hj)
  · exact search_n none 0 0 0 0 [] r rfl (fun h => by omega) hr hl w (fun j hj => by omega)

theorem has_w (x : Value) (l : List Int) (r : Int) (hr : Rising l) (hl : l.length ≤ 1000000) (w : World) (h : SrcI x l w) :
    Calls Try.prog 30 #[x, .int .i64 r] w fun e w' => e = .returned (.bool (isIn l r)) ∧ w' = w := by
  have S := search_w x l r hr hl w h
  clear h
  go_enter Try.func30, Try.ntmps30
  go_wp2_with fail
  refine S.mono ?_
  rintro e w1 ⟨⟨i, rfl, _⟩, rfl⟩
  go_wp2
  go_ret
  exact ⟨rfl, rfl⟩

theorem HeldIn.src {B N : Nat} {vs : List Value} {ls : List (List Int)} {w : World} (h : HeldIn B N vs ls w) {i : Nat} (hi : i < vs.length) : SrcI (vd vs i) (ld ls i) w := own_src (h.each i hi)

set_option maxHeartbeats 800000 in
theorem owner_w (B N : Nat) (vs : List Value) (ls : List (List Int)) (r : Int) (hN : N ≤ 1000) (hn : vs.length ≤ 64) (w : World) (h : HeldIn B N vs ls w) :
    Calls Try.prog 15 #[.pointer (some ⟨B + 1, 0, none⟩), .int .i64 r] w fun e w' => e = .returned (.int .i64 (ownr ls r)) ∧ w' = w := by
  have c0 := cell_at h.box (i := 0) rfl
  have hlen := h.len
  have HW : Hid (HeldIn B N vs ls w) := h
  clear h
  go_enter Try.func15, Try.ntmps15
  go_wp2
  go_loop [12] (fun s => ∃ i : Nat, s = .int .i64 i ∧ i ≤ vs.length ∧ Hid (∀ j, j < i → r ∉ ld ls j)) (fun s => (vs.length - (intOf s).toNat))
  case atStart => exact ⟨0, rfl, Nat.zero_le _, fun j hj => by omega⟩
  case round =>
    obtain ⟨i, rfl, hi, I⟩ := hrel
    by_cases hlt : i < vs.length
    · have c1 := HW.out.list hlt
      have S := has_w (vd vs i) (ld ls i) r (HW.out.good.rise i (by omega)) (by have := HW.out.cap i hlt; omega) w (HW.out.src hlt)
      have t1 : (i : Int) < (vs.length : Int) := by omega
      by_cases hm : r ∈ ld ls i
      · rw [isIn_yes hm] at S
        go_wp2_with fail
        refine S.mono ?_
        rintro e w1 ⟨rfl, rfl⟩
        go_wp2
        go_ret
        exact ⟨by rw [ownr_first (by omega) hm I.out]; rfl, rfl⟩
      · rw [isIn_no hm] at S
        go_wp2_with fail
        refine S.mono ?_
        rintro e w1 ⟨rfl, rfl⟩
        go_wp2
        refine ⟨⟨i + 1, by go_num, by omega, fun j hj => ?_⟩, by simp [intOf]; omega⟩
        rcases Nat.lt_or_ge j i with h8 | h8
        · exact I.out j h8
        · rw [show j = i by omega]; exact hm
    · have e1 : Hid (ownr ls r = -1) := ownr_none (fun j hj => I.out j (by omega))
      go_wp2
      go_ret
      exact ⟨by rw [e1.out]; rfl, rfl⟩

theorem holds_w (B N : Nat) (vs : List Value) (ls : List (List Int)) (i : Nat) (hi : i < vs.length) (r : Int) (hN : N ≤ 1000) (w : World) (h : HeldIn B N vs ls w) :
    Calls Try.prog 18 #[.pointer (some ⟨B + 1, 0, none⟩), .int .i64 i, .int .i64 r] w fun e w' => e = .returned (.bool (isIn (ld ls i) r)) ∧ w' = w := by
  have c1 := h.list hi
  have S := has_w (vd vs i) (ld ls i) r (h.good.rise i (by have := h.len; omega)) (by have := h.cap i hi; omega) w (h.src hi)
  have O := of_ok B N vs ls i hi w h
  clear h
  go_enter Try.func18, Try.ntmps18
  go_wp2_with fail
  refine O.mono ?_
  rintro e w1 ⟨rfl, rfl⟩
  go_wp2_with fail
  refine S.mono ?_
  rintro e w1 ⟨rfl, rfl⟩
  go_wp2
  go_ret
  exact ⟨rfl, rfl⟩
end Go.Proofs.Ytkmfeenooidbhaa
