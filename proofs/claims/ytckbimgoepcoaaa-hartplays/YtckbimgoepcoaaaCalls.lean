/- What each call that turns a hart does; no conditions. -/
import Derived.Test.YtckbimgoepcoaaaTz
namespace Go.Proofs.Ytckbimgoepcoaaa
open Go.RowKit

theorem due_ok (p b : Nat) (hs : List H) (a : Nat) (ha : a < hs.length) (w : World) (h : HartsIn p b hs w) :
    Calls Try.prog 18 #[.pointer (some ⟨p, 0, none⟩), .int .i64 a] w fun e w' => e = .returned (.bool ((hd hs a).isOn && (hd hs a).mail != 0)) ∧ w' = w := by
  have A := at_ok p b hs a ha w h
  have B := isOn_w p b hs a ha w h
  have c2 := h.mail ha
  generalize (hd hs a).mail = m at *
  cases hh : (hd hs a).isOn
  · rw [hh] at B
    go_enter Try.func18, Try.ntmps18
    go_wp2_with fail
    refine A.mono ?_
    rintro e w1 ⟨rfl, rfl⟩
    go_wp2_with fail
    refine B.mono ?_
    rintro e w2 ⟨rfl, rfl⟩
    go_wp2
    go_ret
    exact ⟨rfl, rfl⟩
  · rw [hh] at B
    by_cases h0 : m = 0
    · subst h0
      go_enter Try.func18, Try.ntmps18
      go_wp2_with fail
      refine A.mono ?_
      rintro e w1 ⟨rfl, rfl⟩
      go_wp2_with fail
      refine B.mono ?_
      rintro e w2 ⟨rfl, rfl⟩
      go_wp2
      go_ret
      exact ⟨rfl, rfl⟩
    · have h1 : ¬ (m : Int) = 0 := by omega
      have h2 : ((m : Int) != 0) = true := by simp; omega
      go_enter Try.func18, Try.ntmps18
      go_wp2_with fail
      refine A.mono ?_
      rintro e w1 ⟨rfl, rfl⟩
      go_wp2_with fail
      refine B.mono ?_
      rintro e w2 ⟨rfl, rfl⟩
      go_wp2
      go_ret
      exact ⟨by simp [h0], rfl⟩

theorem push_ok (p b : Nat) (hs : List H) (a : Nat) (ha : a < hs.length) (w : World) (h : HartsIn p b hs w) (hn : (hd hs a).nest ≤ 1000000) :
    Calls Try.prog 8 #[.pointer (some ⟨p, 0, none⟩), .int .i64 a] w fun e w' => e = .returned (.tuple #[]) ∧ HartsIn p b (hs.set a ⟨(hd hs a).on, (hd hs a).nest + 1, (hd hs a).mail⟩) w' ∧ Kept (fun k => k = b) w w' := by
  have A := at_ok p b hs a ha w h
  have c1 := h.nest ha
  have f1 := free_at h.row (a * 3 + 1)
  have HH : Hid _ := h.putNest ha ((hd hs a).nest + 1)
  have HK : Hid (Kept (fun k => k = b) w (w.setCell ⟨b, a * 3 + 1, none⟩ (.int .i64 ((hd hs a).nest + 1 : Nat)))) := kept_set (X := fun k => k = b) (Kept.refl _ _) rfl _ _
  generalize (hd hs a).nest = n at *
  have hn' : (n : Int) ≤ 1000000 := by omega
  go_enter Try.func8, Try.ntmps8
  go_wp2_with fail
  refine A.mono ?_
  rintro e w1 ⟨rfl, rfl⟩
  go_wp2
  go_end0
  exact ⟨rfl, HH.out, HK.out⟩

theorem pop_ok (p b : Nat) (hs : List H) (a : Nat) (ha : a < hs.length) (w : World) (h : HartsIn p b hs w) (n : Nat) (hn : (hd hs a).nest = n + 1) (hn' : n ≤ 1000000) :
    Calls Try.prog 9 #[.pointer (some ⟨p, 0, none⟩), .int .i64 a] w fun e w' => e = .returned (.tuple #[]) ∧ HartsIn p b (hs.set a ⟨(hd hs a).on, n, (hd hs a).mail⟩) w' ∧ Kept (fun k => k = b) w w' := by
  have A := at_ok p b hs a ha w h
  have c1 := h.nest ha
  have f1 := free_at h.row (a * 3 + 1)
  have HH : Hid _ := h.putNest ha n
  have HK : Hid (Kept (fun k => k = b) w (w.setCell ⟨b, a * 3 + 1, none⟩ (.int .i64 n))) := kept_set (X := fun k => k = b) (Kept.refl _ _) rfl _ _
  rw [hn] at c1
  rw [Int.natCast_add] at c1
  have t : decide ((0 : Int) < (n : Int) + ((1 : Nat) : Int)) = true := by simp
  clear hn
  go_enter Try.func9, Try.ntmps9
  go_wp2_with fail
  refine A.mono ?_
  rintro e w1 ⟨rfl, rfl⟩
  go_wp2_with fail
  refine (must_ok _ _ _).mono ?_
  rintro e w2 ⟨rfl, rfl⟩
  go_wp2
  go_end0
  exact ⟨rfl, HH.out, HK.out⟩

theorem pop_no (p b : Nat) (hs : List H) (a : Nat) (ha : a < hs.length) (w : World) (h : HartsIn p b hs w) (hn : (hd hs a).nest = 0) :
    Calls Try.prog 9 #[.pointer (some ⟨p, 0, none⟩), .int .i64 a] w fun e w' => (Out.halts 4 a).ends e ∧ w' = w := by
  have A := at_ok p b hs a ha w h
  have c1 := h.nest ha
  rw [hn] at c1
  clear hn
  go_enter Try.func9, Try.ntmps9
  go_wp2_with fail
  refine A.mono ?_
  rintro e w1 ⟨rfl, rfl⟩
  go_wp2_with fail
  refine (must_not _ _ _).mono ?_
  rintro e w1 ⟨he, rfl⟩
  rcases ends_cases he with ⟨h, rfl⟩ | ⟨hst, v, older, hv, rfl, hold⟩
  · cases h
  · exact ⟨rfl, ends_stop hv hold, rfl⟩

theorem set_ok (p b : Nat) (hs : List H) (a : Nat) (x : Bool) (ha : a < hs.length) (w : World) (h : HartsIn p b hs w) (hn : (hd hs a).nest = 0) :
    Calls Try.prog 17 #[.pointer (some ⟨p, 0, none⟩), .int .i64 a, .bool x] w fun e w' => e = .returned (.tuple #[]) ∧ HartsIn p b (hs.set a ⟨x, (hd hs a).nest, (hd hs a).mail⟩) w' ∧ Kept (fun k => k = b) w w' := by
  have A := at_ok p b hs a ha w h
  have c0 := h.on ha
  have c1 := h.nest ha
  have f1 := free_at h.row (a * 3)
  have HH : Hid _ := h.putOn ha x
  have HK : Hid (Kept (fun k => k = b) w (w.setCell ⟨b, a * 3, none⟩ (.bool x))) := kept_set (X := fun k => k = b) (Kept.refl _ _) rfl _ _
  rw [hn] at c1
  clear hn
  go_enter Try.func17, Try.ntmps17
  go_wp2_with fail
  refine A.mono ?_
  rintro e w1 ⟨rfl, rfl⟩
  go_wp2_with fail
  refine (must_ok _ _ _).mono ?_
  rintro e w2 ⟨rfl, rfl⟩
  go_wp2
  go_end0
  exact ⟨rfl, HH.out, HK.out⟩

theorem set_no (p b : Nat) (hs : List H) (a : Nat) (x : Bool) (ha : a < hs.length) (w : World) (h : HartsIn p b hs w) (hn : (hd hs a).nest ≠ 0) :
    Calls Try.prog 17 #[.pointer (some ⟨p, 0, none⟩), .int .i64 a, .bool x] w fun e w' => (Out.halts 9 a).ends e ∧ w' = w := by
  have A := at_ok p b hs a ha w h
  have c1 := h.nest ha
  generalize (hd hs a).nest = n at *
  have hn' : ((n : Int) == 0) = false := by simp; omega
  go_enter Try.func17, Try.ntmps17
  go_wp2_with fail
  refine A.mono ?_
  rintro e w1 ⟨rfl, rfl⟩
  go_wp2_with fail
  refine (must_not _ _ _).mono ?_
  rintro e w1 ⟨he, rfl⟩
  rcases ends_cases he with ⟨h, rfl⟩ | ⟨hst, v, older, hv, rfl, hold⟩
  · cases h
  · exact ⟨rfl, ends_stop hv hold, rfl⟩

theorem post_ok (p b : Nat) (hs : List H) (a k : Nat) (ha : a < hs.length) (hk : k < 8) (w : World) (h : HartsIn p b hs w) (hm : (hd hs a).mail < 256) :
    Calls Try.prog 13 #[.pointer (some ⟨p, 0, none⟩), .int .i64 a, .int .i64 k] w fun e w' => e = .returned (.tuple #[]) ∧ HartsIn p b (hs.set a ⟨(hd hs a).on, (hd hs a).nest, mset (hd hs a).mail k⟩) w' ∧ Kept (fun k => k = b) w w' := by
  have A := at_ok p b hs a ha w h
  have c2 := h.mail ha
  have f2 := free_at h.row (a * 3 + 2)
  have HH : Hid _ := h.putMail ha (mset (hd hs a).mail k)
  have HK : Hid (Kept (fun k => k = b) w (w.setCell ⟨b, a * 3 + 2, none⟩ (.int .u8 (mset (hd hs a).mail k)))) := kept_set (X := fun k => k = b) (Kept.refl _ _) rfl _ _
  have HO : Hid _ := or_b (hd hs a).mail k hm hk
  generalize (hd hs a).mail = m at *
  have t0 : decide ((0 : Int) ≤ (k : Int)) = true := by simp
  have t1 : (k : Int) ≤ 7 := by omega
  go_enter Try.func13, Try.ntmps13
  go_wp2_with fail
  refine A.mono ?_
  rintro e w1 ⟨rfl, rfl⟩
  go_wp2_with fail
  refine (must_ok _ _ _).mono ?_
  rintro e w2 ⟨rfl, rfl⟩
  go_wp2
  go_region
  all_goals (try go_wp2)
  all_goals go_end0
  rw [HO.out]
  exact ⟨rfl, HH.out.kept (X := fun _ => False) (Kept.refl _ _).drew (by simp) (by simp), HK.out.drew⟩

theorem post_no (p b : Nat) (hs : List H) (a : Nat) (k : Int) (ha : a < hs.length) (hk : k < 0 ∨ 7 < k) (w : World) (h : HartsIn p b hs w) :
    Calls Try.prog 13 #[.pointer (some ⟨p, 0, none⟩), .int .i64 a, .int .i64 k] w fun e w' => (Out.halts 9 k).ends e ∧ w' = w := by
  have A := at_ok p b hs a ha w h
  by_cases h0 : k < 0
  · have t0 : decide ((0 : Int) ≤ k) = false := by simp; omega
    go_enter Try.func13, Try.ntmps13
    go_wp2_with fail
    refine A.mono ?_
    rintro e w1 ⟨rfl, rfl⟩
    go_wp2_with fail
    refine (must_not _ _ _).mono ?_
    rintro e w1 ⟨he, rfl⟩
    rcases ends_cases he with ⟨h, rfl⟩ | ⟨hst, v, older, hv, rfl, hold⟩
    · cases h
    · exact ⟨rfl, ends_stop hv hold, rfl⟩
  · have t0 : decide ((0 : Int) ≤ k) = true := by simp; omega
    have t1 : decide (k ≤ (7 : Int)) = false := by simp; omega
    go_enter Try.func13, Try.ntmps13
    go_wp2_with fail
    refine A.mono ?_
    rintro e w1 ⟨rfl, rfl⟩
    go_wp2_with fail
    refine (must_not _ _ _).mono ?_
    rintro e w1 ⟨he, rfl⟩
    rcases ends_cases he with ⟨h, rfl⟩ | ⟨hst, v, older, hv, rfl, hold⟩
    · cases h
    · exact ⟨rfl, ends_stop hv hold, rfl⟩

/-- Take of an empty mailbox. -/
theorem take_none (p b : Nat) (hs : List H) (a : Nat) (ha : a < hs.length) (w : World) (h : HartsIn p b hs w) (hm : (hd hs a).mail = 0) :
    Calls Try.prog 14 #[.pointer (some ⟨p, 0, none⟩), .int .i64 a] w fun e w' => e = .returned (.tuple #[.int .i64 0, .bool false]) ∧ w' = w := by
  have A := at_ok p b hs a ha w h
  have c2 := h.mail ha
  rw [hm] at c2
  clear hm
  go_enter Try.func14, Try.ntmps14
  go_wp2_with fail
  refine A.mono ?_
  rintro e w1 ⟨rfl, rfl⟩
  go_wp2
  exact bodyPost_ret (by simp [results, Try.results14, go_sem]) rfl ⟨rfl, rfl⟩

theorem take_some (p b : Nat) (hs : List H) (a : Nat) (ha : a < hs.length) (w : World) (h : HartsIn p b hs w) (hm : (hd hs a).mail < 256) (h0 : (hd hs a).mail ≠ 0) :
    Calls Try.prog 14 #[.pointer (some ⟨p, 0, none⟩), .int .i64 a] w fun e w' => e = .returned (.tuple #[.int .i64 (mleast (hd hs a).mail), .bool true]) ∧
      HartsIn p b (hs.set a ⟨(hd hs a).on, (hd hs a).nest, mclr (hd hs a).mail (mleast (hd hs a).mail)⟩) w' ∧ Kept (fun k => k = b) w w' := by
  have A := at_ok p b hs a ha w h
  have B := tz_w (hd hs a).mail hm w
  have c2 := h.mail ha
  have f2 := free_at h.row (a * 3 + 2)
  have hl := mleast_lt hm h0
  have HH : Hid _ := h.putMail ha (mclr (hd hs a).mail (mleast (hd hs a).mail))
  have HK : Hid (Kept (fun k => k = b) w (w.setCell ⟨b, a * 3 + 2, none⟩ (.int .u8 (mclr (hd hs a).mail (mleast (hd hs a).mail))))) := kept_set (X := fun k => k = b) (Kept.refl _ _) rfl _ _
  have HO : Hid _ := clr_b (hd hs a).mail _ hm hl
  generalize (hd hs a).mail = m at *
  generalize mleast m = k at *
  have t1 : (k : Int) ≤ 7 := by omega
  have t2 : ((m : Int) == 0) = false := by simp; omega
  have t3 : ¬ (m : Int) = 0 := by omega
  clear hm h0
  go_enter Try.func14, Try.ntmps14
  go_wp2_with fail
  refine A.mono ?_
  rintro e w1 ⟨rfl, rfl⟩
  go_wp2_with fail
  refine B.mono ?_
  rintro e w2 ⟨rfl, rfl⟩
  go_wp2
  go_region
  all_goals (try go_wp2)
  rw [HO.out]
  exact bodyPost_ret (by simp [results, Try.results14, go_sem]) rfl ⟨rfl, HH.out.kept (X := fun _ => False) (Kept.refl _ _).drew (by simp) (by simp), HK.out.drew⟩

/-- A call that asks for a hart that there is not. -/
theorem set_gone (p b : Nat) (hs : List H) (a : Int) (x : Bool) (ha : a < 0 ∨ (hs.length : Int) ≤ a) (w : World) (h : HartsIn p b hs w) :
    Calls Try.prog 17 #[.pointer (some ⟨p, 0, none⟩), .int .i64 a, .bool x] w fun e w' => (Out.halts 3 a).ends e ∧ w' = w := by
  have A := at_no p b hs a ha w h
  go_enter Try.func17, Try.ntmps17
  go_wp2_with fail
  refine A.mono ?_
  rintro e w1 ⟨he, rfl⟩
  rcases ends_cases he with ⟨h, rfl⟩ | ⟨hst, v, older, hv, rfl, hold⟩
  · cases h
  · exact ⟨rfl, ends_stop hv hold, rfl⟩

theorem push_gone (p b : Nat) (hs : List H) (a : Int) (ha : a < 0 ∨ (hs.length : Int) ≤ a) (w : World) (h : HartsIn p b hs w) :
    Calls Try.prog 8 #[.pointer (some ⟨p, 0, none⟩), .int .i64 a] w fun e w' => (Out.halts 3 a).ends e ∧ w' = w := by
  have A := at_no p b hs a ha w h
  go_enter Try.func8, Try.ntmps8
  go_wp2_with fail
  refine A.mono ?_
  rintro e w1 ⟨he, rfl⟩
  rcases ends_cases he with ⟨h, rfl⟩ | ⟨hst, v, older, hv, rfl, hold⟩
  · cases h
  · exact ⟨rfl, ends_stop hv hold, rfl⟩

theorem pop_gone (p b : Nat) (hs : List H) (a : Int) (ha : a < 0 ∨ (hs.length : Int) ≤ a) (w : World) (h : HartsIn p b hs w) :
    Calls Try.prog 9 #[.pointer (some ⟨p, 0, none⟩), .int .i64 a] w fun e w' => (Out.halts 3 a).ends e ∧ w' = w := by
  have A := at_no p b hs a ha w h
  go_enter Try.func9, Try.ntmps9
  go_wp2_with fail
  refine A.mono ?_
  rintro e w1 ⟨he, rfl⟩
  rcases ends_cases he with ⟨h, rfl⟩ | ⟨hst, v, older, hv, rfl, hold⟩
  · cases h
  · exact ⟨rfl, ends_stop hv hold, rfl⟩

theorem post_gone (p b : Nat) (hs : List H) (a k : Int) (ha : a < 0 ∨ (hs.length : Int) ≤ a) (w : World) (h : HartsIn p b hs w) :
    Calls Try.prog 13 #[.pointer (some ⟨p, 0, none⟩), .int .i64 a, .int .i64 k] w fun e w' => (Out.halts 3 a).ends e ∧ w' = w := by
  have A := at_no p b hs a ha w h
  go_enter Try.func13, Try.ntmps13
  go_wp2_with fail
  refine A.mono ?_
  rintro e w1 ⟨he, rfl⟩
  rcases ends_cases he with ⟨h, rfl⟩ | ⟨hst, v, older, hv, rfl, hold⟩
  · cases h
  · exact ⟨rfl, ends_stop hv hold, rfl⟩

theorem take_gone (p b : Nat) (hs : List H) (a : Int) (ha : a < 0 ∨ (hs.length : Int) ≤ a) (w : World) (h : HartsIn p b hs w) :
    Calls Try.prog 14 #[.pointer (some ⟨p, 0, none⟩), .int .i64 a] w fun e w' => (Out.halts 3 a).ends e ∧ w' = w := by
  have A := at_no p b hs a ha w h
  go_enter Try.func14, Try.ntmps14
  go_wp2_with fail
  refine A.mono ?_
  rintro e w1 ⟨he, rfl⟩
  rcases ends_cases he with ⟨h, rfl⟩ | ⟨hst, v, older, hv, rfl, hold⟩
  · cases h
  · exact ⟨rfl, ends_stop hv hold, rfl⟩

theorem due_gone (p b : Nat) (hs : List H) (a : Int) (ha : a < 0 ∨ (hs.length : Int) ≤ a) (w : World) (h : HartsIn p b hs w) :
    Calls Try.prog 18 #[.pointer (some ⟨p, 0, none⟩), .int .i64 a] w fun e w' => (Out.halts 3 a).ends e ∧ w' = w := by
  have A := at_no p b hs a ha w h
  go_enter Try.func18, Try.ntmps18
  go_wp2_with fail
  refine A.mono ?_
  rintro e w1 ⟨he, rfl⟩
  rcases ends_cases he with ⟨h, rfl⟩ | ⟨hst, v, older, hv, rfl, hold⟩
  · cases h
  · exact ⟨rfl, ends_stop hv hold, rfl⟩
end Go.Proofs.Ytckbimgoepcoaaa
