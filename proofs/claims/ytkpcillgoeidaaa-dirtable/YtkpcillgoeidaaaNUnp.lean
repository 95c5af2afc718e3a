
/- What Unpack does when it is called; no conditions. -/
import Derived.Test.YtkpcillgoeidaaaNPack
import Derived.IntWalk
namespace Go.Proofs.Ytkpcillgoeidaaa.Nm
set_option maxRecDepth 100000
open Go.RowKit

theorem or16 (x y : UInt8) : bits .or .i64 (IntKind.i64.wrap x.toNat) (IntKind.i64.wrap (IntKind.i64.wrap y.toNat * 256)) = (x.toNat : Int) + y.toNat * 256 := by
  have hx := byte_lt x
  have hy := byte_lt y
  generalize x.toNat = m at *
  generalize y.toNat = k at *
  have e1 : IntKind.i64.wrap (m : Int) = m := by rw [IntKind.wrap_i64]; omega
  have e2 : IntKind.i64.wrap (k : Int) = k := by rw [IntKind.wrap_i64]; omega
  have e3 : IntKind.i64.wrap ((k : Int) * 256) = ((k * 256 : Nat) : Int) := by rw [IntKind.wrap_i64]; omega
  rw [e1, e2, e3]
  show IntKind.i64.wrap ((BitVec.ofInt 64 (m : Int) ||| BitVec.ofInt 64 ((k * 256 : Nat) : Int)).toNat : Int) = _
  rw [BitVec.ofInt_natCast, BitVec.ofInt_natCast, BitVec.toNat_or, BitVec.toNat_ofNat, BitVec.toNat_ofNat, Nat.mod_eq_of_lt (by omega), Nat.mod_eq_of_lt (by omega)]
  have h := Nat.two_pow_add_eq_or_of_lt (i := 8) (b := m) (by omega) k
  rw [Nat.or_comm, Nat.mul_comm k 256, show (256 : Nat) = 2 ^ 8 from rfl, ← h, IntKind.wrap_i64]
  omega

theorem or16w (x y : UInt8) : bits .or .i64 (wrap64 x.toNat) (wrap64 (wrap64 y.toNat * 256)) = (x.toNat : Int) + y.toNat * 256 := by
  rw [← Go.IntWalk.i64_left, ← Go.IntWalk.i64_left, ← Go.IntWalk.i64_left]
  exact or16 x y

theorem ret_si {s : ByteArray} {a b : Int} (h : a = b) : Ending.returned (.tuple #[.string s, .int .i64 a]) = .returned (.tuple #[.string s, .int .i64 b]) := by rw [h]

set_option maxHeartbeats 1000000 in
theorem unpack_w (s : ByteArray) (w : World) :
    Calls Try.prog 67 #[.string s] w fun e w' => e = .returned (.tuple #[.string (bs (nameF (bl s))), .int .i64 (ptrF (bl s))]) ∧ Kept (fun _ => False) w w' := by
  by_cases h : s.size = 16
  · have hl : (bl s).length = 16 := by rw [bl_len]; exact h
    have q : ((s.size : Int) != 16) = false := by rw [h]; rfl
    obtain ⟨t, ht⟩ : ∃ t, s.extract 0 14 = t := ⟨_, rfl⟩
    have htl : bl t = (bl s).take 14 := by rw [← ht, bl_extract]; rfl
    have hts : t.size = 14 := by rw [← bl_len, htl, List.length_take, hl]; rfl
    have A := ahead_w t 0 0 rfl (by omega)
    obtain ⟨a, ha⟩ : ∃ a, ahd (bl t) 0 = a := ⟨_, rfl⟩
    have hle := ahd_le (bl t) 0
    rw [bl_len, ha] at hle
    rw [ha] at A
    obtain ⟨u, hu⟩ : ∃ u, s.extract 0 a = u := ⟨_, rfl⟩
    have hul : bl u = (bl s).take a := by rw [← hu, bl_extract]; rfl
    have hn : nameF (bl s) = bl u := by
      unfold nameF
      rw [if_pos hl, ← htl, ha, hul]
    have C := clone_w u (by rw [← bl_len, hul, List.length_take]; omega)
    have b14 := bl_at s (i := 14) (by omega)
    have b15 := bl_at s (i := 15) (by omega)
    obtain ⟨x14, h14⟩ : ∃ x : UInt8, s[14] = x := ⟨_, rfl⟩
    obtain ⟨x15, h15⟩ : ∃ x : UInt8, s[15] = x := ⟨_, rfl⟩
    rw [h14] at b14
    rw [h15] at b15
    have hp : ptrF (bl s) = x14.toNat + x15.toNat * 256 := by
      unfold ptrF numF
      rw [if_pos hl, List.getD, b14, List.getD, b15]; rfl
    rw [hn, bs_bl, hp]
    have t1 : (14 : Int) < s.size := by omega
    have t2 : (15 : Int) < s.size := by omega
    have t3 : (14 : Int) ≤ s.size := by omega
    have t4 : (a : Int) ≤ s.size := by omega
    clear htl ha hul hn b14 b15 hp hl
    go_enter Try.func67, Try.ntmps67
    go_wp2_with fail
    refine (A _).mono ?_
    rintro e w1 ⟨rfl, hw⟩
    have hw' := hw.symm
    subst hw'
    clear hw
    go_wp2_with fail
    go_region_held3 (fun w' => Kept (fun _ => False) w w') (first | exact (Kept.refl _ _).drew | exact hk2) (first | (go_at_call 80; refine (C _).mono ?_; rintro e w2 ⟨rfl, hk⟩; have hk2 := Kept.thru (by assumption) hk))
    all_goals
      go_wp2
      exact bodyPost_ret (by simp [results, Try.results67, go_sem]) rfl ⟨ret_si (or16 x14 x15), by assumption⟩
  · have hl : ¬ (bl s).length = 16 := by rw [bl_len]; exact h
    have q : ((s.size : Int) != 16) = true := by simp; omega
    have hn : nameF (bl s) = [] := by unfold nameF; rw [if_neg hl]
    have hp : ptrF (bl s) = 0 := by unfold ptrF; rw [if_neg hl]
    rw [hn, hp]
    clear h hl hn hp
    go_enter Try.func67, Try.ntmps67
    go_wp2
    exact bodyPost_ret (by simp [results, Try.results67, go_sem]; rfl) rfl ⟨rfl, Kept.refl _ _⟩

theorem nought_iff (l : Bs) (n : Nat) (x : UInt8) (h : l[n]? = some x) (hn : n ≤ ahd l 0) : x = 0 ↔ ahd l 0 = n := by
  constructor
  · rintro rfl
    have := ahd_stop h
    omega
  · intro e
    rcases Classical.em (x = 0) with h0 | h0
    · exact h0
    · have := ahd_go (Nat.le_of_eq e.symm) h h0
      omega

set_option maxHeartbeats 1000000 in
theorem unpack_r (s : ByteArray) (w : World) :
    Calls Try.prog 54 #[.string s] w fun e w' => e = .returned (.tuple #[.string (bs (nameF (bl s))), .int .i64 (ptrF (bl s))]) ∧ Kept (fun _ => False) w w' := by
  by_cases h : s.size = 16
  · have hl : (bl s).length = 16 := by rw [bl_len]; exact h
    have q : ((s.size : Int) != 16) = false := by rw [h]; rfl
    obtain ⟨t, ht⟩ : ∃ t, (bl s).take 14 = t := ⟨_, rfl⟩
    have htl : t.length = 14 := by rw [← ht, List.length_take, hl]; rfl
    obtain ⟨a, ha⟩ : ∃ a, ahd t 0 = a := ⟨_, rfl⟩
    have hle := ahd_le t 0
    rw [ha, htl] at hle
    obtain ⟨u, hu⟩ : ∃ u, s.extract 0 a = u := ⟨_, rfl⟩
    have hul : bl u = (bl s).take a := by rw [← hu, bl_extract]; rfl
    have hn : nameF (bl s) = bl u := by
      unfold nameF
      rw [if_pos hl, ht, ha, hul]
    have b14 := bl_at s (i := 14) (by omega)
    have b15 := bl_at s (i := 15) (by omega)
    obtain ⟨x14, h14⟩ : ∃ x : UInt8, s[14] = x := ⟨_, rfl⟩
    obtain ⟨x15, h15⟩ : ∃ x : UInt8, s[15] = x := ⟨_, rfl⟩
    rw [h14] at b14
    rw [h15] at b15
    have hp : ptrF (bl s) = x14.toNat + x15.toNat * 256 := by
      unfold ptrF numF
      rw [if_pos hl, List.getD, b14, List.getD, b15]; rfl
    rw [hn, bs_bl, hp]
    have t1 : (14 : Int) < s.size := by omega
    have t2 : (15 : Int) < s.size := by omega
    have t4 : (a : Int) ≤ s.size := by omega
    have HT : Hid ((bl s).take 14 = t ∧ ahd t 0 = a) := ⟨ht, ha⟩
    clear ht ha hul hn b14 b15 hp hl
    go_enter Try.func54, Try.ntmps54
    go_wp2
    go_loop [4] (fun x => ∃ i : Nat, x = .int .i64 i ∧ i ≤ a) (fun x => 20 - (intOf x).toNat)
    case atStart => exact ⟨0, rfl, Nat.zero_le _⟩
    case round =>
      obtain ⟨i, rfl, hi⟩ := hrel
      have hti : ∀ hh : i < s.size, i < 14 → t[i]? = some (s[i]'hh) := fun hh h14 => by
        rw [← HT.out.1, List.getElem?_take, if_pos h14]
        exact bl_at s hh
      by_cases hlt : i < a
      · have t5 : (i : Int) < 14 := by omega
        have t6 : (i : Int) < s.size := by omega
        have hat := hti (by omega) (by omega)
        obtain ⟨x, hx⟩ : ∃ x : UInt8, s[i] = x := ⟨_, rfl⟩
        rw [hx] at hat
        have hne : x ≠ 0 := fun e => by
          have := ahd_stop (b := 0) (e ▸ hat)
          have := HT.out.2
          omega
        have q2 : ((x.toNat : Int) != 0) = true := by
          rw [bne_iff_ne]
          intro e
          exact hne (UInt8.toNat_inj.1 (by rw [show UInt8.toNat 0 = 0 from rfl]; omega))
        clear hti
        go_wp2
        go_round
        case rel => exact ⟨i + 1, by simp, by omega⟩
        case measure => simp [intOf]; omega
      · obtain rfl : i = a := by omega
        by_cases h14 : i = 14
        · have t5 : ¬ (i : Int) < 14 := by omega
          clear hti h14
          go_wp2_with fail
          go_quiet (fail)
          go_wp2
          exact bodyPost_ret (by simp [results, Try.results54, go_sem]) rfl ⟨ret_si (or16w x14 x15), kept_drewN _ _⟩
        · have t5 : (i : Int) < 14 := by omega
          have t6 : (i : Int) < s.size := by omega
          have hat := hti (by omega) (by omega)
          obtain ⟨x, hx⟩ : ∃ x : UInt8, s[i] = x := ⟨_, rfl⟩
          rw [hx] at hat
          have hz : x = 0 := (nought_iff t i x hat (by have := HT.out.2; omega)).2 HT.out.2
          subst hz
          clear hti h14
          go_wp2_with fail
          go_quiet (fail)
          go_wp2
          exact bodyPost_ret (by simp [results, Try.results54, go_sem]) rfl ⟨ret_si (or16w x14 x15), kept_drewN _ _⟩
  · have hl : ¬ (bl s).length = 16 := by rw [bl_len]; exact h
    have q : ((s.size : Int) != 16) = true := by simp; omega
    have hn : nameF (bl s) = [] := by unfold nameF; rw [if_neg hl]
    have hp : ptrF (bl s) = 0 := by unfold ptrF; rw [if_neg hl]
    rw [hn, hp]
    clear h hl hn hp
    go_enter Try.func54, Try.ntmps54
    go_wp2
    exact bodyPost_ret (by simp [results, Try.results54, go_sem]; rfl) rfl ⟨rfl, Kept.refl _ _⟩
end Go.Proofs.Ytkpcillgoeidaaa.Nm
