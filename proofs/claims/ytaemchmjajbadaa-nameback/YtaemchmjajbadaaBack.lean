/- A right name and a number of two bytes come back; an entry has as many bytes as it must; longer ones are cut; no conditions. -/
import Derived.Test.YtaemchmjajbadaaRuns
namespace Go.Proofs.Ytaemchmjajbadaa
open Go.RowKit

/-- What comes back of a name. -/
def keptF (l : Bs) : Bs := (l.take 14).takeWhile (· != 0)
theorem kept_len (l : Bs) : (keptF l).length ≤ 14 := by
  have h := (List.takeWhile_sublist (l := l.take 14) (· != (0 : UInt8))).length_le
  rw [List.length_take] at h
  unfold keptF; omega
theorem kept_self {l : Bs} (h1 : l.length ≤ 14) (h2 : (0 : UInt8) ∉ l) : keptF l = l := by
  unfold keptF
  rw [List.take_of_length_le h1, ← take_ahd, ahd_full.2 h2, List.take_of_length_le (Nat.le_refl _)]
theorem kept_free (l : Bs) : (0 : UInt8) ∉ keptF l := by
  unfold keptF
  rw [← take_ahd]
  exact not_mem_take
theorem kept_again (l : Bs) : keptF (keptF l) = keptF l := kept_self (kept_len l) (kept_free l)
theorem kept_right {l : Bs} (h : rightF l = true) : keptF l = l := by
  have := right_iff.1 h
  exact kept_self this.2.1 this.2.2.2

theorem ptr_pack (l : Bs) (n : Int) : ptrF (packF l n) = n % 65536 := by
  unfold ptrF
  rw [if_pos (pack_len l n), num_pack]

theorem and16 (n : Int) : bits .and .i64 n 65535 = n % 65536 := by
  show IntKind.i64.wrap ((BitVec.ofInt 64 n &&& BitVec.ofInt 64 ((65535 : Nat) : Int)).toNat : Int) = _
  rw [BitVec.ofInt_natCast, BitVec.toNat_and, BitVec.toNat_ofNat, BitVec.toNat_ofInt, Nat.mod_eq_of_lt (by decide : 65535 < 2 ^ 64)]
  have h := Nat.and_two_pow_sub_one_eq_mod (n % ((2 ^ 64 : Nat) : Int)).toNat 16
  rw [show (65535 : Nat) = 2 ^ 16 - 1 from rfl, h, IntKind.wrap_i64]
  omega

set_option maxHeartbeats 2000000 in
theorem back_w (s : ByteArray) (n : Int) (w : World) : Calls Try.prog 5 #[.string s, .int .i64 n] w fun r w' => r = .returned (.bool true) ∧ Kept (fun _ => False) w w' := by
  obtain ⟨m, hm, hm1, hm2⟩ : ∃ m : Nat, (if (30 : Int) < s.size then 30 else (s.size : Int)) = m ∧ m ≤ s.size ∧ m ≤ 30 := by
    by_cases h : (30 : Int) < s.size
    · exact ⟨30, by rw [if_pos h]; rfl, by omega, by omega⟩
    · exact ⟨s.size, by rw [if_neg h], by omega, by omega⟩
  obtain ⟨t, ht⟩ : ∃ t, s.extract 0 m = t := ⟨_, rfl⟩
  have hts : t.size ≤ 30 := by rw [← bl_len, ← ht, bl_extract, List.length_take]; omega
  obtain ⟨e, he⟩ : ∃ e, bs (packF (bl t) n) = e := ⟨_, rfl⟩
  have hes : (e.size : Int) = 16 := by rw [← he, bs_size, pack_len]; rfl
  obtain ⟨x, hx⟩ : ∃ x, bs (keptF (bl t)) = x := ⟨_, rfl⟩
  have hxs : (x.size : Int) ≤ 14 := by rw [← hx, bs_size]; have := kept_len (bl t); omega
  have hxx : keptF (bl x) = bl x := by rw [← hx, bl_bs, kept_again]
  have R1 := right_w t (by omega)
  have P1 := pack_w t n
  have U1 := unpack_w e
  rw [he] at P1
  rw [show bl e = packF (bl t) n by rw [← he, bl_bs], name_pack, ptr_pack, show List.takeWhile (· != 0) (List.take 14 (bl t)) = keptF (bl t) from rfl, hx] at U1
  obtain ⟨k, hk⟩ : ∃ k, n % 65536 = k := ⟨_, rfl⟩
  have hkk : k % 65536 = k := by omega
  rw [hk] at U1
  have P2 := pack_w x k
  obtain ⟨f, hf⟩ : ∃ f, bs (packF (bl x) k) = f := ⟨_, rfl⟩
  rw [hf] at P2
  have U2 := unpack_w f
  rw [show bl f = packF (bl x) k by rw [← hf, bl_bs], name_pack, ptr_pack, show List.takeWhile (· != 0) (List.take 14 (bl x)) = keptF (bl x) from rfl, hxx, bs_bl, hkk] at U2
  have hsame : rightF (bl t) = true → x = t := fun h => by rw [← hx, kept_right h, bs_bl]
  have t1 : (m : Int) ≤ s.size := by omega
  generalize rightF (bl t) = rb at R1 hsame
  have q1 : (k != bits .and .i64 n 65535) = false := by rw [and16, hk]; simp
  clear he hx hf hxx hm1 hm2 hkk hk
  go_enter Try.func5, Try.ntmps5
  go_wp2_with fail
  refine (P1 _).mono ?_
  rintro r w1 ⟨rfl, k1⟩
  go_wp2_with fail
  refine (U1 _).mono ?_
  rintro r w2 ⟨rfl, k2⟩
  go_wp2_with fail
  refine (R1 _).mono ?_
  rintro r w3 ⟨rfl, rfl⟩
  have HK : Hid (Kept (fun _ => False) w w3) := k1.thru k2
  clear k1 k2 P1 U1 R1
  cases rb
  · clear hsame
    go_wp2_with fail
    refine (P2 _).mono ?_
    rintro r w4 ⟨rfl, k4⟩
    go_wp2_with fail
    refine (U2 _).mono ?_
    rintro r w5 ⟨rfl, k5⟩
    go_wp2_with fail
    refine (runs_w _).mono ?_
    rintro r w6 ⟨rfl, k6⟩
    go_wp2
    go_ret
    exact ⟨rfl, ((HK.out.thru k4).thru k5).thru k6⟩
  · have q3 := hsame rfl
    clear hsame
    subst q3
    go_wp2_with fail
    refine (P2 _).mono ?_
    rintro r w4 ⟨rfl, k4⟩
    go_wp2_with fail
    refine (U2 _).mono ?_
    rintro r w5 ⟨rfl, k5⟩
    go_wp2_with fail
    refine (runs_w _).mono ?_
    rintro r w6 ⟨rfl, k6⟩
    go_wp2
    go_ret
    exact ⟨rfl, ((HK.out.thru k4).thru k5).thru k6⟩
end Go.Proofs.Ytaemchmjajbadaa
