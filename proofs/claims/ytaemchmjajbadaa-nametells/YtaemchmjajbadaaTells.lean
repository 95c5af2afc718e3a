/- Any text, any number: what the code tells is what the document's own answer tells; no conditions. -/
import Derived.Test.YtaemchmjajbadaaRuns
namespace Go.Proofs.Ytaemchmjajbadaa
open Go.RowKit

set_option maxHeartbeats 2000000 in
theorem tells_w (s e : ByteArray) (n : Int) (w : World) : Calls Try.prog 4 #[.string s, .string e, .int .i64 n] w fun r w' => r = .returned (.bool true) ∧ Kept (fun _ => False) w w' := by
  obtain ⟨m, hm, hm1, hm2⟩ : ∃ m : Nat, (if (70 : Int) < s.size then 70 else (s.size : Int)) = m ∧ m ≤ s.size ∧ m ≤ 70 := by
    by_cases h : (70 : Int) < s.size
    · exact ⟨70, by rw [if_pos h]; rfl, by omega, by omega⟩
    · exact ⟨s.size, by rw [if_neg h], by omega, by omega⟩
  obtain ⟨q, hq, hq1, hq2⟩ : ∃ q : Nat, (if (20 : Int) < e.size then 20 else (e.size : Int)) = q ∧ q ≤ e.size ∧ q ≤ 20 := by
    by_cases h : (20 : Int) < e.size
    · exact ⟨20, by rw [if_pos h]; rfl, by omega, by omega⟩
    · exact ⟨e.size, by rw [if_neg h], by omega, by omega⟩
  obtain ⟨t, ht⟩ : ∃ t, s.extract 0 m = t := ⟨_, rfl⟩
  obtain ⟨u, hu⟩ : ∃ u, e.extract 0 q = u := ⟨_, rfl⟩
  have hts : t.size ≤ 70 := by rw [← bl_len, ← ht, bl_extract, List.length_take]; omega
  have S1 := split_w t (by omega)
  have S2 := split_r t (by omega)
  have U1 := unpack_w u
  have U2 := unpack_r u
  have R1 := right_w t (by omega)
  have R2 := right_r t (by omega)
  have P1 := pack_w t n
  have P2 := pack_r t n
  have t1 : (m : Int) ≤ s.size := by omega
  have t2 : (q : Int) ≤ e.size := by omega
  have hnl : (namesF (bl t)).length ≤ 1000000 := by
    unfold namesF
    split
    · have := cut_len (bl t) []
      rw [bl_len] at this
      omega
    · simp
  generalize bs (nameF (bl u)) = x at U1 U2
  generalize ptrF (bl u) = y at U1 U2
  generalize rightF (bl t) = rb at R1 R2
  generalize bs (packF (bl t) n) = pk at P1 P2
  generalize absF (bl t) = ab at S1 S2
  generalize okF (bl t) = ok at S1 S2
  generalize namesF (bl t) = ns at S1 S2 hnl
  clear hm1 hm2 hq1 hq2 hts
  go_enter Try.func4, Try.ntmps4
  go_wp2_with fail
  go_quiet (fail)
  have K0 : Kept (fun _ => False) w (w.drewN nq) := kept_drewN _ _
  generalize w.drewN nq = wa at *
  clear hm hq ht hu t1 t2
  go_wp2_with fail
  refine (S1 _).mono ?_
  rintro r w1 ⟨v1, rfl, O1⟩
  go_wp2_with fail
  refine (S2 _).mono ?_
  rintro r w2 ⟨v2, rfl, O2⟩
  go_wp2_with fail
  refine (U1 _).mono ?_
  rintro r w3 ⟨rfl, k3⟩
  go_wp2_with fail
  refine (U2 _).mono ?_
  rintro r w4 ⟨rfl, k4⟩
  have k34 := k3.thru k4
  have X1 : Hid (SrcS v1 ns w4) := O1.src.still (O2.kept.thru k34)
  have X2 : Hid (SrcS v2 ns w4) := O2.src.still k34
  have HK : Hid (Kept (fun _ => False) w w4) := ((K0.thru O1.kept).thru O2.kept).thru k34
  clear O1 O2 k3 k4 k34 K0 S1 S2 U1 U2
  go_wp2_with fail
  refine (R1 _).mono ?_
  rintro r w5 ⟨rfl, rfl⟩
  go_wp2_with fail
  refine (R2 _).mono ?_
  rintro r w6 ⟨rfl, rfl⟩
  go_wp2_with fail
  refine (same_w _ _ ns ns hnl hnl _ X1.out X2.out).mono ?_
  rintro r w7 ⟨rfl, k7⟩
  rw [show decide (ns = ns) = true from decide_eq_true rfl]
  go_wp2_with fail
  refine (P1 _).mono ?_
  rintro r w8 ⟨rfl, k8⟩
  go_wp2_with fail
  refine (P2 _).mono ?_
  rintro r w9 ⟨rfl, k9⟩
  go_wp2_with fail
  refine (runs_w _).mono ?_
  rintro r w10 ⟨rfl, k10⟩
  go_wp2
  go_ret
  exact ⟨rfl, (((HK.out.thru k7).thru k8).thru k9).thru k10⟩
end Go.Proofs.Ytaemchmjajbadaa
