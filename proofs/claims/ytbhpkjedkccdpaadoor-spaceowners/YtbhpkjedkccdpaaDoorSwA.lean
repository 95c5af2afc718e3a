
/- The code's words and pages: bits, least bits, how many, pages of a text; no conditions but lengths. -/
import Derived.Test.YtbhpkjedkccdpaaDoorTb
import Derived.Test.YtbhpkjedkccdpaaDoorPrA
import Derived.Test.YtbhpkjedkccdpaaDoorSpF
import Derived.Test.YtbhpkjedkccdpaaDoorSh
import Derived.Shelf.Spec.TrailingZeros
namespace Go.Proofs.YtbhpkjedkccdpaaDoor
open Go.RowKit
set_option maxRecDepth 100000
set_option linter.unusedSimpArgs false

theorem spkey_w (i : Int) (w : World) : Calls Tryd.prog 28 #[.int .i64 i] w fun e w' => e = .returned (.agg #[.int .i64 4, .int .i64 i]) ∧ Kept (fun _ => False) w w' := by
  go_enter Tryd.func28, Tryd.ntmps28
  go_wp2
  exact bodyPost_ret (results_cell_row Tryd.results28 _ _ w.heap.size _ _ _ _ rfl (alloc_at _ _) Tryd.underlying54 rfl wide_K.size) rfl ⟨rfl, (Kept.refl _ _).alloc _⟩
theorem smkey_w (i : Int) (w : World) : Calls Tryd.prog 29 #[.int .i64 i] w fun e w' => e = .returned (.agg #[.int .i64 12, .int .i64 i]) ∧ Kept (fun _ => False) w w' := by
  go_enter Tryd.func29, Tryd.ntmps29
  go_wp2
  exact bodyPost_ret (results_cell_row Tryd.results29 _ _ w.heap.size _ _ _ _ rfl (alloc_at _ _) Tryd.underlying54 rfl wide_K.size) rfl ⟨rfl, (Kept.refl _ _).alloc _⟩
theorem spool_w (w : World) : Calls Tryd.prog 30 #[] w fun e w' => e = .returned (.agg #[.int .i64 2, .int .i64 0]) ∧ Kept (fun _ => False) w w' := by
  go_enter Tryd.func30, Tryd.ntmps30
  go_wp2
  exact bodyPost_ret (results_cell_row Tryd.results30 _ _ w.heap.size _ _ _ _ rfl (alloc_at _ _) Tryd.underlying54 rfl wide_K.size) rfl ⟨rfl, (Kept.refl _ _).alloc _⟩

theorem sbit_w (i : Nat) (w : World) (h : i < 64) : Calls Tryd.prog 35 #[.int .i64 i] w fun e w' => e = .returned (.int .i64 (wrap64 (pw (i : Int)))) ∧ w' = w := by
  have hp : wrap64 (2 ^ i) = wrap64 (pw (i : Int)) := by unfold pw; rw [Int.toNat_natCast]
  have h1 : (i : Int) < 64 := by omega
  have h2 : (i : Int) ≤ 64 := by omega
  have h3 : (0 : Int) ≤ (i : Int) := by omega
  go_enter Tryd.func35, Tryd.ntmps35
  go_wp2
  rw [hp]
  go_ret
  exact ⟨rfl, rfl⟩
theorem spage_w (i : Int) (w : World) : Calls Tryd.prog 36 #[.int .i64 i] w fun e w' => e = .returned (.bool (decide (0 ≤ i ∧ i < 64))) ∧ w' = w := by
  by_cases h1 : 0 ≤ i
  · by_cases h2 : i < 64
    · have e : decide (0 ≤ i ∧ i < 64) = true := decide_eq_true ⟨h1, h2⟩
      rw [e]
      go_enter Tryd.func36, Tryd.ntmps36
      go_wp2
      go_ret
      exact ⟨rfl, rfl⟩
    · have e : decide (0 ≤ i ∧ i < 64) = false := decide_eq_false fun x => h2 x.2
      rw [e]
      go_enter Tryd.func36, Tryd.ntmps36
      go_wp2
      go_ret
      exact ⟨rfl, rfl⟩
  · have e : decide (0 ≤ i ∧ i < 64) = false := decide_eq_false fun x => h1 x.1
    rw [e]
    go_enter Tryd.func36, Tryd.ntmps36
    go_wp2
    go_ret
    exact ⟨rfl, rfl⟩

/-- The library's least bit. -/
theorem tz_core (x k idx : Nat) (w : World) (hx0 : ((x : Int) == 0) = false)
    (key : IntKind.u64.wrap (bits BinOp.and IntKind.u64 (x : Int) (IntKind.u64.wrap (-(x : Int))) * 285870213051353865) / 288230376151711744 = (idx : Int))
    (hi : idx < 64) (hk : k < 64) (hcell : w.cell? ⟨0, idx, none⟩ = some (.int .u8 k)) :
    Calls Tryd.prog 63 #[.int .u64 x] w fun e w' => e = .returned (.int .i64 k) ∧ w' = w := by
  go_enter Tryd.func63, Tryd.ntmps63
  go_wp2_with (simp only [key])
  go_ret
  exact ⟨rfl, rfl⟩
theorem tz_w {n : Int} {k : Nat} (w : World) (ht : TabIn w) (hk : k < 64) (h1 : hbN n k = true) (h0 : ∀ j, j < k → hbN n j = false) :
    Calls Tryd.prog 63 #[.int .u64 (wordN n)] w fun e w' => e = .returned (.int .i64 k) ∧ w' = w := by
  obtain ⟨e, hx⟩ := ctz_least hk h1 h0
  obtain ⟨hlow, hk2⟩ := Lib.lowest_bit 64 (wordN n) hx (wordN_lt n)
  rw [e] at hlow hk2
  obtain ⟨hi, htab⟩ := Lib.deBruijn64_at k hk
  have hcell := ht _ hi
  rw [htab] at hcell
  exact tz_core (wordN n) k _ w (by simp; omega) (tz64_key (wordN n) _ (wordN_lt n) hx hlow) hi hk hcell

theorem and_low7 (y : Nat) : bits BinOp.and IntKind.i64 (y : Int) 127 = (y : Int) % 128 := by
  show IntKind.i64.wrap (((BitVec.ofInt 64 (y : Int)) &&& (BitVec.ofInt 64 127)).toNat : Int) = _
  have e : ((BitVec.ofInt 64 (y : Int)) &&& (BitVec.ofInt 64 127)).toNat = y % 128 := by
    rw [BitVec.ofInt_natCast, BitVec.toNat_and, BitVec.toNat_ofNat, show (BitVec.ofInt 64 127).toNat = 2 ^ 7 - 1 from rfl, Nat.and_two_pow_sub_one_eq_mod]
    omega
  rw [e, IntKind.wrap_i64]
  omega
theorem ones_w (n : Int) (w : World) : Calls Tryd.prog 62 #[.int .u64 (wordN n)] w fun e w' => e = .returned (.int .i64 (cntB n : Nat)) ∧ w' = w := by
  have hx := wordN_lt n
  obtain ⟨y1, y2, y3, e1, e2, e3, b1, b2, b3, b4, y4, y5, y6, f4, f5, f6, c4, c5, c6, hp⟩ := pop_way (wordN n) hx
  rw [pop_cnt n (Nat.le_refl _)] at hp
  have hc : popN (wordN n) 64 = cntB n := pop_cnt n (Nat.le_refl _)
  generalize wordN n = x at *
  have wr : ∀ z : Nat, z < 18446744073709551616 → IntKind.u64.wrap (z : Int) = (z : Int) := fun z hz => by rw [IntKind.wrap_u64]; omega
  have an : ∀ a b : Nat, a < 18446744073709551616 → b < 18446744073709551616 → bits BinOp.and IntKind.u64 (a : Int) (b : Int) = ((a &&& b : Nat) : Int) := fun a b ha hb => bits_and_u64_nat a b ha hb
  have l1 : ∀ z m : Nat, m < 18446744073709551616 → z &&& m < 18446744073709551616 := fun z m hm => Nat.lt_of_le_of_lt Nat.and_le_right hm
  have E1 : IntKind.u64.wrap (bits BinOp.and IntKind.u64 ((x : Int) / 2) 6148914691236517205 + bits BinOp.and IntKind.u64 (x : Int) 6148914691236517205) = (y1 : Int) := by
    have p1 := an (x / 2) 6148914691236517205 (by omega) (by omega)
    have p2 := an x 6148914691236517205 hx (by omega)
    have q : ((x / 2 : Nat) : Int) = (x : Int) / 2 := by omega
    rw [q] at p1
    rw [show (6148914691236517205 : Int) = ((6148914691236517205 : Nat) : Int) from rfl, p1, p2, ← Int.natCast_add, e1, wr _ b1]
  have E2 : IntKind.u64.wrap (bits BinOp.and IntKind.u64 ((y1 : Int) / 4) 3689348814741910323 + bits BinOp.and IntKind.u64 (y1 : Int) 3689348814741910323) = (y2 : Int) := by
    have p1 := an (y1 / 4) 3689348814741910323 (by omega) (by omega)
    have p2 := an y1 3689348814741910323 b1 (by omega)
    have q : ((y1 / 4 : Nat) : Int) = (y1 : Int) / 4 := by omega
    rw [q] at p1
    rw [show (3689348814741910323 : Int) = ((3689348814741910323 : Nat) : Int) from rfl, p1, p2, ← Int.natCast_add, e2, wr _ b2]
  have E3 : bits BinOp.and IntKind.u64 (IntKind.u64.wrap ((y2 : Int) / 16 + (y2 : Int))) 1085102592571150095 = (y3 : Int) := by
    have q : (y2 : Int) / 16 + (y2 : Int) = ((y2 / 16 + y2 : Nat) : Int) := by omega
    rw [q, wr _ b3, show (1085102592571150095 : Int) = ((1085102592571150095 : Nat) : Int) from rfl, an _ _ b3 (by omega), e3]
  have E4 : IntKind.u64.wrap ((y3 : Int) + (y3 : Int) / 256) = (y4 : Int) := by rw [IntKind.wrap_u64]; omega
  have E5 : IntKind.u64.wrap ((y4 : Int) + (y4 : Int) / 65536) = (y5 : Int) := by rw [IntKind.wrap_u64]; omega
  have E6 : IntKind.u64.wrap ((y5 : Int) + (y5 : Int) / 4294967296) = (y6 : Int) := by rw [IntKind.wrap_u64]; omega
  have E7 : wrap64 (y6 : Int) = (y6 : Int) := by unfold wrap64; omega
  have E8 : bits BinOp.and IntKind.i64 (y6 : Int) 127 = ((cntB n : Nat) : Int) := by
    have := and_low7 y6
    rw [this]
    show ((y6 : Int) % 128) = ((cntN (hbN n) 64 : Nat) : Int)
    omega
  clear e1 e2 e3 b1 b2 b3 b4 f4 f5 f6 c4 c5 c6 hp hx hc wr an l1
  go_enter Tryd.func62, Tryd.ntmps62
  go_wp2
  simp only [E1, E2, E3, E4, E5, E6, E7, E8]
  go_ret
  exact ⟨rfl, rfl⟩

theorem scount_w (n : Int) (w : World) : Calls Tryd.prog 31 #[.int .i64 n] w fun e w' => e = .returned (.int .i64 (cntB n : Nat)) ∧ w' = w := by
  have hc : IntKind.u64.wrap n = (wordN n : Int) := by rw [IntKind.wrap_u64, wordN_int]
  have h := ones_w n w
  generalize wordN n = x at *
  generalize cntB n = c at *
  go_enter Tryd.func31, Tryd.ntmps31
  go_wp2_with fail
  refine h.mono ?_
  rintro e w1 ⟨rfl, hw⟩
  subst hw
  go_wp2
  go_ret
  exact ⟨rfl, rfl⟩

theorem next_take {α : Type} {l : List α} {j : Nat} {a : α} (h : l[j]? = some a) : l.take (j + 1) = l.take j ++ [a] := by
  obtain ⟨h1, h2⟩ := List.getElem?_eq_some_iff.1 h
  rw [List.take_succ_eq_append_getElem h1, h2]
/-- Pages of a text. -/
theorem pages_w (s : ByteArray) (hs : s.size ≤ 1000000) (w : World) : Calls Tryd.prog 34 #[.string s] w
    fun e w' => ∃ v, e = .returned v ∧ OwnX (fun _ => False) w v ((pagesN s).map (fun j : Nat => (j : Int))) w' := by
  have H0 : Hid (OwnX (fun _ => False) w (.slice none 0 0) (((pagesN s).take 0).map (fun j : Nat => (j : Int))) w) := OwnX.nil w
  have hlen : Hid ((pagesN s).length = s.size) := by show _ = _; unfold pagesN; rw [List.length_map, bl_len]
  have hs2 : (s.size : Int) ≤ 1000000 := by omega
  go_enter Tryd.func34, Tryd.ntmps34
  go_wp2_with fail
  go_loopw [3, 7] (fun u v wr => ∃ j : Nat, v = .int .i64 j ∧ j ≤ s.size ∧ Hid (OwnX (fun _ => False) w u (((pagesN s).take j).map (fun j : Nat => (j : Int))) wr)) (fun _ v _ => s.size - (intOf v).toNat)
  case atStart => exact ⟨0, rfl, by omega, H0.out⟩
  case round =>
    clear H0
    obtain ⟨j, rfl, hj, HO⟩ := hrel
    by_cases c : j < s.size
    · have cI : (j : Int) < (s.size : Int) := by omega
      have j0 : (0 : Int) ≤ (j : Int) := by omega
      obtain ⟨b, hb⟩ : ∃ b : Nat, (s[j]).toNat = b := ⟨_, rfl⟩
      have hb2 : b < 256 := by rw [← hb]; exact (s[j]).toNat_lt
      obtain ⟨gg, hg⟩ : ∃ gg : Nat, b % 64 = gg := ⟨_, rfl⟩
      have hgb : ((b : Int)).tmod 64 = (gg : Int) := by rw [Int.tmod_eq_emod_of_nonneg (by omega)]; omega
      have hwb : wrap64 (b : Int) = b := by unfold wrap64; omega
      have HT : Hid ((pagesN s).take (j + 1) = (pagesN s).take j ++ [gg]) := by
        show _ = _
        refine next_take ?_
        unfold pagesN
        rw [List.getElem?_map, bl_at s c, Option.map_some, hb, hg]
      have HB : Hid (j < s.size ∧ j + 1 ≤ 1000000 ∧ j ≤ 1000000) := ⟨c, by omega, by omega⟩
      clear hg hb2 hs hs2 hlen hj
      go_upto_region 5 with fail
      obtain ⟨E, hE⟩ : ∃ E : Nat, wr.heap.size = E := ⟨_, rfl⟩
      have k1 : Kept (fun _ => False) wr (wr.alloc (.cells #[.int .i64 gg] 3)) := (Kept.refl _ _).alloc _
      have HS2 : Hid _ := HO.out.still k1 (fun b e => e.elim)
      have HN2 : Hid (SrcI (.slice (some ⟨E, 0, none⟩) 1 1) [(gg : Int)] (wr.alloc (.cells #[.int .i64 gg] 3))) := SrcI.lone (alloc_at' _ hE)
      have hlen : (List.map (fun j : Nat => (j : Int)) ((pagesN s).take j)).length + 1 ≤ 1000000 := by have := HB.out.2.1; rw [List.length_map, List.length_take]; omega
      clear k1
      go_wp2_with (at_builtin; refine listI_app rfl _ _ rfl (fun _ => False) w _ [(gg : Int)] HS2.out HN2.out (by simpa using hlen) ?_; intro v w6 h6 hg6)
      have HN3 : Hid (OwnX (fun _ => False) w v (((pagesN s).take (j + 1)).map (fun j : Nat => (j : Int))) w6) := by
        show OwnX _ _ _ _ _
        rw [HT.out, List.map_append]
        exact h6
      have hwe : wrap64 ((j : Int) + 1) = ((j + 1 : Nat) : Int) := by have := HB.out.2.2; unfold wrap64; omega
      clear h6 hg6 HS2 HN2 hlen hE HT HO hb
      go_wp2
      try rw [hwe]
      refine ⟨⟨j + 1, rfl, by have := HB.out.1; omega, HN3.out⟩, ?_⟩
      have := HB.out.1
      simp [intOf]
      omega
    · have cI : ¬ (j : Int) < (s.size : Int) := by omega
      have HE : Hid (OwnX (fun _ => False) w u3 ((pagesN s).map (fun j : Nat => (j : Int))) wr) := by
        have := HO.out
        rw [List.take_of_length_le (by rw [hlen.out]; omega)] at this
        exact this
      clear HO
      go_wp2
      exact bodyPost_ret (v := u3) (by simp [results, Tryd.results34, go_sem]) rfl ⟨u3, rfl, HE.out⟩
end Go.Proofs.YtbhpkjedkccdpaaDoor
