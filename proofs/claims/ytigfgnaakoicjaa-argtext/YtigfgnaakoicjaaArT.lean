
/- A text ends at its first nought, is no longer than may be; behind the last nought there is none; no conditions but those of rows that came in. -/
import Derived.Test.YtigfgnaakoicjaaArC
import Derived.Deep.CutBlock
namespace Go.Proofs.Ytigfgnaakoicjaa
open Go.RowKit
set_option maxRecDepth 100000
set_option linter.unusedSimpArgs false

theorem idx_at {l : Bs} {n : Nat} (h : ∀ k, k < n → l[k]? ≠ some 0) (h0 : l[n]? = some 0) : Lib.indexByte l 0 = n := by
  induction l generalizing n with
  | nil => simp at h0
  | cons b l ih =>
    unfold Lib.indexByte
    cases n with
    | zero =>
      simp at h0
      rw [if_pos (by simp [h0])]; rfl
    | succ n =>
      have hb : ¬ (b == 0) = true := fun e => h 0 (by omega) (by simp at e; simp [e])
      rw [if_neg hb]
      have := ih (n := n) (fun k hk => by have := h (k + 1) (by omega); simpa using this) (by simpa using h0)
      rw [this, if_neg (by simp)]
      simp
theorem idx_no {l : Bs} (h : ∀ k, k < l.length → l[k]? ≠ some 0) : Lib.indexByte l 0 = -1 := by
  induction l with
  | nil => rfl
  | cons b l ih =>
    unfold Lib.indexByte
    have hb : ¬ (b == 0) = true := fun e => h 0 (by simp) (by simp at e; simp [e])
    rw [if_neg hb, ih (fun k hk => by have := h (k + 1) (by simp; omega); simpa using this)]
    rfl
/-- The first n bytes from a on are none of them nought. -/
def NoZ (s : ByteArray) (a n : Nat) : Prop := a + n ≤ s.size ∧ ∀ k, k < n → (bl s)[a + k]? ≠ some 0
theorem NoZ.none (s : ByteArray) {a : Nat} (h : a ≤ s.size) : NoZ s a 0 := ⟨by omega, fun k hk => by omega⟩
theorem NoZ.next {s : ByteArray} {a n : Nat} (h : NoZ s a n) (hl : a + n < s.size) (h0 : s[a + n] ≠ 0) : NoZ s a (n + 1) := by
  refine ⟨by omega, fun k hk => ?_⟩
  by_cases c : k = n
  · subst c; rw [bl_at s hl]; simpa using h0
  · exact h.2 k (by omega)
theorem NoZ.tx {s : ByteArray} {a n : Nat} (h : NoZ s a n) (he : ∀ hl : a + n < s.size, s[a + n] = 0) (m : Int) :
    arTx s a m = if a + n < s.size ∧ (n : Int) ≤ m then (s.extract a (a + n), true) else (⟨#[]⟩, false) := by
  unfold arTx
  by_cases hl : a + n < s.size
  · have e : arN s a = n := by
      unfold arN
      rw [Int.toNat_natCast]
      refine idx_at (fun k hk => by rw [List.getElem?_drop]; exact h.2 k hk) ?_
      rw [List.getElem?_drop, bl_at s hl, he hl]
    have hh : arH s.size a 1 = true := arH_iff.2 ⟨by omega, by omega, by omega⟩
    rw [e, hh, Int.toNat_natCast, Int.toNat_natCast]
    by_cases hm : (n : Int) ≤ m
    · rw [if_pos ⟨rfl, by omega, hm⟩, if_pos ⟨hl, hm⟩]
    · rw [if_neg (fun x => hm x.2.2), if_neg (fun x => hm x.2)]
  · have e : arN s a = -1 := by
      unfold arN
      rw [Int.toNat_natCast]
      refine idx_no (fun k hk => by rw [List.length_drop, bl_len] at hk; rw [List.getElem?_drop]; exact h.2 k (by have := h.1; omega))
    rw [e, if_neg (fun x => by have := x.2.1; omega), if_neg (fun x => hl x.1)]
theorem tx_low (s : ByteArray) {a : Int} (h : a < 0) (m : Int) : arR (arTx s a m) = .tuple #[.string ⟨#[]⟩, .bool false] := by
  have : arTx s a m = (⟨#[]⟩, false) := by
    unfold arTx
    rw [if_neg (fun x => by have := (arH_yes x.1).1; omega)]
  unfold arR; rw [this]

set_option maxHeartbeats 4000000 in
theorem text_law (ao : Option Addr) (len cap lb off : Nat) (Q : Nat → ByteArray) (hao : 0 < len → ao = some ⟨lb, off, none⟩) (at_ most : Int) (w : World)
    (hc : ∀ i, i < len → w.cell? ⟨lb, off + i, none⟩ = some (.string (Q i))) :
    Calls Try.prog 4 #[.slice ao len cap, .int .i64 at_, .int .i64 most] w fun r w' => r = .returned (.bool true) ∧ Kept (fun _ => False) w w' := by
  have HC : Hid _ := hc
  clear hc
  go_enter Try.func4, Try.ntmps4
  go_upto_block 0 with fail
  go_cut [7] from 8 to 44 (fun v wx => ∃ s : ByteArray, v = .string s ∧ Hid (s.size ≤ 50 ∧ Kept (fun _ => False) w wx))
  case first =>
    go_wp2_with fail
    go_loopw [7, 8] (fun v x wr => ∃ (i : Nat) (s : ByteArray), v = .string s ∧ x = .int .i64 i ∧ Hid (i ≤ 5 ∧ s.size ≤ 10 * i ∧ Kept (fun _ => False) w wr)) (fun _ x _ => 6 - (intOf x).toNat)
    case atStart => exact ⟨0, _, rfl, rfl, by omega, by decide, Kept.refl _ _⟩
    case round =>
      obtain ⟨i, s, rfl, rfl, HJ⟩ := hrel
      by_cases h1 : i < len
      · have t1 : (i : Int) < len := by omega
        by_cases h2 : i < 5
        · have t2 : (i : Int) < 5 := by omega
          have c0 : Hid (wr.cell? ⟨lb, off + i, none⟩ = some (.string (Q i))) := HJ.out.2.2.cell (HC.out i h1) (fun e => e)
          obtain rfl := hao (by omega)
          clear hao
          obtain ⟨q, hq⟩ : ∃ q, Q i = q := ⟨_, rfl⟩
          rw [hq] at c0
          obtain ⟨m, hm, hm1, hm2⟩ : ∃ m : Nat, (if (9 : Int) < q.size then 9 else (q.size : Int)) = m ∧ m ≤ q.size ∧ m ≤ 9 := by
            by_cases h : (9 : Int) < q.size
            · exact ⟨9, by rw [if_pos h]; rfl, by omega, by omega⟩
            · exact ⟨q.size, by rw [if_neg h], by omega, by omega⟩
          obtain ⟨t, ht⟩ : ∃ t, q.extract 0 m = t := ⟨_, rfl⟩
          have hts : Hid (t.size ≤ 9) := by show _ ≤ _; rw [← bl_len, ← ht, bl_extract, List.length_take]; omega
          have t3 : (m : Int) ≤ q.size := by omega
          have c1 := c0.out
          clear hm1 hm2 hq
          go_wp2_with fail
          have KS : ∀ w', Kept (fun _ => False) wr w' → w'.cell? ⟨lb, off + i, none⟩ = some (.string q) := fun w' hk => hk.cell c1 (fun x => x)
          have hti : ((t.size : Nat) : Int) ≤ 1000 := by have := hts.out; omega
          have HJ2 : Hid (i ≤ 5 ∧ s.size ≤ 10 * i ∧ Kept (fun _ => False) w wr) := HJ
          clear HJ c0 c1 HC
          refine wp_region_held_drew (S := fun w' => Kept (fun _ => False) wr w') (by kernel_rfl) ((Kept.refl _ _).drew) (fun hHeld => ?_)
          refine h_take 0 (some 28) (Op.move (Operand.tmp 7)) 9 ?v1 rfl rfl (by kernel_rfl) (by kernel_rfl) (by kernel_rfl) (fun _ _ _ h => h) ?hy1 hHeld ?_
          case hy1 => (intro _ _ _ w hSw; have hcs := KS _ hSw; go_simp; try with_reducible rfl)
          simp only [Act.put, List.setIfInBounds_toArray, List.set_cons_zero, List.set_cons_succ]
          refine h_take 1 (some 29) (Op.move (Operand.tmp 8)) 3 ?v2 rfl rfl (by kernel_rfl) (by kernel_rfl) (by kernel_rfl) (fun _ _ _ h => h) ?hy2 hHeld ?_
          case hy2 => (intro _ _ _ w hSw; have hcs := KS _ hSw; go_simp; try with_reducible rfl)
          simp only [Act.put, List.setIfInBounds_toArray, List.set_cons_zero, List.set_cons_succ]
          refine h_take 2 (some 30) (Op.move (Operand.tmp 0)) 35 ?v3 rfl rfl (by kernel_rfl) (by kernel_rfl) (by kernel_rfl) (fun _ _ _ h => h) ?hy3 hHeld ?_
          case hy3 => (intro _ _ _ w hSw; have hcs := KS _ hSw; go_simp; try with_reducible rfl)
          simp only [Act.put, List.setIfInBounds_toArray, List.set_cons_zero, List.set_cons_succ]
          refine h_take 3 (some 31) (Op.move (Operand.tmp 8)) 3 ?v4 rfl rfl (by kernel_rfl) (by kernel_rfl) (by kernel_rfl) (fun _ _ _ h => h) ?hy4 hHeld ?_
          case hy4 => (intro _ _ _ w hSw; have hcs := KS _ hSw; go_simp; try with_reducible rfl)
          simp only [Act.put, List.setIfInBounds_toArray, List.set_cons_zero, List.set_cons_succ]
          refine h_take 4 (some 32) (Op.indexAddr 35 (Operand.tmp 30) (Operand.tmp 31)) 0 ?v5 rfl rfl (by kernel_rfl) (by kernel_rfl) (by kernel_rfl) (fun _ _ _ h => h) ?hy5 hHeld ?_
          case hy5 => (intro _ _ _ w hSw; have hcs := KS _ hSw; go_simp; try with_reducible rfl)
          simp only [Act.put, List.setIfInBounds_toArray, List.set_cons_zero, List.set_cons_succ]
          refine h_take 5 (some 33) (Op.load 9 (Operand.tmp 32)) 9 (.string q) rfl rfl (by kernel_rfl) (by kernel_rfl) (by kernel_rfl) (fun _ _ _ h => h) ?_ hHeld ?_
          · intro _ _ _ w hSw; have hcs := KS _ hSw; go_simp
          simp only [Act.put, List.setIfInBounds_toArray, List.set_cons_zero, List.set_cons_succ]
          refine h_take 6 (some 34) (Op.move (Operand.tmp 0)) 35 ?v6 rfl rfl (by kernel_rfl) (by kernel_rfl) (by kernel_rfl) (fun _ _ _ h => h) ?hy6 hHeld ?_
          case hy6 => (intro _ _ _ w hSw; have hcs := KS _ hSw; go_simp; try with_reducible rfl)
          simp only [Act.put, List.setIfInBounds_toArray, List.set_cons_zero, List.set_cons_succ]
          refine h_take 7 (some 35) (Op.move (Operand.tmp 8)) 3 ?v7 rfl rfl (by kernel_rfl) (by kernel_rfl) (by kernel_rfl) (fun _ _ _ h => h) ?hy7 hHeld ?_
          case hy7 => (intro _ _ _ w hSw; have hcs := KS _ hSw; go_simp; try with_reducible rfl)
          simp only [Act.put, List.setIfInBounds_toArray, List.set_cons_zero, List.set_cons_succ]
          refine h_take 8 (some 36) (Op.indexAddr 35 (Operand.tmp 34) (Operand.tmp 35)) 0 ?v8 rfl rfl (by kernel_rfl) (by kernel_rfl) (by kernel_rfl) (fun _ _ _ h => h) ?hy8 hHeld ?_
          case hy8 => (intro _ _ _ w hSw; have hcs := KS _ hSw; go_simp; try with_reducible rfl)
          simp only [Act.put, List.setIfInBounds_toArray, List.set_cons_zero, List.set_cons_succ]
          refine h_take 9 (some 37) (Op.load 9 (Operand.tmp 36)) 9 (.string q) rfl rfl (by kernel_rfl) (by kernel_rfl) (by kernel_rfl) (fun _ _ _ h => h) ?_ hHeld ?_
          · intro _ _ _ w hSw; have hcs := KS _ hSw; go_simp
          simp only [Act.put, List.setIfInBounds_toArray, List.set_cons_zero, List.set_cons_succ]
          refine h_take 10 (some 38) (Op.call { callee := Callee.builtin Builtin.len, args := #[Operand.tmp 37], argTypes := #[9] }) 3 ?v9 rfl rfl (by kernel_rfl) (by kernel_rfl) (by kernel_rfl) (fun _ _ _ h => h) ?hy9 hHeld ?_
          case hy9 => (intro _ _ _ w hSw; have hcs := KS _ hSw; go_simp; try with_reducible rfl)
          simp only [Act.put, List.setIfInBounds_toArray, List.set_cons_zero, List.set_cons_succ]
          refine h_take 11 (some 39) (Op.call { callee := Callee.builtin Builtin.min, args := #[Operand.tmp 38, Operand.const (Value.int IntKind.i64 9)], argTypes := #[3, 3] }) 3 (.int .i64 m) rfl rfl (by kernel_rfl) (by kernel_rfl) (by kernel_rfl) (fun _ _ _ h => h) ?_ hHeld ?_
          · intro _ _ _ w hSw; have hcs := KS _ hSw; go_simp
          simp only [Act.put, List.setIfInBounds_toArray, List.set_cons_zero, List.set_cons_succ]
          refine h_take 12 (some 40) (Op.slice 9 (Operand.tmp 33) none (some (Operand.tmp 39)) none) 9 (.string t) rfl rfl (by kernel_rfl) (by kernel_rfl) (by kernel_rfl) (fun _ _ _ h => h) ?_ hHeld ?_
          · intro _ _ _ w hSw; have hcs := KS _ hSw; go_simp
          simp only [Act.put, List.setIfInBounds_toArray, List.set_cons_zero, List.set_cons_succ]
          refine h_take 13 (some 41) (Op.call { callee := Callee.builtin Builtin.len, args := #[Operand.tmp 40], argTypes := #[9] }) 3 ?v10 rfl rfl (by kernel_rfl) (by kernel_rfl) (by kernel_rfl) (fun _ _ _ h => h) ?hy10 hHeld ?_
          case hy10 => (intro _ _ _ w hSw; have hcs := KS _ hSw; go_simp; try with_reducible rfl)
          simp only [Act.put, List.setIfInBounds_toArray, List.set_cons_zero, List.set_cons_succ]
          refine h_step 14 (some 42) (Op.call { callee := Callee.value (Operand.func 9), args := #[Operand.tmp 29, Operand.tmp 41], argTypes := #[3, 3] }) 9 rfl rfl (by kernel_rfl) (fun _ _ _ K hK => ?_)
          go_simp
          refine (text_w i t.size (by omega) hti _).mono ?_
          rintro e w5 ⟨t5, rfl, ht5, hk5⟩
          replace hk5 : Kept (fun _ => False) wr w5 := (Kept.refl _ wr).drew.thru hk5
          go_wp2_with fail
          refine hK.out _ _ (hk5) (fun hHeld => ?_)
          clear hK K
          try simp only [Act.put, List.setIfInBounds_toArray, List.set_cons_zero, List.set_cons_succ]
          have hn1 : ¬ 9223372036854775807 < s.size + t5.size := by have := HJ2.out.2.1; have := HJ2.out.1; have := hts.out; omega
          have hn2 : ¬ 9223372036854775807 < s.size + t5.size + 1 := by have := HJ2.out.2.1; have := HJ2.out.1; have := hts.out; omega
          refine h_take 15 (some 43) (Op.binOp BinOp.add 9 (Operand.tmp 28) (Operand.tmp 42) 9) 9 (.string (s ++ t5)) rfl rfl (by kernel_rfl) (by kernel_rfl) (by kernel_rfl) (fun _ _ _ h => h) ?_ hHeld ?_
          · intro _ _ _ w hSw; have hcs := KS _ hSw; go_simp
          simp only [Act.put, List.setIfInBounds_toArray, List.set_cons_zero, List.set_cons_succ]
          refine h_take 16 (some 44) (Op.binOp BinOp.add 9 (Operand.tmp 43) (Operand.const (Value.string { data := #[0] })) 9) 9 (.string (s ++ t5 ++ ⟨#[0]⟩)) rfl rfl (by kernel_rfl) (by kernel_rfl) (by kernel_rfl) (fun _ _ _ h => h) ?_ hHeld ?_
          · intro _ _ _ w hSw; have hcs := KS _ hSw; go_simp
          simp only [Act.put, List.setIfInBounds_toArray, List.set_cons_zero, List.set_cons_succ]
          refine h_take 17 (some 7) (Op.assign (Operand.tmp 44)) 9 ?v11 rfl rfl (by kernel_rfl) (by kernel_rfl) (by kernel_rfl) (fun _ _ _ h => h) ?hy11 hHeld ?_
          case hy11 => (intro _ _ _ w hSw; have hcs := KS _ hSw; go_simp; try with_reducible rfl)
          simp only [Act.put, List.setIfInBounds_toArray, List.set_cons_zero, List.set_cons_succ]
          refine wpAnyH_done (by kernel_rfl) ?_ _
          have HN : Hid (i + 1 ≤ 5 ∧ (s ++ t5 ++ ⟨#[0]⟩ : ByteArray).size ≤ 10 * (i + 1) ∧ Kept (fun _ => False) w w5) := by
            refine ⟨by omega, ?_, HJ2.out.2.2.thru hk5⟩
            have h1 := HJ2.out.2.1
            have h2 := hts.out
            rw [← bl_len, bl_app, bl_app, List.length_append, List.length_append, bl_len, bl_len]
            show _ + 1 ≤ _
            omega
          clear HJ2 hHeld hk5 hn1 hn2 KS hts ht5 hti hm ht t3
          go_wp2
          go_roundw
          case rel => exact ⟨i + 1, _, rfl, by go_num, HN.out⟩
          case measure => simp [intOf]; omega
        · have t2 : ¬ (i : Int) < 5 := by omega
          go_wp2
          go_meet
          case rel => exact ⟨s, rfl, by have := HJ.out.1; have := HJ.out.2.1; omega, HJ.out.2.2⟩
      · have t1 : ¬ (i : Int) < len := by omega
        go_wp2
        go_meet
        case rel => exact ⟨s, rfl, by have := HJ.out.1; have := HJ.out.2.1; omega, HJ.out.2.2⟩
  case rest =>
    obtain ⟨s0, rfl, HS⟩ := hcut
    clear HC hao
    have hn1 : ¬ 9223372036854775807 < s0.size + 3 := by have := HS.out.1; omega
    obtain ⟨s, hs⟩ : ∃ s : ByteArray, s0 ++ ⟨#[120, 121, 122]⟩ = s := ⟨_, rfl⟩
    have HL : Hid (s.size ≤ 53) := by
      show _ ≤ _
      rw [← hs, ← bl_len, bl_app, List.length_append, bl_len]
      have := HS.out.1
      show _ + 3 ≤ _
      omega
    go_upto_region 7 with fail
    try rw [hs]
    clear hs hn1
    go_wp2_with fail
    refine (lawmem_w 1 s _).mono ?_
    rintro e w2 ⟨T, p, B, q, N, rfl, h2⟩
    have H2 : Hid (SideG (fM 1 s) w T p B q N g0 w2) := h2.older HS.out.2
    clear h2 HS
    have hl1 : ((s.size : Nat) : Int) ≤ 53 := by have := HL.out; omega
    go_wp2_with fail
    refine (within_any at_ 0 s.size (by omega) (by omega) (by omega) _).mono ?_
    rintro e w3 ⟨rfl, hw3⟩
    subst hw3
    obtain ⟨a, ha⟩ : ∃ a : Nat, 0 + at_ % ((s.size : Int) - 0 + 1) = a := ⟨(0 + at_ % ((s.size : Int) - 0 + 1)).toNat, by have := Int.emod_nonneg at_ (b := (s.size : Int) - 0 + 1) (by omega); omega⟩
    have hal : a ≤ s.size := by have := Int.emod_lt_of_pos at_ (b := (s.size : Int) - 0 + 1) (by omega); omega
    rw [ha]
    clear ha
    go_wp2_with fail
    refine (within_any most 0 12 (by omega) (by omega) (by omega) _).mono ?_
    rintro e w4 ⟨rfl, hw4⟩
    subst hw4
    obtain ⟨m, hm⟩ : ∃ m : Nat, 0 + most % ((12 : Int) - 0 + 1) = m := ⟨(0 + most % ((12 : Int) - 0 + 1)).toNat, by have := Int.emod_nonneg most (b := (12 : Int) - 0 + 1) (by omega); omega⟩
    have hml : m ≤ 12 := by have := Int.emod_lt_of_pos most (b := (12 : Int) - 0 + 1) (by omega); omega
    rw [hm]
    clear hm
    have HA : Hid (m ≤ 12 ∧ s.size ≤ 53 ∧ a ≤ s.size) := ⟨hml, HL.out, hal⟩
    clear hml HL hl1
    go_upto_block 2 with fail
    go_cut [12] from 57 to 72 (fun v wx => wx = w4 ∧ ∃ n : Nat, v = .int .i64 n ∧ Hid (NoZ s a n ∧ ∀ hl : a + n < s.size, s[a + n] = 0))
    case first =>
      clear H2
      go_wp2_with fail
      go_loopw [12] (fun v wr => wr = w4 ∧ ∃ n : Nat, v = .int .i64 n ∧ Hid (NoZ s a n)) (fun v _ => 54 - (intOf v).toNat)
      case atStart => exact ⟨rfl, 0, rfl, NoZ.none s hal⟩
      case round =>
        obtain ⟨hwr, n, rfl, HZ⟩ := hrel
        subst hwr
        obtain ⟨j, hj, hj2⟩ : ∃ j : Nat, (a : Int) + n = j ∧ j = a + n := ⟨a + n, by omega, rfl⟩
        have h53 := HA.out.2.1
        have hz1 := HZ.out.1
        have j0 : (0 : Int) ≤ (j : Int) := by omega
        have j53 : (j : Int) ≤ 53 := by omega
        have n53 : (n : Int) ≤ 53 := by omega
        have n0 : n ≤ 53 := by omega
        clear hz1
        by_cases h1 : j < s.size
        · obtain ⟨b, hb⟩ : ∃ b, s[j] = b := ⟨_, rfl⟩
          have t1 : (j : Int) < s.size := by omega
          by_cases h2 : b = 0
          · subst h2
            have hz : ((0 : UInt8).toNat : Int) = 0 := rfl
            have HE : Hid (∀ hl : a + n < s.size, s[a + n] = 0) := by intro hl; simpa [hj2] using hb
            clear hj2 HA h53 hal
            go_wp2
            go_meet
            case rel => exact ⟨rfl, n, rfl, HZ.out, HE.out⟩
          · have hz : ¬ (b.toNat : Int) = 0 := fun e => h2 (by apply UInt8.toNat_inj.1; simpa using e)
            have HE : Hid (n + 1 ≤ 53 ∧ NoZ s a (n + 1)) := ⟨by omega, HZ.out.next (by omega) (by intro e; apply h2; rw [← hb]; simpa [hj2] using e)⟩
            clear hj2 HA h53 hal h2
            go_wp2
            go_roundw
            case rel => exact ⟨by trivial, n + 1, by go_num, HE.out.2⟩
            case measure => have := HE.out.1; simp [intOf]; omega
        · have t1 : ¬ (j : Int) < s.size := by omega
          have HE : Hid (∀ hl : a + n < s.size, s[a + n] = 0) := by intro hl; exact absurd hl (by omega)
          clear hj2 HA h53 hal
          go_wp2
          go_meet
          case rel => exact ⟨rfl, n, rfl, HZ.out, HE.out⟩
    case rest =>
      obtain ⟨hwc, n, rfl, HZ⟩ := hcut
      have hwc' := hwc.symm
      subst hwc'
      clear hwc
      have hT : arTx (amV (fM 1 s) g0 1).s a m = if a + n < s.size ∧ (n : Int) ≤ m then (s.extract a (a + n), true) else (⟨#[]⟩, false) := by
        rw [fM_get (by omega) (by omega) (by have := HA.out.2.1; omega)]
        exact HZ.out.1.tx HZ.out.2 m
      have han : a + n ≤ s.size := HZ.out.1.1
      have h53 := HA.out.2.1
      have m12 := HA.out.1
      have c1 := H2.out.t
      go_wp2_with fail
      refine (sg_atext H2.out 1 a m (by omega)).mono ?_
      rintro e w5 ⟨rfl, h5, -⟩
      have H5 : Hid (SideG (fM 1 s) w T p B q N (amT g0 1) w5) := h5
      have c5 := h5.t
      clear H2 h5 c1 HZ HA
      by_cases ht : a + n < s.size ∧ (n : Int) ≤ m
      · have hR : arR (arTx (amV (fM 1 s) g0 1).s a m) = .tuple #[.string (s.extract a (a + n)), .bool true] := by rw [hT, if_pos ht]; rfl
        rw [hR]
        clear hR hT
        obtain ⟨t1, t2⟩ := ht
        have t3 : (a : Int) + n < s.size := by omega
        go_wp2_with fail
        refine (sg_atext H5.out 1 (-1 - (m : Int)) 9 (by omega)).mono ?_
        rintro e w6 ⟨rfl, h6, -⟩
        rw [tx_low _ (by omega)]
        have K6 : Hid (Kept (fun _ => False) w w6) := h6.kept
        clear H5 h6 c5
        have t4 : (a : Int) ≤ (a : Int) + n := by omega
        have t5 : (0 : Int) ≤ (a : Int) := by omega
        obtain ⟨j, hj, hj2⟩ : ∃ j : Nat, (a : Int) + n = j ∧ a + n = j := ⟨a + n, by omega, rfl⟩
        rw [hj] at t3 t4
        rw [hj2]
        have t6 : (j : Int) ≤ s.size := by omega
        clear hj2 han
        go_wp2_with fail
        refine (runs_w _).mono ?_
        rintro e w7 ⟨rfl, hk7⟩
        have K7 : Hid (Kept (fun _ => False) w w7) := K6.out.thru hk7
        clear K6 hk7
        go_wp2_with fail
        go_ret
        exact ⟨rfl, K7.out⟩
      · have hR : arR (arTx (amV (fM 1 s) g0 1).s a m) = .tuple #[.string ⟨#[]⟩, .bool false] := by rw [hT, if_neg ht]; rfl
        rw [hR]
        clear hR hT
        by_cases h1 : a + n < s.size
        · have t1 : (a : Int) + n < s.size := by omega
          have t2 : ¬ (n : Int) ≤ m := fun h => ht ⟨h1, h⟩
          have t3 : ¬ n ≤ m := by omega
          clear ht
          go_wp2_with fail
          refine (sg_atext H5.out 1 (-1 - (m : Int)) 9 (by omega)).mono ?_
          rintro e w6 ⟨rfl, h6, -⟩
          rw [tx_low _ (by omega)]
          have K6 : Hid (Kept (fun _ => False) w w6) := h6.kept
          clear H5 h6 c5
          go_wp2_with fail
          refine (runs_w _).mono ?_
          rintro e w7 ⟨rfl, hk7⟩
          have K7 : Hid (Kept (fun _ => False) w w7) := K6.out.thru hk7
          clear K6 hk7
          go_wp2_with fail
          go_ret
          exact ⟨rfl, K7.out⟩
        · have t1 : ¬ (a : Int) + n < s.size := by omega
          clear ht
          go_wp2_with fail
          refine (sg_atext H5.out 1 (-1 - (m : Int)) 9 (by omega)).mono ?_
          rintro e w6 ⟨rfl, h6, -⟩
          rw [tx_low _ (by omega)]
          have K6 : Hid (Kept (fun _ => False) w w6) := h6.kept
          clear H5 h6 c5
          go_wp2_with fail
          refine (runs_w _).mono ?_
          rintro e w7 ⟨rfl, hk7⟩
          have K7 : Hid (Kept (fun _ => False) w w7) := K6.out.thru hk7
          clear K6 hk7
          go_wp2_with fail
          go_ret
          exact ⟨rfl, K7.out⟩
end Go.Proofs.Ytigfgnaakoicjaa
