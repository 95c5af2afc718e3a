
/- What the document's own RightName, Pack and Split do when they are called; no conditions but a length. -/
import Derived.Test.YtkpcillgoeidaaaNUnp
import Derived.Test.YtkpcillgoeidaaaNRow
namespace Go.Proofs.Ytkpcillgoeidaaa.Nm
set_option maxRecDepth 100000
open Go.RowKit

theorem right_no {l : Bs} {i : Nat} {x : UInt8} (h : l[i]? = some x) (hx : x = 47 ∨ x = 0) : rightF l = false := by
  cases hr : rightF l with
  | false => rfl
  | true =>
    have := right_iff.1 hr
    have hm : x ∈ l := List.mem_of_getElem? h
    rcases hx with rfl | rfl
    · exact absurd hm this.2.2.1
    · exact absurd hm this.2.2.2

theorem right_all {l : Bs} (h1 : l.length ≤ ahd l 47) (h2 : l.length ≤ ahd l 0) : rightF l = (decide (1 ≤ l.length) && decide (l.length ≤ 14)) := by
  have e1 : ahd l 47 = l.length := Nat.le_antisymm (ahd_le _ _) h1
  have e2 : ahd l 0 = l.length := Nat.le_antisymm (ahd_le _ _) h2
  unfold rightF
  simp [e1, e2]

theorem byte_eq (x y : UInt8) (c : Int) (hc : (y.toNat : Int) = c) : (((x.toNat : Int)) == c) = decide (x = y) := by
  rw [← hc, Bool.eq_iff_iff, beq_iff_eq, decide_eq_true_eq]
  constructor
  · intro h; exact UInt8.toNat_inj.1 (by omega)
  · rintro rfl; rfl
theorem byte_ne (x y : UInt8) (c : Int) (hc : (y.toNat : Int) = c) : (((x.toNat : Int)) != c) = !decide (x = y) := by
  rw [bne, byte_eq x y c hc]

theorem right_r (s : ByteArray) (hs : s.size ≤ 1000000) (w : World) :
    Calls Try.prog 45 #[.string s] w fun e w' => e = .returned (.bool (rightF (bl s))) ∧ w' = w := by
  go_enter Try.func45, Try.ntmps45
  go_wp2
  go_loop [3] (fun x => ∃ i : Nat, x = .int .i64 i ∧ i ≤ s.size ∧ Hid (i ≤ ahd (bl s) 47 ∧ i ≤ ahd (bl s) 0)) (fun x => s.size + 1 - (intOf x).toNat)
  case atStart => exact ⟨0, rfl, Nat.zero_le _, Nat.zero_le _, Nat.zero_le _⟩
  case round =>
    obtain ⟨i, rfl, hi, HA⟩ := hrel
    by_cases hlt : i < s.size
    · have t1 : (i : Int) < s.size := by omega
      have hat := bl_at s hlt
      obtain ⟨x, hx⟩ : ∃ x : UInt8, s[i] = x := ⟨_, rfl⟩
      rw [hx] at hat
      have b1 := byte_eq x 47 47 rfl
      have b2 := byte_eq x 0 0 rfl
      by_cases h1 : x = 47
      · have hr := right_no hat (.inl h1)
        rw [decide_eq_true h1] at b1
        clear b2 h1
        go_wp2
        go_ret
        exact ⟨rfl, rfl⟩
      · rw [decide_eq_false h1] at b1
        by_cases h2 : x = 0
        · have hr := right_no hat (.inr h2)
          rw [decide_eq_true h2] at b2
          clear h1 h2
          go_wp2
          go_ret
          exact ⟨rfl, rfl⟩
        · rw [decide_eq_false h2] at b2
          have HN : Hid (i + 1 ≤ ahd (bl s) 47 ∧ i + 1 ≤ ahd (bl s) 0) := ⟨ahd_go HA.out.1 hat h1, ahd_go HA.out.2 hat h2⟩
          clear h1 h2 HA
          go_wp2
          go_round
          case rel => exact ⟨i + 1, by simp, by omega, HN.out⟩
          case measure => simp [intOf]; omega
    · have t1 : ¬ (i : Int) < s.size := by omega
      have hr := right_all (l := bl s) (by rw [bl_len]; have := HA.out.1; omega) (by rw [bl_len]; have := HA.out.2; omega)
      rw [bl_len] at hr
      have HR : Hid (rightF (bl s) = (decide (1 ≤ s.size) && decide (s.size ≤ 14))) := hr
      clear hr HA
      by_cases h1 : 1 ≤ s.size
      · have t2 : (1 : Int) ≤ s.size := by omega
        by_cases h2 : s.size ≤ 14
        · have t3 : (s.size : Int) ≤ 14 := by omega
          go_wp2
          go_ret
          refine ⟨ret_bool ?_, rfl⟩
          rw [HR.out]; simp [h1, h2]
        · have t3 : ¬ (s.size : Int) ≤ 14 := by omega
          go_wp2
          go_ret
          refine ⟨ret_bool ?_, rfl⟩
          rw [HR.out]; simp [h2]
      · have t2 : ¬ (1 : Int) ≤ s.size := by omega
        go_wp2
        go_ret
        refine ⟨ret_bool ?_, rfl⟩
        rw [HR.out]; simp [h1]

set_option maxHeartbeats 1000000 in
theorem pack_r (s : ByteArray) (n : Int) (w : World) :
    Calls Try.prog 50 #[.string s, .int .i64 n] w fun e w' => e = .returned (.string (bs (packF (bl s) n))) ∧ Kept (fun _ => False) w w' := by
  obtain ⟨i0, hi, hz0, hz1, hz2⟩ := info_parts info_byte
  have hmk : ∀ W : World, (Instr.makeSlice 52 (.int .i64 16) (.int .i64 16)).run Try.prog W = .ok (.slice (some ⟨W.heap.size, 0, none⟩) 16 16) (W.alloc (.cells zero16 5)) := fun W => by
    have h := run_make (P := Try.prog) W 52 5 i0 (.int .u8 0) Try.underlying52 hi hz0 .i64 .i64 16 16 (by omega) (by omega) (by rw [hz2]; omega) (by omega)
    rw [hz1] at h
    have e : madeCells (Value.int .u8 0).cells ((16 : Int).toNat * 1) = zero16 := by kernel_rfl
    rw [e] at h
    simpa using h
  obtain ⟨m, Y, wY, hcp, hgY, hY, hk⟩ := copy_in (w.alloc (.cells zero16 5)) w.heap.size 5 3 s (heap_alloc_new w _)
  have hK : Kept (fun _ => False) w wY := ((Kept.refl (fun _ => False) w).alloc _).trans hk (fun k hk e => by subst e; simp at hk)
  have c14 := cell_at hgY (i := 14) (list_at hY (x := (halfF (bl s))[14]'(by rw [half_len]; decide)) (List.getElem?_eq_getElem _))
  have c15 := cell_at hgY (i := 15) (list_at hY (x := (halfF (bl s))[15]'(by rw [half_len]; decide)) (List.getElem?_eq_getElem _))
  have f14 := free_at hgY 14
  have f15 := free_at hgY 15
  have ho := fun a b ha hb => pack_out wY w.heap.size 5 Y (bl s) n a b hgY hY ha hb
  generalize (halfF (bl s))[14]'(by rw [half_len]; decide) = x14 at c14
  generalize (halfF (bl s))[15]'(by rw [half_len]; decide) = x15 at c15
  clear hgY hY hk hi hz0 hz1 hz2
  go_enter Try.func50, Try.ntmps50
  go_wp2
  go_ret
  refine ⟨rfl, Kept.setCell (Kept.setCell hK ?_ _) ?_ _⟩
  · intro h; exact absurd h (Nat.lt_irrefl _)
  · intro h; exact absurd h (Nat.lt_irrefl _)

end Go.Proofs.Ytkpcillgoeidaaa.Nm
