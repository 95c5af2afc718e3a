
/- Stores and views, the reference's side; no conditions but lengths. -/
import Derived.Test.YtbhpkjedkccdpaaDoorStA
import Derived.Test.YtbhpkjedkccdpaaDoorStB
import Derived.Deep.CutBlock
namespace Go.Proofs.YtbhpkjedkccdpaaDoor
open Go.RowKit
set_option maxRecDepth 100000

def szs : Array Value := #[.int .i64 1, .int .i64 1, .int .i64 1, .int .i64 8, .int .i64 1, .int .i64 12, .int .i64 1, .int .i64 4, .int .i64 1, .int .i64 16, .int .i64 1, .int .i64 8]

theorem szs_get {i : Nat} (h : i < 12) : szs[i]? = some (.int .i64 (cnt ((i : Int) + 1))) := by
  have : ∀ i : Nat, i < 12 → szs[i]? = some (.int .i64 (cnt ((i : Int) + 1))) := by
    intro i h
    rcases i with _ | _ | _ | _ | _ | _ | _ | _ | _ | _ | _ | _ | i <;> first | rfl | omega
  exact this i h

theorem sizes_w (w : World) : Calls Tryd.prog 78 #[] w fun e w' => e = .returned (.slice (some ⟨w.heap.size, 0, none⟩) 12 12) ∧ w' = w.alloc (.cells szs 3) := by
  go_enter Tryd.func78, Tryd.ntmps78
  go_wp2
  go_ret
  exact ⟨rfl, rfl⟩

theorem refall_w (w : World) : Calls Tryd.prog 53 #[] w fun e w' => e = .returned (.int .i64 55) ∧ Kept (fun _ => False) w w' := by
  obtain ⟨B, hB⟩ : ∃ B : Nat, w.heap.size = B := ⟨_, rfl⟩
  have Z := sizes_w w
  rw [hB] at Z
  go_enter Tryd.func53, Tryd.ntmps53
  go_wp2_with fail
  refine Z.mono ?_
  rintro e w1 ⟨rfl, hw⟩
  clear Z
  have HB : Hid (w1.heap[B]? = some (.cells szs 3 (0, 0))) := by subst hw; exact alloc_at' _ hB
  have HK : Hid (Kept (fun _ => False) w w1) := by subst hw; exact (Kept.refl _ _).alloc _
  clear hw
  go_wp2
  go_loop [1, 6] (fun n s => ∃ i : Nat, s = .int .i64 i ∧ i ≤ 12 ∧ n = .int .i64 (ahd ((i : Int) + 1))) (fun _ s => 12 - (intOf s).toNat)
  case atStart => exact ⟨0, rfl, Nat.zero_le _, rfl⟩
  case round =>
    obtain ⟨i, rfl, hi, rfl⟩ := hrel
    by_cases hlt : i < 12
    · have t1 : (i : Int) < 12 := by omega
      have c0 := cell_at HB.out (szs_get hlt)
      have hc := cnt_bounds ((i : Int) + 1)
      have hb := ahd_bounds ((i : Int) + 1)
      have HN : Hid _ := ahd_next (k := (i : Int) + 1) (by omega) (by omega)
      generalize cnt ((i : Int) + 1) = c at *
      generalize ahd ((i : Int) + 1) = a at *
      clear HB
      go_wp2
      go_round
      case rel => exact ⟨i + 1, by go_num, by omega, by rw [← HN.out]; rfl⟩
      case measure => simp [intOf]; omega
    · obtain rfl : i = 12 := by omega
      clear HB
      go_wp2
      go_ret
      exact ⟨rfl, HK.out⟩

set_option maxHeartbeats 800000 in
theorem refplace_w (x y : Int) (w : World) : Calls Tryd.prog 70 #[.agg #[.int .i64 x, .int .i64 y]] w fun e w' => e = .returned (.int .i64 (plc (x, y))) ∧ Kept (fun _ => False) w w' := by
  obtain ⟨B, hB⟩ : ∃ B : Nat, w.heap.size = B := ⟨_, rfl⟩
  have Z := sizes_w (w.alloc (.cells #[.int .i64 x, .int .i64 y] 54))
  rw [show (w.alloc (.cells #[.int .i64 x, .int .i64 y] 54)).heap.size = B + 1 by simp [hB]] at Z
  go_enter Tryd.func70, Tryd.ntmps70
  go_wp2_with fail
  refine Z.mono ?_
  rintro e w1 ⟨rfl, hw⟩
  clear Z
  have HB : Hid (w1.heap[B + 1]? = some (.cells szs 3 (0, 0))) := by subst hw; exact alloc_at' _ (by simp [hB])
  have hX : w1.heap[B]? = some (.cells #[.int .i64 x, .int .i64 y] 54 (0, 0)) := by subst hw; exact alloc_off (alloc_at' _ hB)
  have HK : Hid (Kept (fun _ => False) w w1) := by subst hw; exact ((Kept.refl _ _).alloc _).alloc _
  have x0 := cell_at hX (i := 0) rfl
  have x1 := cell_at hX (i := 1) rfl
  clear hw hX
  go_wp2
  go_loop [3, 8] (fun n s => ∃ i : Nat, s = .int .i64 i ∧ i ≤ 12 ∧ n = .int .i64 (ahd ((i : Int) + 1)) ∧ Hid (∀ j : Nat, j < i → ¬ x = (j : Int) + 1)) (fun _ s => 12 - (intOf s).toNat)
  case atStart => exact ⟨0, rfl, Nat.zero_le _, rfl, fun j hj => by omega⟩
  case round =>
    obtain ⟨i, rfl, hi, rfl, HJ⟩ := hrel
    by_cases hlt : i < 12
    · have t1 : (i : Int) < 12 := by omega
      have c0 := cell_at HB.out (szs_get hlt)
      have hc := cnt_bounds ((i : Int) + 1)
      have hb := ahd_bounds ((i : Int) + 1)
      have HN : Hid _ := ahd_next (k := (i : Int) + 1) (by omega) (by omega)
      by_cases hx : x = (i : Int) + 1
      · by_cases hy : 0 ≤ y ∧ y < cnt ((i : Int) + 1)
        · have HP : Hid (plc ((i : Int) + 1, y) = ahd ((i : Int) + 1) + y) := plc_is hy.1 hy.2
          obtain ⟨y0, y1⟩ := hy
          generalize cnt ((i : Int) + 1) = c at *
          generalize ahd ((i : Int) + 1) = a at *
          clear HB HJ HN
          go_wp2
          go_ret
          exact ⟨ret_int (by rw [HP.out]), HK.out⟩
        · have HP : Hid (plc ((i : Int) + 1, y) = -1) := plc_no (by show y < 0 ∨ cnt ((i : Int) + 1) ≤ y; omega)
          by_cases y0 : y < 0
          · clear HB HJ HN hy
            go_wp2
            go_ret
            exact ⟨ret_int (by rw [HP.out]), HK.out⟩
          · have y1 : cnt ((i : Int) + 1) ≤ y := by omega
            generalize cnt ((i : Int) + 1) = c at *
            clear HB HJ HN hy
            go_wp2
            go_ret
            exact ⟨ret_int (by rw [HP.out]), HK.out⟩
      · generalize cnt ((i : Int) + 1) = c at *
        generalize ahd ((i : Int) + 1) = a at *
        have hd : (x == (i : Int) + 1) = false := by simpa using hx
        have HX : Hid _ := hx
        clear HB hx
        go_wp2
        go_round
        case rel =>
          refine ⟨i + 1, by go_num, by omega, by rw [← HN.out]; rfl, fun j hj => ?_⟩
          rcases Nat.lt_or_ge j i with h | h
          · exact HJ.out j h
          · obtain rfl : j = i := by omega
            exact HX.out
        case measure => simp [intOf]; omega
    · obtain rfl : i = 12 := by omega
      have HP : Hid (plc (x, y) = -1) := by
        refine plc_no (Classical.byContradiction fun hn => ?_)
        have h1 : 0 < cnt x := by simp only at hn; omega
        obtain ⟨a, b⟩ := cnt_pos h1
        exact HJ.out (x.toNat - 1) (by omega) (by omega)
      clear HB HJ
      go_wp2
      go_ret
      exact ⟨ret_int (by rw [HP.out]), HK.out⟩

set_option maxHeartbeats 800000 in
theorem refat_w (p : Int) (w : World) : Calls Tryd.prog 54 #[.int .i64 p] w fun e w' => e = .returned (.tuple #[.agg #[.int .i64 (keyAt p).1, .int .i64 (keyAt p).2], .bool (isAt p)]) ∧ Kept (fun _ => False) w w' := by
  obtain ⟨B, hB⟩ : ∃ B : Nat, w.heap.size = B := ⟨_, rfl⟩
  have Z := sizes_w (w.alloc (.cells #[.int .i64 0, .int .i64 0] 54))
  rw [show (w.alloc (.cells #[.int .i64 0, .int .i64 0] 54)).heap.size = B + 1 by simp [hB]] at Z
  go_enter Tryd.func54, Tryd.ntmps54
  go_wp2_with fail
  refine Z.mono ?_
  rintro e w1 ⟨rfl, hw⟩
  clear Z
  have HB : Hid (w1.heap[B + 1]? = some (.cells szs 3 (0, 0))) := by subst hw; exact alloc_at' _ (by simp [hB])
  have hX : w1.heap[B]? = some (.cells #[.int .i64 0, .int .i64 0] 54 (0, 0)) := by subst hw; exact alloc_off (alloc_at' _ hB)
  have HK : Hid (Kept (fun _ => False) w w1) := by subst hw; exact ((Kept.refl _ _).alloc _).alloc _
  have x0 := cell_at hX (i := 0) rfl
  have x1 := cell_at hX (i := 1) rfl
  have f0 := free_at hX 0
  have f1 := free_at hX 1
  have HX : Hid _ := hX
  clear hw hX
  go_wp2
  go_loop [4, 9] (fun n s => ∃ i : Nat, s = .int .i64 i ∧ i ≤ 12 ∧ n = .int .i64 (ahd ((i : Int) + 1)) ∧ (0 ≤ p → ahd ((i : Int) + 1) ≤ p)) (fun _ s => 12 - (intOf s).toNat)
  case atStart => exact ⟨0, rfl, Nat.zero_le _, rfl, fun h => h⟩
  case round =>
    obtain ⟨i, rfl, hi, rfl, hge⟩ := hrel
    by_cases hlt : i < 12
    · have t1 : (i : Int) < 12 := by omega
      have c0 := cell_at HB.out (szs_get hlt)
      have hc := cnt_bounds ((i : Int) + 1)
      have hb := ahd_bounds ((i : Int) + 1)
      have HN : Hid _ := ahd_next (k := (i : Int) + 1) (by omega) (by omega)
      by_cases hin : ahd ((i : Int) + 1) ≤ p ∧ p < ahd ((i : Int) + 1) + cnt ((i : Int) + 1)
      · have HP : Hid (keyAt p = ((i : Int) + 1, p - ahd ((i : Int) + 1))) := keyAt_is (by omega) (by omega) hin.1 (by omega)
        have HI : Hid (isAt p = true) := isAt_yes (by omega) (ahd_lt (k := (i : Int) + 1) (by omega) (by omega) (by omega))
        obtain ⟨h1, h2⟩ := hin
        clear hge
        generalize cnt ((i : Int) + 1) = c at *
        generalize ahd ((i : Int) + 1) = a at *
        clear HB HN
        go_wp2
        have h' := set_at (set_at HX.out 0 (.int .i64 ((i : Int) + 1))) 1 (.int .i64 (p - a))
        have z0 := cell_at h' (i := 0) rfl
        have z1 := cell_at h' (i := 1) rfl
        refine bodyPost_ret (v := .tuple #[.agg #[.int .i64 ((i : Int) + 1), .int .i64 (p - a)], .bool true]) (by simp [results, Tryd.results54, go_sem, z0, z1]) rfl ⟨?_, ?_⟩
        · rw [HP.out, HI.out]
        · exact Kept.setCell (Kept.setCell HK.out (fun h => by simp only at h; omega) _) (fun h => by simp only at h; omega) _
      · have HG : Hid (0 ≤ p → ahd ((i : Int) + 1) + cnt ((i : Int) + 1) ≤ p) := fun h => by have := hge h; omega
        clear hge
        generalize cnt ((i : Int) + 1) = c at *
        generalize ahd ((i : Int) + 1) = a at *
        by_cases h1 : a ≤ p
        · have h2 : a + c ≤ p := by omega
          clear HB hin
          go_wp2
          go_round
          case rel => exact ⟨i + 1, by go_num, by omega, by rw [← HN.out]; rfl, fun h => by have := HG.out h; rw [← HN.out] at this; exact this⟩
          case measure => simp [intOf]; omega
        · have hd : decide (a ≤ p) = false := by simpa using h1
          clear HB hin
          go_wp2
          go_round
          case rel => exact ⟨i + 1, by go_num, by omega, by rw [← HN.out]; rfl, fun h => by have := HG.out h; rw [← HN.out] at this; exact this⟩
          case measure => simp [intOf]; omega
    · obtain rfl : i = 12 := by omega
      have HP : Hid (keyAt p = (0, 0) ∧ isAt p = false) := by
        show keyAt p = (0, 0) ∧ isAt p = false
        by_cases h0 : p < 0
        · exact ⟨keyAt_low h0, isAt_low h0⟩
        · have h55 : 55 ≤ p := hge (by omega)
          exact ⟨keyAt_high h55, isAt_high h55⟩
      clear HB hge
      go_wp2
      have h' := set_at (set_at HX.out 0 (.int .i64 0)) 1 (.int .i64 0)
      have z0 := cell_at h' (i := 0) rfl
      have z1 := cell_at h' (i := 1) rfl
      refine bodyPost_ret (v := .tuple #[.agg #[.int .i64 0, .int .i64 0], .bool false]) (by simp [results, Tryd.results54, go_sem, z0, z1]) rfl ⟨?_, ?_⟩
      · rw [HP.out.1, HP.out.2]
      · exact Kept.setCell (Kept.setCell HK.out (fun h => by simp only at h; omega) _) (fun h => by simp only at h; omega) _
end Go.Proofs.YtbhpkjedkccdpaaDoor

namespace Go.Proofs.YtbhpkjedkccdpaaDoor
open Go.RowKit
set_option maxRecDepth 100000
set_option linter.unusedSimpArgs false

theorem mapRV : Tryd.prog.underlying 110 = some (.map 3 51) := Tryd.underlying110
theorem mapRS : Tryd.prog.underlying 116 = some (.map 3 4) := Tryd.underlying116

def byP {ν : Type} (f : K2 → Option ν) : Int → Option ν := fun j => if 0 ≤ j ∧ j < 55 then f (keyAt j) else none

theorem byP_none {ν : Type} : byP (fun _ => (none : Option ν)) = fun _ => none := by
  funext j; unfold byP; split <;> rfl

theorem byP_plc {ν : Type} {f : K2 → Option ν} (hg : ∀ k, (f k).isSome = true → 0 ≤ plc k) (k : K2) : byP f (plc k) = f k := by
  have hb := plc_bounds k
  unfold byP
  by_cases h : 0 ≤ plc k
  · rw [if_pos ⟨h, hb.2⟩, keyAt_plc h]
  · rw [if_neg (by omega)]
    cases hf : f k with
    | none => rfl
    | some t => exact absurd (hg k (by rw [hf]; rfl)) h

theorem byP_upd {ν : Type} {f : K2 → Option ν} {k : K2} (h : 0 ≤ plc k) (v : ν) : upd (byP f) (plc k) v = byP (upd f k v) := by
  funext j
  have hb := plc_bounds k
  unfold upd byP
  by_cases e : j = plc k
  · subst e
    rw [if_pos rfl, if_pos ⟨h, hb.2⟩, keyAt_plc h]
    exact (if_pos rfl).symm
  · rw [if_neg e]
    split
    · rename_i hj
      refine (if_neg ?_).symm
      intro e2
      exact e (by rw [← e2, plc_keyAt hj.1 hj.2])
    · rfl

structure RStoreIn (p B : Nat) (f : StF) (w : World) : Prop where
  cell : w.heap[p]? = some (.cells #[.map (some B)] 112 (0, 0))
  map : MapIn iv vv B (byP f) w
  good : ∀ k, (f k).isSome = true → 0 ≤ plc k

theorem RStoreIn.kept {X : Nat → Prop} {p B : Nat} {f : StF} {w w' : World} (h : RStoreIn p B f w) (hk : Kept X w w') (hp : ¬ X p) (hB : ¬ X B) : RStoreIn p B f w' :=
  ⟨hk.at h.cell hp, h.map.kept hk hB, h.good⟩
theorem RStoreIn.still {p B : Nat} {f : StF} {w w' : World} (h : RStoreIn p B f w) (hk : Kept (fun _ => False) w w') : RStoreIn p B f w' := h.kept hk (fun x => x) (fun x => x)

theorem rlook_v {B : Nat} {f : StF} {w : World} (hg : ∀ k, (f k).isSome = true → 0 ≤ plc k) (h : MapIn iv vv B (byP f) w) (k : K2) : (Instr.lookup 110 (.map (some B)) (.int .i64 (plc k)) false).run Tryd.prog w = .ok (vv (lookF f k)) w := by
  have := h.look keyok_iv mapRV zero_value (plc k) false
  rw [byP_plc hg] at this
  rw [show (Value.int .i64 (plc k)) = iv (plc k) from rfl, this]
  unfold lookF
  cases f k <;> rfl

theorem rlook_ok {B : Nat} {f : StF} {w : World} (hg : ∀ k, (f k).isSome = true → 0 ≤ plc k) (h : MapIn iv vv B (byP f) w) (k : K2) : (Instr.lookup 110 (.map (some B)) (.int .i64 (plc k)) true).run Tryd.prog w = .ok (.tuple #[vv (lookF f k), .bool (f k).isSome]) w := by
  have := h.look keyok_iv mapRV zero_value (plc k) true
  rw [byP_plc hg] at this
  rw [show (Value.int .i64 (plc k)) = iv (plc k) from rfl, this]
  unfold lookF
  cases f k <;> rfl

theorem rnew_w (w : World) : Calls Tryd.prog 38 #[] w fun e w' => ∃ p B, e = .returned (.pointer (some ⟨p, 0, none⟩)) ∧ RStoreIn p B (fun _ => none) w' ∧ Kept (fun _ => False) w w' ∧ w.heap.size ≤ p ∧ w.heap.size ≤ B := by
  obtain ⟨E, hE⟩ : ∃ E : Nat, w.heap.size = E := ⟨_, rfl⟩
  have hmm := @run_makeMap Tryd.prog
  go_enter Tryd.func38, Tryd.ntmps38
  go_wp2
  go_ret
  exact ⟨E + 1, E, rfl, ⟨alloc_at' _ (by simp [hE]), by rw [byP_none]; exact (MapIn.made hE).still ((Kept.refl _ _).alloc _), by simp⟩, ((Kept.refl _ _).alloc _).alloc _, by omega, by omega⟩

set_option maxHeartbeats 400000 in
theorem rget_w (p B : Nat) (f : StF) (x y : Int) (w : World) (h : RStoreIn p B f w) : Calls Tryd.prog 56 #[.pointer (some ⟨p, 0, none⟩), .agg #[.int .i64 x, .int .i64 y]] w fun e w' => e = .returned (vv (lookF f (x, y))) ∧ Kept (fun _ => False) w w' := by
  obtain ⟨E, hE⟩ : ∃ E : Nat, w.heap.size = E := ⟨_, rfl⟩
  go_enter Tryd.func56, Tryd.ntmps56
  go_wp2_with fail
  rw [← zero_cells]
  obtain ⟨wA, hA⟩ : ∃ wA, (w.alloc (.cells #[.int .i64 x, .int .i64 y] 54)).alloc (.cells (vc zeroV).toArray 51) = wA := ⟨_, rfl⟩
  have hkA : Kept (fun _ => False) w wA := by subst hA; exact ((Kept.refl _ _).alloc _).alloc _
  have hk : wA.heap[E]? = some (.cells #[.int .i64 x, .int .i64 y] 54 (0, 0)) := by subst hA; exact alloc_off (alloc_at' _ hE)
  have hz : wA.heap[E + 1]? = some (.cells (vc zeroV).toArray 51 (0, 0)) := by subst hA; exact alloc_at' _ (by simp [hE])
  rw [hA]
  clear hA
  have hp : p < E := by have := lt_at h.cell; omega
  have hB : B < E := by have := h.map.lt; omega
  have KS : ∀ w', Kept (fun n => n = E + 1) wA w' → (w'.cell? ⟨p, 0, none⟩ = some (.map (some B)) ∧ w'.cell? ⟨E, 0, none⟩ = some (.int .i64 x) ∧ w'.cell? ⟨E, 1, none⟩ = some (.int .i64 y)) :=
    fun w' hk' => ⟨hk'.cell (cell_at (hkA.at h.cell (fun x => x)) rfl) (by simp; omega), hk'.cell (cell_at hk rfl) (by simp), hk'.cell (cell_at hk rfl) (by simp)⟩
  have KM : ∀ w', Kept (fun n => n = E + 1) wA w' → (Instr.lookup 110 (.map (some B)) (.int .i64 (plc (x, y))) false).run Tryd.prog w' = .ok (vv (lookF f (x, y))) w' :=
    fun w' hk' => rlook_v h.good ((h.map.still hkA).kept hk' (by omega)) (x, y)
  refine wp_region_held_drew (S := fun w' => Kept (fun n => n = E + 1) wA w') (by kernel_rfl) ((Kept.refl _ _).drew) (fun hHeld => ?_)
  refine h_take 0 (some 5) (Op.move (Operand.tmp 0)) 26 ?v1 rfl rfl (by kernel_rfl) (by kernel_rfl) (by kernel_rfl) (fun _ _ _ h => h) ?hy1 hHeld ?_
  case hy1 => (intro _ _ _ w hSw; have hcs := KS _ hSw; go_simp; try with_reducible rfl)
  simp only [Act.put, List.setIfInBounds_toArray, List.set_cons_zero, List.set_cons_succ]
  refine h_take 1 (some 6) (Op.nilCheck (Operand.tmp 5)) 0 ?v2 rfl rfl (by kernel_rfl) (by kernel_rfl) (by kernel_rfl) (fun _ _ _ h => h) ?hy2 hHeld ?_
  case hy2 => (intro _ _ _ w hSw; have hcs := KS _ hSw; go_simp; try with_reducible rfl)
  simp only [Act.put, List.setIfInBounds_toArray, List.set_cons_zero, List.set_cons_succ]
  refine h_take 2 (some 7) (Op.fieldAddr 112 (Operand.tmp 6) 0) 0 ?v3 rfl rfl (by kernel_rfl) (by kernel_rfl) (by kernel_rfl) (fun _ _ _ h => h) ?hy3 hHeld ?_
  case hy3 => (intro _ _ _ w hSw; have hcs := KS _ hSw; go_simp; try with_reducible rfl)
  simp only [Act.put, List.setIfInBounds_toArray, List.set_cons_zero, List.set_cons_succ]
  refine h_take 3 (some 8) (Op.load 110 (Operand.tmp 7)) 110 ?v4 rfl rfl (by kernel_rfl) (by kernel_rfl) (by kernel_rfl) (fun _ _ _ h => h) ?hy4 hHeld ?_
  case hy4 => (intro _ _ _ w hSw; have hcs := KS _ hSw; go_simp; try with_reducible rfl)
  simp only [Act.put, List.setIfInBounds_toArray, List.set_cons_zero, List.set_cons_succ]
  refine h_take 4 (some 9) (Op.load 54 (Operand.tmp 3)) 54 ?v5 rfl rfl (by kernel_rfl) (by kernel_rfl) (by kernel_rfl) (fun _ _ _ h => h) ?hy5 hHeld ?_
  case hy5 => (intro _ _ _ w hSw; have hcs := KS _ hSw; go_simp; try with_reducible rfl)
  simp only [Act.put, List.setIfInBounds_toArray, List.set_cons_zero, List.set_cons_succ]
  refine h_step 5 (some 10) (Op.call { callee := Callee.value (Operand.func 70), args := #[Operand.tmp 9], argTypes := #[54] }) 3 rfl rfl (by kernel_rfl) (fun _ _ _ K hK => ?_)
  go_simp
  refine (refplace_w x y _).mono ?_
  rintro e w1 ⟨rfl, hk1⟩
  have k1 : Kept (fun _ => False) wA w1 := (Kept.refl _ wA).drew.thru hk1
  go_wp2_with fail
  refine hK.out _ _ (k1.mono (fun _ _ e => e.elim)) (fun hHeld => ?_)
  clear hK K
  try simp only [Act.put, List.setIfInBounds_toArray, List.set_cons_zero, List.set_cons_succ]
  refine h_take 6 (some 11) (Op.lookup 110 (Operand.tmp 8) (Operand.tmp 10) false) 51 (vv (lookF f (x, y))) rfl rfl (by kernel_rfl) (by kernel_rfl) (by kernel_rfl) (fun _ _ _ h => h) (fun _ _ _ w hSw => exec_look rfl rfl (KM w hSw)) hHeld ?_
  simp only [Act.put, List.setIfInBounds_toArray, List.set_cons_zero, List.set_cons_succ]
  have hz1 := k1.at hz (fun x => x)
  refine h_step 7 (none) (Op.store 51 (Operand.tmp 4) (Operand.tmp 11)) 0 rfl rfl (by kernel_rfl) (fun _ _ _ K hK => ?_)
  refine wp_skip (exec_store rfl rfl (store_wide wide_V (old := vc zeroV) (cs := vc (lookF f (x, y))) hz1 rfl rfl (vc_one _))) ?_
  refine hK.out _ _ ((k1.mono (fun _ _ e => e.elim)).trans (kept_setRow _ _ _) (fun _ _ e => e)) (fun hHeld => ?_)
  clear hK K
  try simp only [Act.put, List.setIfInBounds_toArray, List.set_cons_zero, List.set_cons_succ]
  refine wpAnyH_done (by kernel_rfl) ?_ _
  have hz' := setRow_at (w := w1) hz1 (vc (lookF f (x, y))).toArray
  have hK' := kept_setRow w1 (E + 1) (vc (lookF f (x, y))).toArray
  have hW : Kept (fun _ => False) w (w1.setRow (E + 1) (vc (lookF f (x, y))).toArray) := (hkA.thru k1).trans hK' (fun k h1 h2 => by omega)
  generalize w1.setRow (E + 1) (vc (lookF f (x, y))).toArray = wB at *
  clear hK' hHeld KS KM
  go_wp2_with fail
  exact bodyPost_ret (results_cell_row Tryd.results56 _ _ (E + 1) _ _ _ _ rfl hz' Tryd.underlying51 rfl wide_V.size) rfl ⟨rfl, hW⟩

set_option maxHeartbeats 400000 in
theorem rput_w (p B : Nat) (f : StF) (x y : Int) (v : V) (w : World) (h : RStoreIn p B f w) : Calls Tryd.prog 40 #[.pointer (some ⟨p, 0, none⟩), .agg #[.int .i64 x, .int .i64 y], vv v] w
    fun e w' => e = .returned (.bool (decide (0 ≤ plc (x, y)))) ∧ RStoreIn p B (putF f (x, y) v) w' ∧ Kept (fun n => n = B) w w' := by
  obtain ⟨E, hE⟩ : ∃ E : Nat, w.heap.size = E := ⟨_, rfl⟩
  rw [vv_is]
  go_enter Tryd.func40, Tryd.ntmps40
  obtain ⟨wA, hA⟩ : ∃ wA, (w.alloc (.cells #[.int .i64 x, .int .i64 y] 54)).alloc (.cells (vc v).toArray 51) = wA := ⟨_, rfl⟩
  have T := refplace_w x y wA
  have hkA : Kept (fun _ => False) w wA := by subst hA; exact ((Kept.refl _ _).alloc _).alloc _
  have hk : wA.heap[E]? = some (.cells #[.int .i64 x, .int .i64 y] 54 (0, 0)) := by subst hA; exact alloc_off (alloc_at' _ hE)
  have hz : wA.heap[E + 1]? = some (.cells (vc v).toArray 51 (0, 0)) := by subst hA; exact alloc_at' _ (by simp [hE])
  have c0 := cell_at hk (i := 0) rfl
  have c1 := cell_at hk (i := 1) rfl
  go_wp2_with fail
  clear hA c0 c1
  refine T.mono ?_
  rintro e w1 ⟨rfl, hk1⟩
  clear T
  replace hk := hk1.at hk (fun x => x)
  replace hz := hk1.at hz (fun x => x)
  replace hkA := hkA.thru hk1
  clear hk1
  by_cases hpl : plc (x, y) < 0
  · have HS : Hid (RStoreIn p B (putF f (x, y) v) w1) := by show RStoreIn _ _ _ _; unfold putF; rw [if_neg (by omega)]; exact h.still hkA
    have hW : Hid (Kept (fun n => n = B) w w1) := hkA.mono (fun _ _ e => e.elim)
    have hd : Hid (decide (0 ≤ plc (x, y)) = false) := by show _ = _; simpa using hpl
    clear h
    go_wp2
    go_ret
    exact ⟨by rw [hd.out]; rfl, HS.out, hW.out⟩
  · have hd : Hid (decide (0 ≤ plc (x, y)) = true) := by show _ = _; simpa using hpl
    go_wp2_with fail
    have hp : p < E := by have := lt_at h.cell; omega
    have hB : B < E := by have := h.map.lt; omega
    have hne : p ≠ B := h.map.off h.cell
    have h1 := h.still hkA
    have KS : ∀ w', Kept (fun n => n = B) w1 w' → (w'.cell? ⟨p, 0, none⟩ = some (.map (some B)) ∧ w'.cell? ⟨E, 0, none⟩ = some (.int .i64 x) ∧ w'.cell? ⟨E, 1, none⟩ = some (.int .i64 y)) :=
      fun w' hk' => ⟨hk'.cell (cell_at h1.cell rfl) hne, hk'.cell (cell_at hk rfl) (by simp; omega), hk'.cell (cell_at hk rfl) (by simp; omega)⟩
    have KV : ∀ w', Kept (fun n => n = B) w1 w' → w'.rangeAt (E + 1) 0 (vc v) := fun w' hk' => range_kept (whole_range hz) hk' (by omega)
    refine wp_region_held_drew (S := fun w' => Kept (fun n => n = B) w1 w') (by kernel_rfl) ((Kept.refl _ _).drew) (fun hHeld => ?_)
    refine h_take 0 (some 10) (Op.move (Operand.tmp 0)) 26 ?v6 rfl rfl (by kernel_rfl) (by kernel_rfl) (by kernel_rfl) (fun _ _ _ h => h) ?hy6 hHeld ?_
    case hy6 => (intro _ _ _ w hSw; have hcs := KS _ hSw; go_simp; try with_reducible rfl)
    simp only [Act.put, List.setIfInBounds_toArray, List.set_cons_zero, List.set_cons_succ]
    refine h_take 1 (some 11) (Op.nilCheck (Operand.tmp 10)) 0 ?v7 rfl rfl (by kernel_rfl) (by kernel_rfl) (by kernel_rfl) (fun _ _ _ h => h) ?hy7 hHeld ?_
    case hy7 => (intro _ _ _ w hSw; have hcs := KS _ hSw; go_simp; try with_reducible rfl)
    simp only [Act.put, List.setIfInBounds_toArray, List.set_cons_zero, List.set_cons_succ]
    refine h_take 2 (some 12) (Op.fieldAddr 112 (Operand.tmp 11) 0) 0 ?v8 rfl rfl (by kernel_rfl) (by kernel_rfl) (by kernel_rfl) (fun _ _ _ h => h) ?hy8 hHeld ?_
    case hy8 => (intro _ _ _ w hSw; have hcs := KS _ hSw; go_simp; try with_reducible rfl)
    simp only [Act.put, List.setIfInBounds_toArray, List.set_cons_zero, List.set_cons_succ]
    refine h_take 3 (some 13) (Op.load 110 (Operand.tmp 12)) 110 ?v9 rfl rfl (by kernel_rfl) (by kernel_rfl) (by kernel_rfl) (fun _ _ _ h => h) ?hy9 hHeld ?_
    case hy9 => (intro _ _ _ w hSw; have hcs := KS _ hSw; go_simp; try with_reducible rfl)
    simp only [Act.put, List.setIfInBounds_toArray, List.set_cons_zero, List.set_cons_succ]
    refine h_take 4 (some 14) (Op.load 54 (Operand.tmp 4)) 54 ?v10 rfl rfl (by kernel_rfl) (by kernel_rfl) (by kernel_rfl) (fun _ _ _ h => h) ?hy10 hHeld ?_
    case hy10 => (intro _ _ _ w hSw; have hcs := KS _ hSw; go_simp; try with_reducible rfl)
    simp only [Act.put, List.setIfInBounds_toArray, List.set_cons_zero, List.set_cons_succ]
    refine h_take 6 (some 16) (Op.load 51 (Operand.tmp 5)) 51 (vv v) rfl rfl (by kernel_rfl) (by kernel_rfl) (by kernel_rfl) (fun _ _ _ h => h) (fun _ _ _ w hSw => exec_load rfl (load_wide wide_V (KV w hSw) rfl)) hHeld ?_
    simp only [Act.put, List.setIfInBounds_toArray, List.set_cons_zero, List.set_cons_succ]
    refine h_step 5 (some 15) (Op.call { callee := Callee.value (Operand.func 70), args := #[Operand.tmp 14], argTypes := #[54] }) 3 rfl rfl (by kernel_rfl) (fun _ _ _ K hK => ?_)
    go_simp
    refine (refplace_w x y _).mono ?_
    rintro e w2 ⟨rfl, hk2⟩
    have k2 : Kept (fun _ => False) w1 w2 := (Kept.refl _ w1).drew.thru hk2
    go_wp2_with fail
    refine hK.out _ _ (k2.mono (fun _ _ e => e.elim)) (fun hHeld => ?_)
    clear hK K
    try simp only [Act.put, List.setIfInBounds_toArray, List.set_cons_zero, List.set_cons_succ]
    obtain ⟨w3, hr, hm, hk3, hsz⟩ := MapIn.store (w := w2) (h1.map.still k2) keyok_iv mapRV (plc (x, y)) v
    refine h_step 7 (none) (Op.mapUpdate 110 (Operand.tmp 13) (Operand.tmp 15) (Operand.tmp 16)) 0 rfl rfl (by kernel_rfl) (fun _ _ _ K hK => ?_)
    refine wp_skip (exec_update rfl rfl rfl hr) ?_
    refine hK.out _ _ ((k2.mono (fun _ _ e => e.elim)).trans hk3 (fun _ _ e => e)) (fun hHeld => ?_)
    clear hK K
    try simp only [Act.put, List.setIfInBounds_toArray, List.set_cons_zero, List.set_cons_succ]
    refine wpAnyH_done (by kernel_rfl) ?_ _
    have hW : Hid (Kept (fun n => n = B) w w3) := ((hkA.thru k2).mono (fun _ _ e => e.elim)).trans hk3 (fun _ _ e => e)
    have hS : Hid (RStoreIn p B (putF f (x, y) v) w3) := ⟨hW.out.at h.cell hne, by rw [byP_upd (by omega)] at hm; unfold putF; rw [if_pos (by omega)]; exact hm, putF_good h.good _ _⟩
    clear hHeld KS KV hr hm hk3 hsz k2 hk2 h1 h hk hz hkA
    go_wp2
    go_ret
    exact ⟨by rw [hd.out]; rfl, hS.out, hW.out⟩
end Go.Proofs.YtbhpkjedkccdpaaDoor

namespace Go.Proofs.YtbhpkjedkccdpaaDoor
open Go.RowKit
set_option maxRecDepth 100000

def ownOf (g : VwF) : StF := fun k => if (noteF g k).2.1 = true then some (noteF g k).2.2 else none
def seenF (f g : StF) (k : K2) : V := (g k).getD (lookF f k)

theorem note_upd (g : VwF) (k j : K2) (t : Bool × Bool × V) : noteF (upd g k t) j = if j = k then t else noteF g j := by
  unfold noteF upd
  split <;> rfl

theorem own_put {g : VwF} {k : K2} (h : 0 ≤ plc k) (x : V) : ownOf (vputT g k x) = upd (ownOf g) k x := by
  funext j
  unfold ownOf vputT
  rw [if_pos h, note_upd]
  unfold upd
  by_cases e : j = k
  · simp [e]
  · simp [e]

theorem own_get {g : VwF} {k : K2} (h : 0 ≤ plc k) : ownOf (vgetT g k) = ownOf g := by
  funext j
  unfold ownOf vgetT
  rw [if_pos h, note_upd]
  by_cases e : j = k
  · subst e; simp
  · simp [e]

theorem own_none : ownOf (fun _ => none) = fun _ => none := rfl

theorem seen_get {f : StF} {g : VwF} {k : K2} (h : 0 ≤ plc k) : vgetF f g k = seenF f (ownOf g) k := by
  unfold vgetF seenF ownOf
  rw [if_pos h]
  split <;> rfl

theorem upto_nodup (f : Nat → Bool) (n : Nat) (hn : n ≤ 55) : (upto f n).Nodup := by
  unfold upto
  refine List.pairwise_map.2 ?_
  have h1 : ((List.range n).filter f).Pairwise (fun a b => a < n ∧ b < n ∧ a ≠ b) := by
    have h0 : ((List.range n).filter f).Nodup := List.Pairwise.filter _ List.nodup_range
    refine List.Pairwise.imp_of_mem ?_ h0
    intro a b ha hb hne
    exact ⟨by simpa using (List.mem_filter.1 ha).1, by simpa using (List.mem_filter.1 hb).1, hne⟩
  refine h1.imp ?_
  rintro a b ⟨ha, hb, hne⟩ e
  have := keyAt_inj (p := (a : Int)) (q := (b : Int)) (by omega) (by omega) (by omega) (by omega) e
  exact hne (by omega)

theorem wrote_mem {g : VwF} (hg : ∀ k, (g k).isSome = true → 0 ≤ plc k) (k : K2) : k ∈ wroteF g ↔ (ownOf g k).isSome = true := by
  unfold wroteF
  rw [upto_mem]
  constructor
  · rintro ⟨p, hp, hf, rfl⟩
    unfold isF at hf
    unfold ownOf noteF
    cases hk : g (keyAt (p : Int)) with
    | none => rw [hk] at hf; cases hf
    | some t => rw [hk] at hf; simp only at hf; rw [Option.getD_some, if_pos (show t.2.1 = true from hf)]; rfl
  · intro h
    unfold ownOf noteF at h
    cases hk : g k with
    | none => rw [hk] at h; simp at h
    | some t =>
      rw [hk] at h
      have hp := hg k (by rw [hk]; rfl)
      have hb := plc_bounds k
      refine ⟨(plc k).toNat, by omega, ?_, ?_⟩
      · unfold isF
        rw [show (((plc k).toNat : Nat) : Int) = plc k by omega, keyAt_plc hp, hk]
        show t.2.1 = true
        rcases t with ⟨a, b, c⟩
        cases b with
        | true => rfl
        | false => simp at h
      · rw [show (((plc k).toNat : Nat) : Int) = plc k by omega, keyAt_plc hp]

theorem redo_len (g : VwF) : (redoF g).length = (wroteF g).length := by simp [redoF]

theorem look_vok {B : Nat} {f : StF} {w : World} (h : MapIn kv vv B f w) (k : K2) : (Instr.lookup 107 (.map (some B)) (kv k) true).run Tryd.prog w = .ok (.tuple #[vv (lookF f k), .bool (f k).isSome]) w := by
  have := h.look keyok_kv mapV zero_value k true
  rw [this]
  unfold lookF
  cases f k <;> rfl

theorem OwnR.shape {α : Type} {cs : α → List Value} {n : Nat} {ty : TypeId} {w0 w : World} {v : Value} {l : List α} (h : OwnR cs n ty w0 v l w) : ∃ ao c, v = .slice ao l.length c := by
  rcases h.form with ⟨rfl, rfl⟩ | ⟨g, c, rfl, _⟩
  · exact ⟨_, _, rfl⟩
  · exact ⟨_, _, rfl⟩

end Go.Proofs.YtbhpkjedkccdpaaDoor

namespace Go.Proofs.YtbhpkjedkccdpaaDoor
open Go.RowKit
set_option maxRecDepth 100000
set_option linter.unusedSimpArgs false

def bv (b : Bool) : Value := .bool b
def rdOf (g : VwF) : K2 → Option Bool := fun k => if (noteF g k).1 = true then some true else none

theorem rd_none : rdOf (fun _ => none) = fun _ => none := rfl
theorem rd_get {g : VwF} {k : K2} (h : 0 ≤ plc k) : rdOf (vgetT g k) = upd (rdOf g) k true := by
  funext j
  unfold rdOf vgetT
  rw [if_pos h, note_upd]
  unfold upd
  by_cases e : j = k
  · simp [e]
  · simp [e]
theorem rd_put {g : VwF} {k : K2} {x : V} (h : 0 ≤ plc k) : rdOf (vputT g k x) = rdOf g := by
  funext j
  unfold rdOf vputT
  rw [if_pos h, note_upd]
  by_cases e : j = k
  · subst e; simp
  · simp [e]
theorem own_good {g : VwF} (hg : ∀ k, (g k).isSome = true → 0 ≤ plc k) : ∀ k, (ownOf g k).isSome = true → 0 ≤ plc k := by
  intro k h
  apply hg
  unfold ownOf noteF at h
  cases hk : g k with
  | none => rw [hk] at h; simp at h
  | some t => rfl

structure RViewIn (q R W p : Nat) (g : VwF) (w : World) : Prop where
  cell : w.heap[q]? = some (.cells #[.pointer (some ⟨p, 0, none⟩), .map (some R), .map (some W)] 118 (0, 0))
  r : MapIn iv bv R (byP (rdOf g)) w
  w : MapIn iv vv W (byP (ownOf g)) w
  good : ∀ k, (g k).isSome = true → 0 ≤ plc k
  ne : R ≠ W

theorem RViewIn.kept {X : Nat → Prop} {q R W p : Nat} {g : VwF} {w w' : World} (h : RViewIn q R W p g w) (hk : Kept X w w') (hq : ¬ X q) (hR : ¬ X R) (hW : ¬ X W) : RViewIn q R W p g w' :=
  ⟨hk.at h.cell hq, h.r.kept hk hR, h.w.kept hk hW, h.good, h.ne⟩
theorem RViewIn.still {q R W p : Nat} {g : VwF} {w w' : World} (h : RViewIn q R W p g w) (hk : Kept (fun _ => False) w w') : RViewIn q R W p g w' := h.kept hk (fun x => x) (fun x => x) (fun x => x)

theorem rview_w (p : Nat) (w : World) : Calls Tryd.prog 72 #[.pointer (some ⟨p, 0, none⟩)] w
    fun e w' => ∃ q R W, e = .returned (.pointer (some ⟨q, 0, none⟩)) ∧ RViewIn q R W p (fun _ => none) w' ∧ Kept (fun _ => False) w w' ∧ w.heap.size ≤ q ∧ w.heap.size ≤ R ∧ w.heap.size ≤ W := by
  obtain ⟨E, hE⟩ : ∃ E : Nat, w.heap.size = E := ⟨_, rfl⟩
  have hmm := @run_makeMap Tryd.prog
  go_enter Tryd.func72, Tryd.ntmps72
  go_wp2
  go_ret
  exact ⟨E + 2, E, E + 1, rfl, ⟨alloc_at' _ (by simp [hE]), by rw [rd_none, byP_none]; exact (MapIn.made hE).still (((Kept.refl _ _).alloc _).alloc _), by rw [own_none, byP_none]; exact (MapIn.made (by simp [hE])).still ((Kept.refl _ _).alloc _), by simp, by omega⟩, (((Kept.refl _ _).alloc _).alloc _).alloc _, by omega, by omega, by omega⟩

set_option maxHeartbeats 1000000 in
theorem rvput_w (q R W p : Nat) (g : VwF) (x y : Int) (v : V) (w : World) (h : RViewIn q R W p g w) : Calls Tryd.prog 46 #[.pointer (some ⟨q, 0, none⟩), .agg #[.int .i64 x, .int .i64 y], vv v] w
    fun e w' => e = .returned (.tuple #[]) ∧ RViewIn q R W p (vputT g (x, y) v) w' ∧ Kept (fun n => n = W) w w' := by
  obtain ⟨E, hE⟩ : ∃ E : Nat, w.heap.size = E := ⟨_, rfl⟩
  rw [vv_is]
  go_enter Tryd.func46, Tryd.ntmps46
  obtain ⟨wA, hA⟩ : ∃ wA, (w.alloc (.cells #[.int .i64 x, .int .i64 y] 54)).alloc (.cells (vc v).toArray 51) = wA := ⟨_, rfl⟩
  have T := refplace_w x y wA
  have hkA : Kept (fun _ => False) w wA := by subst hA; exact ((Kept.refl _ _).alloc _).alloc _
  have hk : wA.heap[E]? = some (.cells #[.int .i64 x, .int .i64 y] 54 (0, 0)) := by subst hA; exact alloc_off (alloc_at' _ hE)
  have hz : wA.heap[E + 1]? = some (.cells (vc v).toArray 51 (0, 0)) := by subst hA; exact alloc_at' _ (by simp [hE])
  have c0 := cell_at hk (i := 0) rfl
  have c1 := cell_at hk (i := 1) rfl
  go_wp2_with fail
  clear hA c0 c1
  refine T.mono ?_
  rintro e w1 ⟨rfl, hk1⟩
  clear T
  replace hz := hk1.at hz (fun x => x)
  replace hkA := hkA.thru hk1
  clear hk1 hk
  by_cases hpl : plc (x, y) < 0
  · have HS : Hid (RViewIn q R W p (vputT g (x, y) v) w1) := by show RViewIn _ _ _ _ _ _; unfold vputT; rw [if_neg (by omega)]; exact h.still hkA
    have hW : Hid (Kept (fun n => n = W) w w1) := hkA.mono (fun _ _ e => e.elim)
    have t1 : ¬ 0 ≤ plc (x, y) := by omega
    clear h hz hkA
    go_wp2
    go_end0
    exact ⟨rfl, HS.out, hW.out⟩
  · have hp0 : 0 ≤ plc (x, y) := by omega
    go_wp2_with fail
    have hW : W < E := by have := h.w.lt; omega
    have hne : q ≠ W := h.w.off h.cell
    have h1 := h.still hkA
    have KS : ∀ w', Kept (fun n => n = W) w1 w' → (w'.cell? ⟨q, 2, none⟩ = some (.map (some W))) := fun w' hk' => hk'.cell (cell_at h1.cell rfl) hne
    have KV : ∀ w', Kept (fun n => n = W) w1 w' → w'.rangeAt (E + 1) 0 (vc v) := fun w' hk' => range_kept (whole_range hz) hk' (by omega)
    refine wp_region_held_drew (S := fun w' => Kept (fun n => n = W) w1 w') (by kernel_rfl) ((Kept.refl _ _).drew) (fun hHeld => ?_)
    refine h_take 0 (some 11) (Op.move (Operand.tmp 0)) 27 ?v11 rfl rfl (by kernel_rfl) (by kernel_rfl) (by kernel_rfl) (fun _ _ _ h => h) ?hy11 hHeld ?_
    case hy11 => (intro _ _ _ w hSw; have hcs := KS _ hSw; go_simp; try with_reducible rfl)
    simp only [Act.put, List.setIfInBounds_toArray, List.set_cons_zero, List.set_cons_succ]
    refine h_take 1 (some 12) (Op.nilCheck (Operand.tmp 11)) 0 ?v12 rfl rfl (by kernel_rfl) (by kernel_rfl) (by kernel_rfl) (fun _ _ _ h => h) ?hy12 hHeld ?_
    case hy12 => (intro _ _ _ w hSw; have hcs := KS _ hSw; go_simp; try with_reducible rfl)
    simp only [Act.put, List.setIfInBounds_toArray, List.set_cons_zero, List.set_cons_succ]
    refine h_take 2 (some 13) (Op.fieldAddr 118 (Operand.tmp 12) 2) 0 ?v13 rfl rfl (by kernel_rfl) (by kernel_rfl) (by kernel_rfl) (fun _ _ _ h => h) ?hy13 hHeld ?_
    case hy13 => (intro _ _ _ w hSw; have hcs := KS _ hSw; go_simp; try with_reducible rfl)
    simp only [Act.put, List.setIfInBounds_toArray, List.set_cons_zero, List.set_cons_succ]
    refine h_take 3 (some 14) (Op.load 110 (Operand.tmp 13)) 110 ?v14 rfl rfl (by kernel_rfl) (by kernel_rfl) (by kernel_rfl) (fun _ _ _ h => h) ?hy14 hHeld ?_
    case hy14 => (intro _ _ _ w hSw; have hcs := KS _ hSw; go_simp; try with_reducible rfl)
    simp only [Act.put, List.setIfInBounds_toArray, List.set_cons_zero, List.set_cons_succ]
    refine h_take 4 (some 15) (Op.move (Operand.tmp 6)) 3 ?v15 rfl rfl (by kernel_rfl) (by kernel_rfl) (by kernel_rfl) (fun _ _ _ h => h) ?hy15 hHeld ?_
    case hy15 => (intro _ _ _ w hSw; have hcs := KS _ hSw; go_simp; try with_reducible rfl)
    simp only [Act.put, List.setIfInBounds_toArray, List.set_cons_zero, List.set_cons_succ]
    refine h_take 5 (some 16) (Op.load 51 (Operand.tmp 5)) 51 (vv v) rfl rfl (by kernel_rfl) (by kernel_rfl) (by kernel_rfl) (fun _ _ _ h => h) (fun _ _ _ w hSw => exec_load rfl (load_wide wide_V (KV w hSw) rfl)) hHeld ?_
    simp only [Act.put, List.setIfInBounds_toArray, List.set_cons_zero, List.set_cons_succ]
    obtain ⟨w2, hr, hm, hk2, hsz⟩ := MapIn.store (w := w1.drew) (h1.w.still (Kept.refl _ _).drew) keyok_iv mapRV (plc (x, y)) v
    refine h_step 6 (none) (Op.mapUpdate 110 (Operand.tmp 14) (Operand.tmp 15) (Operand.tmp 16)) 0 rfl rfl (by kernel_rfl) (fun _ _ _ K hK => ?_)
    refine wp_skip (exec_update rfl rfl rfl hr) ?_
    refine hK.out _ _ ((Kept.refl _ w1).drew.trans hk2 (fun _ _ e => e)) (fun hHeld => ?_)
    clear hK K
    try simp only [Act.put, List.setIfInBounds_toArray, List.set_cons_zero, List.set_cons_succ]
    refine wpAnyH_done (by kernel_rfl) ?_ _
    have hk : Kept (fun n => n = W) w1 w2 := (Kept.refl _ w1).drew.trans hk2 (fun _ _ e => e)
    have HW : Hid (Kept (fun n => n = W) w w2) := (hkA.mono (fun _ _ e => e.elim)).trans hk (fun _ _ e => e)
    have HS : Hid (RViewIn q R W p (vputT g (x, y) v) w2) := ⟨hk.at h1.cell hne, by rw [rd_put hp0]; exact h1.r.kept hk h.ne, by rw [own_put hp0, ← byP_upd hp0]; exact hm, by unfold vputT; rw [if_pos hp0]; exact upd_good h.good hp0 _, h.ne⟩
    clear hHeld KS KV hr hm hk2 hsz hk h1 h hz hkA
    go_wp2
    go_end0
    exact ⟨rfl, HS.out, HW.out⟩

set_option maxHeartbeats 1000000 in
theorem rvget_w (q R W p B : Nat) (f : StF) (g : VwF) (x y : Int) (w : World) (h : RViewIn q R W p g w) (hs : RStoreIn p B f w) (hRB : R ≠ B) : Calls Tryd.prog 43 #[.pointer (some ⟨q, 0, none⟩), .agg #[.int .i64 x, .int .i64 y]] w
    fun e w' => e = .returned (vv (vgetF f g (x, y))) ∧ RViewIn q R W p (vgetT g (x, y)) w' ∧ Kept (fun n => n = R) w w' := by
  obtain ⟨E, hE⟩ : ∃ E : Nat, w.heap.size = E := ⟨_, rfl⟩
  go_enter Tryd.func43, Tryd.ntmps43
  obtain ⟨wA, hA⟩ : ∃ wA, (w.alloc (.cells #[.int .i64 x, .int .i64 y] 54)).alloc (.cells (vc zeroV).toArray 51) = wA := ⟨_, rfl⟩
  have T := refplace_w x y wA
  have hkA : Kept (fun _ => False) w wA := by subst hA; exact ((Kept.refl _ _).alloc _).alloc _
  have hk : wA.heap[E]? = some (.cells #[.int .i64 x, .int .i64 y] 54 (0, 0)) := by subst hA; exact alloc_off (alloc_at' _ hE)
  have hz : wA.heap[E + 1]? = some (.cells (vc zeroV).toArray 51 (0, 0)) := by subst hA; exact alloc_at' _ (by simp [hE])
  have c0 := cell_at hk (i := 0) rfl
  have c1 := cell_at hk (i := 1) rfl
  rw [zero_cells] at hA
  go_wp2_with fail
  clear hA c0 c1
  refine T.mono ?_
  rintro e w1 ⟨rfl, hk1⟩
  clear T
  replace hz := hk1.at hz (fun x => x)
  replace hkA := hkA.thru hk1
  clear hk1 hk
  have hq : q < E := by have := lt_at h.cell; omega
  have lR : R < E := by have := h.r.lt; omega
  have lW : W < E := by have := h.w.lt; omega
  have hp : p < E := by have := lt_at hs.cell; omega
  have hB : B < E := by have := hs.map.lt; omega
  by_cases hpl : plc (x, y) < 0
  · have hV : Hid (vgetF f g (x, y) = zeroV) := by show _ = _; unfold vgetF; rw [if_neg (by omega)]
    have hS : RViewIn q R W p (vgetT g (x, y)) w1 := by unfold vgetT; rw [if_neg (by omega)]; exact h.still hkA
    clear h
    go_wp2_with (first | (refine list_wstore rfl wide_V _ _ rfl (E + 1) rfl (vc zeroV) rfl hz rfl rfl (vc_one _) ?_))
    have hz6 := setRow_at hz (vc zeroV).toArray
    have hk6 := kept_setRow w1 (E + 1) (vc zeroV).toArray
    refine bodyPost_ret (results_cell_row Tryd.results43 _ _ (E + 1) _ _ _ _ rfl hz6 Tryd.underlying51 rfl wide_V.size) rfl ⟨by rw [hV.out]; rfl, hS.kept hk6 (by omega) (by omega) (by omega), (hkA.mono (fun _ _ e => e.elim)).trans hk6 (fun k h1 h2 => by omega)⟩
  · have hp0 : 0 ≤ plc (x, y) := by omega
    have h1 := h.still hkA
    have e1 := cell_at h1.cell (i := 1) rfl
    obtain ⟨w2, hr, hm, hk2, hsz⟩ := MapIn.store (w := w1) h1.r keyok_iv mapRS (plc (x, y)) true
    have hr' : (Instr.mapUpdate 116 (.map (some R)) (.int .i64 (plc (x, y))) (.bool true)).run Tryd.prog w1 = .ok () w2 := hr
    have hqR : q ≠ R := h.r.off h.cell
    have h2c := hk2.at h1.cell hqR
    have h2w := h1.w.kept hk2 (fun e => h.ne e.symm)
    have hz2 := hk2.at hz (show ¬ E + 1 = R by omega)
    have e0 := cell_at h2c (i := 0) rfl
    have e2 := cell_at h2c (i := 2) rfl
    have hlk := rlook_ok (own_good h.good) h2w (x, y)
    obtain ⟨so, hso⟩ : ∃ so, (ownOf g (x, y)).isSome = so := ⟨_, rfl⟩
    rw [hso] at hlk
    have HSO : Hid ((ownOf g (x, y)).isSome = so) := hso
    have hs2 : RStoreIn p B f w2 := hs.kept ((hkA.mono (X := fun _ => False) (Y := fun n => n = R) (fun _ _ e => e.elim)).trans hk2 (fun _ _ e => e)) (fun e => h.r.off hs.cell e) (fun e => hRB e.symm)
    have k2 : Kept (fun n => n = R) w w2 := (hkA.mono (fun _ _ e => e.elim)).trans hk2 (fun _ _ e => e)
    have hS : RViewIn q R W p (vgetT g (x, y)) w2 := ⟨h2c, by rw [rd_get hp0, ← byP_upd hp0]; exact hm, by rw [own_get hp0]; exact h2w, by unfold vgetT; rw [if_pos hp0]; exact upd_good h.good hp0 _, h.ne⟩
    obtain ⟨X, hX⟩ : ∃ X : Nat, w2.heap.size = X := ⟨_, rfl⟩
    have lX : E + 1 < X := by have := lt_at hz2; omega
    have hV : Hid (vgetF f g (x, y) = seenF f (ownOf g) (x, y)) := seen_get hp0
    clear hso hr hm hsz h2w h1 h hs hz hk2 hkA
    go_upto_region 6 with (first | (refine list_wnew rfl wide_V _ _ rfl X rfl (vc (lookF (ownOf g) (x, y))) rfl _ rfl hX rfl (vc_one _) ?_))
    obtain ⟨w3, h3⟩ : ∃ w3, w2.alloc (.cells (vc (lookF (ownOf g) (x, y))).toArray 51) = w3 := ⟨_, rfl⟩
    have k3 : Kept (fun _ => False) w2 w3 := by subst h3; exact (Kept.refl _ _).alloc _
    have hX3 : w3.heap[X]? = some (.cells (vc (lookF (ownOf g) (x, y))).toArray 51 (0, 0)) := by subst h3; exact alloc_at' _ hX
    try rw [h3]
    clear h3 e1 e0 e2 hr' hlk h2c
    have hz3 := k3.at hz2 (fun x => x)
    have hS3 := hS.still k3
    have hs3 := hs2.still k3
    have K3 : Kept (fun n => n = R) w w3 := k2.trans k3 (fun _ _ e => e.elim)
    have e0 := cell_at hS3.cell (i := 0) rfl
    have p0 := cell_at hs3.cell (i := 0) rfl
    clear hz2 hS hs2 k2 k3
    cases so with
    | true =>
      have hE1 : Hid (lookF (ownOf g) (x, y) = seenF f (ownOf g) (x, y)) := by
        show _ = _
        unfold lookF seenF
        have := HSO.out
        cases hg : ownOf g (x, y) with
        | none => rw [hg] at this; cases this
        | some z => rfl
      have hr := whole_range hX3
      go_wp2_with (first | (refine list_wload rfl wide_V _ rfl X 0 rfl (vc (lookF (ownOf g) (x, y))) hr rfl ?_) | (refine list_wstore rfl wide_V _ _ rfl (E + 1) rfl (vc (lookF (ownOf g) (x, y))) rfl hz3 rfl rfl (vc_one _) ?_))
      have hz6 := setRow_at hz3 (vc (lookF (ownOf g) (x, y))).toArray
      have hk6 := kept_setRow w3 (E + 1) (vc (lookF (ownOf g) (x, y))).toArray
      refine bodyPost_ret (results_cell_row Tryd.results43 _ _ (E + 1) _ _ _ _ rfl hz6 Tryd.underlying51 rfl wide_V.size) rfl ⟨by rw [hV.out, ← hE1.out]; rfl, hS3.kept hk6 (by omega) (by omega) (by omega), K3.trans hk6 (fun k h1 h2 => by omega)⟩
    | false =>
      have hE1 : Hid (lookF f (x, y) = seenF f (ownOf g) (x, y)) := by
        show _ = _
        unfold seenF
        have := HSO.out
        cases hg : ownOf g (x, y) with
        | none => rfl
        | some z => rw [hg] at this; cases this
      have hl := rlook_v hs3.good hs3.map (x, y)
      go_wp2_with (first | (refine list_wstore rfl wide_V _ _ rfl (E + 1) rfl (vc (lookF f (x, y))) rfl hz3 rfl rfl (vc_one _) ?_))
      have hz6 := setRow_at hz3 (vc (lookF f (x, y))).toArray
      have hk6 := kept_setRow w3 (E + 1) (vc (lookF f (x, y))).toArray
      refine bodyPost_ret (results_cell_row Tryd.results43 _ _ (E + 1) _ _ _ _ rfl hz6 Tryd.underlying51 rfl wide_V.size) rfl ⟨by rw [hV.out, ← hE1.out]; rfl, hS3.kept hk6 (by omega) (by omega) (by omega), K3.trans hk6 (fun k h1 h2 => by omega)⟩

/-! Lists. -/
def isB (F : Int → Option Bool) (p : Nat) : Bool := (F (p : Int)).getD false

theorem rlook_b {B : Nat} {F : Int → Option Bool} {w : World} (h : MapIn iv bv B F w) (p : Nat) : (Instr.lookup 116 (.map (some B)) (.int .i64 (p : Int)) false).run Tryd.prog w = .ok (.bool (isB F p)) w := by
  have := h.look keyok_iv mapRS zero_bool (p : Int) false
  rw [show (Value.int .i64 (p : Int)) = iv (p : Int) from rfl, this]
  unfold isB
  cases F (p : Int) <;> rfl

set_option maxHeartbeats 1000000 in
theorem rlist_w (B : Nat) (F : Int → Option Bool) (w : World) (h : MapIn iv bv B F w) : Calls Tryd.prog 75 #[.map (some B)] w fun e w' => ∃ v, e = .returned v ∧ OwnK w v (upto (isB F) 55) w' := by
  have HH : Hid (MapIn iv bv B F w) := h
  have HO : Hid (OwnK w (.slice none 0 0) (upto (isB F) 0) w) := OwnK.nil w
  clear h
  go_enter Tryd.func75, Tryd.ntmps75
  go_wp2_with fail
  go_loopw [3, 4] (fun v s wr => ∃ i : Nat, s = .int .i64 i ∧ i ≤ 55 ∧ Hid (OwnK w v (upto (isB F) i) wr)) (fun _ s _ => 55 - (intOf s).toNat)
  case atStart => exact ⟨0, rfl, Nat.zero_le _, HO.out⟩
  case round =>
    obtain ⟨i, rfl, hi, HR⟩ := hrel
    clear HO
    go_wp2_with fail
    refine (refall_w _).mono ?_
    rintro e w1 ⟨rfl, hk1⟩
    have H1 : Hid (OwnK w u3 (upto (isB F) i) w1) := HR.out.still hk1
    clear HR hk1
    by_cases hlt : i < 55
    · have t1 : (i : Int) < 55 := by omega
      have hup := upto_len (isB F) i
      have hl := rlook_b (HH.out.still H1.out.kept) i
      obtain ⟨b, hb⟩ : ∃ b, isB F i = b := ⟨_, rfl⟩
      rw [hb] at hl
      cases b with
      | false =>
        have HU : Hid (upto (isB F) (i + 1) = upto (isB F) i) := upto_no hb
        clear hb
        go_wp2
        go_roundw
        case rel => exact ⟨i + 1, by go_num, by omega, by rw [HU.out]; exact H1.out⟩
        case measure => simp [intOf]; omega
      | true =>
        have HU : Hid (upto (isB F) (i + 1) = upto (isB F) i ++ [keyAt i]) := upto_yes hb
        clear hb
        go_wp2_with fail
        refine (refat_w (i : Int) _).mono ?_
        rintro e w2 ⟨rfl, hk⟩
        obtain ⟨⟨kx, ky⟩, hkk⟩ : ∃ k, keyAt (i : Int) = k := ⟨_, rfl⟩
        rw [hkk] at HU ⊢
        simp only
        obtain ⟨E, hE⟩ : ∃ E : Nat, w2.heap.size = E := ⟨_, rfl⟩
        have hk3 := (hk.alloc (.cells #[.int .i64 kx, .int .i64 ky] 54)).alloc (.cells #[.int .i64 kx, .int .i64 ky] 54)
        have HS : Hid _ := H1.out.still hk3
        have HN : Hid (SrcK (.slice (some ⟨E + 1, 0, none⟩) 1 1) [(kx, ky)] ((w2.alloc (.cells #[.int .i64 kx, .int .i64 ky] 54)).alloc (.cells #[.int .i64 kx, .int .i64 ky] 54))) := SrcK.lone (alloc_at' _ (by simp [hE]))
        clear H1 hk hk3 hl
        go_wp2_with (at_builtin; refine list_app rfl _ _ rfl w _ [(kx, ky)] HS.out HN.out (by simp; omega) ?_; intro v w4 h4 hg4)
        have H5 : Hid (OwnK w v (upto (isB F) (i + 1)) w4) := by rw [HU.out]; exact h4
        clear h4 hg4 HS HN HU
        go_wp2
        go_roundw
        case rel => exact ⟨i + 1, by go_num, by omega, H5.out⟩
        case measure => simp [intOf]; omega
    · obtain rfl : i = 55 := by omega
      go_wp2
      go_ret
      exact ⟨_, rfl, H1.out⟩
end Go.Proofs.YtbhpkjedkccdpaaDoor

namespace Go.Proofs.YtbhpkjedkccdpaaDoor
open Go.RowKit
set_option maxRecDepth 100000
set_option linter.unusedSimpArgs false

def wrB (F : Int → Option V) : Int → Option Bool := fun j => if (F j).isSome = true then some true else none
def doneB {ν : Type} (F : Int → Option ν) (left : Int → Bool) (G : Int → Option Bool) : Int → Option Bool := fun j => if (F j).isSome && !left j then some true else G j

theorem done_start {ν : Type} (F : Int → Option ν) (G : Int → Option Bool) : doneB F (fun j => (F j).isSome) G = G := by
  funext j; unfold doneB; cases h : (F j).isSome <;> simp [h]
theorem done_step {ν : Type} {F : Int → Option ν} {left : Int → Bool} {G : Int → Option Bool} {k : Int} {v : ν} (h : F k = some v) : doneB F (fun j => left j && !decide (j = k)) G = upd (doneB F left G) k true := by
  funext j
  unfold doneB upd
  by_cases e : j = k
  · subst e; simp [h]
  · simp [e]
theorem done_end {ν : Type} {F : Int → Option ν} {left : Int → Bool} {G : Int → Option Bool} (h : ∀ k, left k = false) : doneB F left G = fun j => if (F j).isSome = true then some true else G j := by
  funext j; unfold doneB; rw [h j]; simp

theorem kept_two {B r : Nat} {a b c : World} (h : Kept (fun n => n = r) a b) (g : Kept (fun n => n = B) b c) : Kept (fun n => n = r ∨ n = B) a c :=
  (h.mono (fun _ _ e => .inl e)).trans g (fun _ _ e => .inr e)

set_option maxHeartbeats 1000000 in
theorem written_w (q R W p : Nat) (g : VwF) (w : World) (h : RViewIn q R W p g w) : Calls Tryd.prog 76 #[.pointer (some ⟨q, 0, none⟩)] w
    fun e w' => ∃ B, e = .returned (.map (some B)) ∧ MapIn iv bv B (fun j => if (byP (ownOf g) j).isSome = true then some true else none) w' ∧ Kept (fun _ => False) w w' ∧ w.heap.size ≤ B := by
  obtain ⟨B, hB⟩ : ∃ B : Nat, w.heap.size = B := ⟨_, rfl⟩
  have hmm := @run_makeMap Tryd.prog
  obtain ⟨w1, h1⟩ : ∃ w1, w.alloc (.map #[] 0) = w1 := ⟨_, rfl⟩
  have k1 : Kept (fun _ => False) w w1 := by subst h1; exact (Kept.refl _ _).alloc _
  have m1 : MapIn (ν := Bool) iv bv B (fun _ => none) w1 := by subst h1; exact MapIn.made hB
  have hs1 : w1.heap.size = B + 1 := by subst h1; simp [hB]
  have hv := h.still k1
  have c2 := cell_at hv.cell (i := 2) rfl
  obtain ⟨w2, hr2, hR2, k2, hs2⟩ := RangeIn.start hv.w keyok_iv mapRV hs1
  have lW : W < B := by have := h.w.lt; omega
  have H0 : Hid (RangeIn iv vv W (B + 1) (byP (ownOf g)) (fun j => (byP (ownOf g) j).isSome) w2 ∧ MapIn iv bv B (doneB (byP (ownOf g)) (fun j => (byP (ownOf g) j).isSome) (fun _ => none)) w2 ∧ Kept (fun _ => False) w w2) :=
    ⟨hR2, by rw [done_start]; exact m1.still k2, k1.thru k2⟩
  clear hR2 m1 k1 k2 hs2 hv h
  go_enter Tryd.func76, Tryd.ntmps76
  go_wp2_with fail
  go_loopw [4] (fun _ wr => ∃ left : Int → Bool, Hid (RangeIn iv vv W (B + 1) (byP (ownOf g)) left wr ∧ MapIn iv bv B (doneB (byP (ownOf g)) left (fun _ => none)) wr ∧ Kept (fun _ => False) w wr)) (fun _ wr => wr.rangeLeft W (B + 1))
  case atStart => exact ⟨_, H0.out⟩
  case round =>
    obtain ⟨left, HH⟩ := hrel
    clear H0 hr2 c2 h1 hs1 hmm
    rcases HH.out.1.next keyok_iv 0 with ⟨-, hl, hn⟩ | ⟨k, v, y1, hlk, hfk, hn, he, hR1, hlt, hk1, hsz⟩
    · have HR : Hid (MapIn iv bv B (fun j => if (byP (ownOf g) j).isSome = true then some true else none) wr ∧ Kept (fun _ => False) w wr) := by
        have := HH.out.2.1
        rw [done_end hl] at this
        exact ⟨this, HH.out.2.2⟩
      clear HH hl
      go_wp2
      go_ret
      exact ⟨B, rfl, HR.out.1, HR.out.2, by omega⟩
    · have hm1 : MapIn iv bv B (doneB (byP (ownOf g)) left (fun _ => none)) y1 := HH.out.2.1.kept hk1 (show ¬ B = B + 1 by omega)
      obtain ⟨y2, hu, hm2, hk2, hsz2⟩ := hm1.store keyok_iv mapRS k true
      have hu' : (Instr.mapUpdate 116 (.map (some B)) (.int .i64 k) (.bool true)).run Tryd.prog y1 = .ok () y2 := hu
      have hn' : (Instr.next (.pointer (some ⟨B + 1, 0, none⟩)) false 0).run Tryd.prog wr = .ok (.tuple #[.bool true, .int .i64 k, vv v]) y1 := hn
      have he' : (Instr.entry (.pointer (some ⟨B + 1, 0, none⟩))).run Tryd.prog y1 = .ok (.tuple #[.int .i64 k, vv v]) y1 := he
      have HN : Hid (RangeIn iv vv W (B + 1) (byP (ownOf g)) (fun j => left j && !decide (j = k)) y2 ∧ MapIn iv bv B (doneB (byP (ownOf g)) (fun j => left j && !decide (j = k)) (fun _ => none)) y2 ∧ Kept (fun _ => False) w y2) :=
        ⟨hR1.kept hk2 (show ¬ W = B by omega) (show ¬ B + 1 = B by omega), by rw [done_step hfk]; exact hm2, HH.out.2.2.trans (kept_two hk1 hk2) (fun k h1 h2 => by omega)⟩
      have HM : Hid (y2.rangeLeft W (B + 1) < wr.rangeLeft W (B + 1)) := by
        show _ < _
        have e : y2.rangeLeft W (B + 1) = y1.rangeLeft W (B + 1) := by
          obtain ⟨es, ck, since, seen, c0, q1, -, q2, -⟩ := hR1
          have e1 := hk2.at q1 (show ¬ W = B by omega)
          have e2 := hk2.at q2 (show ¬ B + 1 = B by omega)
          simp [World.rangeLeft, q1, q2, e1, e2]
        rw [e]; exact hlt
      clear HH hm1 hm2 hu hn he hR1 hlt hk1 hk2 hsz hsz2 hlk hfk
      go_wp2
      go_roundw
      case rel => exact ⟨_, HN.out⟩
      case measure => exact HM.out

theorem rreads0_w (q R W p : Nat) (g : VwF) (w : World) (h : RViewIn q R W p g w) : Calls Tryd.prog 51 #[.pointer (some ⟨q, 0, none⟩)] w fun e w' => ∃ v, e = .returned v ∧ OwnK w v (upto (isB (byP (rdOf g))) 55) w' := by
  have RL := rlist_w R _ w h.r
  have c1 := cell_at h.cell (i := 1) rfl
  clear h
  go_enter Tryd.func51, Tryd.ntmps51
  go_wp2_with fail
  refine RL.mono ?_
  rintro e w1 ⟨v, rfl, ho⟩
  have HO : Hid (OwnK w v (upto (isB (byP (rdOf g))) 55) w1) := ho
  clear RL ho
  go_wp2
  go_ret
  exact ⟨_, rfl, HO.out⟩

theorem upto_same {f h : Nat → Bool} (n : Nat) (e : ∀ p, p < n → f p = h p) : upto f n = upto h n := by
  unfold upto
  congr 1
  exact List.filter_congr (fun p hp => e p (by simpa using hp))

theorem byP_at {ν : Type} (f : K2 → Option ν) {p : Nat} (h : p < 55) : byP f (p : Int) = f (keyAt p) := by
  unfold byP; rw [if_pos (by omega)]

theorem reads_same (g : VwF) : upto (isB (byP (rdOf g))) 55 = readsF g := by
  refine upto_same 55 (fun p hp => ?_)
  unfold isB isF
  rw [byP_at _ hp]
  unfold rdOf noteF
  cases g (keyAt (p : Int)) with
  | none => rfl
  | some t => rcases t with ⟨a, b, c⟩; cases a <;> rfl

theorem wrote_same (g : VwF) : upto (isB (fun j => if (byP (ownOf g) j).isSome = true then some true else none)) 55 = wroteF g := by
  refine upto_same 55 (fun p hp => ?_)
  unfold isB isF
  dsimp only
  rw [byP_at _ hp]
  unfold ownOf noteF
  cases g (keyAt (p : Int)) with
  | none => rfl
  | some t => rcases t with ⟨a, b, c⟩; cases b <;> rfl

/-- Each object that is noted was read or written. -/
def Noted (g : VwF) : Prop := ∀ k t, g k = some t → t.1 = true ∨ t.2.1 = true

theorem noted_none : Noted (fun _ => none) := fun _ _ h => by cases h
theorem noted_get {g : VwF} (h : Noted g) (k : K2) : Noted (vgetT g k) := by
  intro j t hj
  unfold vgetT at hj
  split at hj
  · unfold upd at hj
    split at hj
    · cases hj; exact .inl rfl
    · exact h j t hj
  · exact h j t hj
theorem noted_put {g : VwF} (h : Noted g) (k : K2) (x : V) : Noted (vputT g k x) := by
  intro j t hj
  unfold vputT at hj
  split at hj
  · unfold upd at hj
    split at hj
    · cases hj; exact .inr rfl
    · exact h j t hj
  · exact h j t hj

theorem rreads_w (q R W p : Nat) (g : VwF) (w : World) (h : RViewIn q R W p g w) : Calls Tryd.prog 51 #[.pointer (some ⟨q, 0, none⟩)] w fun e w' => ∃ v, e = .returned v ∧ OwnK w v (readsF g) w' := by
  have := rreads0_w q R W p g w h
  rw [reads_same] at this
  exact this

end Go.Proofs.YtbhpkjedkccdpaaDoor

namespace Go.Proofs.YtbhpkjedkccdpaaDoor
open Go.RowKit
set_option maxRecDepth 100000
set_option linter.unusedSimpArgs false

theorem rlook_w {B : Nat} {g : VwF} {w : World} (hg : ∀ k, (g k).isSome = true → 0 ≤ plc k) (h : MapIn iv vv B (byP (ownOf g)) w) {k : K2} (hk : k ∈ wroteF g) : (Instr.lookup 110 (.map (some B)) (.int .i64 (plc k)) false).run Tryd.prog w = .ok (vv (noteF g k).2.2) w := by
  rw [rlook_v (own_good hg) h k]
  have := (wrote_mem hg k).1 hk
  unfold lookF ownOf at *
  split at this
  · rename_i h1; rw [if_pos h1]; rfl
  · simp at this

set_option maxHeartbeats 2000000 in
theorem rredo_w (q R W p : Nat) (g : VwF) (w : World) (h : RViewIn q R W p g w) : Calls Tryd.prog 48 #[.pointer (some ⟨q, 0, none⟩)] w fun e w' => ∃ v, e = .returned v ∧ OwnW w v (redoF g) w' := by
  have T := written_w q R W p g w h
  have hgood := h.good
  go_enter Tryd.func48, Tryd.ntmps48
  go_wp2_with fail
  refine T.mono ?_
  rintro e w0 ⟨Bn, rfl, m0, k0, -⟩
  clear T
  have RL := rlist_w Bn _ w0 m0
  rw [wrote_same] at RL
  go_wp2_with fail
  refine RL.mono ?_
  rintro e w1 ⟨tv, rfl, ho⟩
  clear RL m0
  have HK0 : Hid (Kept (fun _ => False) w w1) := k0.thru ho.kept
  have HH : Hid (RViewIn q R W p g w1) := h.still (k0.thru ho.kept)
  have hlen : (wroteF g).length ≤ 55 := upto_len _ _
  obtain ⟨ao, b, o, c, rfl, -, hao, hc⟩ := ho.src
  have HC : Hid _ := hc
  have HO : Hid (OwnW w1 (.slice none 0 0) (((wroteF g).take 0).map fun k => (k, (noteF g k).2.2)) w1) := OwnR.nil 62 w1
  have HMem : Hid (∀ i (hi : i < (wroteF g).length), kd (wroteF g) i ∈ wroteF g) := fun i hi => by rw [kd_get hi]; exact List.getElem_mem hi
  have HLook : Hid (∀ k ∈ wroteF g, ∀ w', MapIn iv vv W (byP (ownOf g)) w' → (Instr.lookup 110 (.map (some W)) (.int .i64 (plc k)) false).run Tryd.prog w' = .ok (vv (noteF g k).2.2) w') := fun k hk w' hm => rlook_w hgood hm hk
  clear hc ho h k0 hgood
  have HE : Hid (redoF g = (wroteF g).map fun k => (k, (noteF g k).2.2)) := rfl
  generalize wroteF g = L at *
  obtain ⟨n, hn⟩ : ∃ n : Nat, L.length = n := ⟨_, rfl⟩
  rw [hn] at hao hlen
  simp only [hn]
  go_wp2
  go_loopw [3, 10] (fun v s wr => ∃ i : Nat, s = .int .i64 i ∧ i ≤ n ∧ Hid (OwnW w1 v ((L.take i).map fun k => (k, (noteF g k).2.2)) wr)) (fun _ s _ => n - (intOf s).toNat)
  case atStart => exact ⟨0, rfl, Nat.zero_le _, HO.out⟩
  case round =>
    obtain ⟨i, rfl, hi, HR⟩ := hrel
    clear HO
    by_cases hlt : i < n
    · have t1 : (i : Int) < (n : Int) := by omega
      obtain ⟨c0, c1⟩ := HC.out i (by omega)
      replace c0 := HR.out.kept.cell c0 (fun x => x)
      replace c1 := HR.out.kept.cell c1 (fun x => x)
      obtain rfl := hao (by omega)
      have hmem := HMem.out i (by omega)
      obtain ⟨⟨kx, ky⟩, hkk⟩ : ∃ k, kd L i = k := ⟨_, rfl⟩
      have HT : Hid _ := redo_step (g := g) (l := L) (i := i) (by omega)
      rw [hkk] at c0 c1 HT hmem
      simp only at c0 c1
      have HLk : Hid (∀ w', MapIn iv vv W (byP (ownOf g)) w' → (Instr.lookup 110 (.map (some W)) (.int .i64 (plc (kx, ky))) false).run Tryd.prog w' = .ok (vv (noteF g (kx, ky)).2.2) w') := HLook.out (kx, ky) hmem
      obtain ⟨D, hD⟩ : ∃ D : Nat, wr.heap.size = D := ⟨_, rfl⟩
      have tb : b < D := by have := World.block_lt_of_cell? _ _ c0; simpa [hD] using this
      have HLN : Hid (L.length = n) := hn
      clear hn hmem HMem HLook
      go_wp2_with fail
      obtain ⟨wA, hA⟩ : ∃ wA, wr.alloc (.cells #[.int .i64 kx, .int .i64 ky] 54) = wA := ⟨_, rfl⟩
      have hkA : Kept (fun _ => False) wr wA := by subst hA; exact (Kept.refl _ _).alloc _
      have hK : wA.heap[D]? = some (.cells #[.int .i64 kx, .int .i64 ky] 54 (0, 0)) := by subst hA; exact alloc_at' _ hD
      rw [hA]
      clear hA c0 c1
      have HO := HR.out.still hkA
      have h1 := HH.out.still HO.kept
      have hoff : ∀ m, u3.ownBlock = some m → w1.heap.size ≤ m := fun m hm => (HO.own.lt m hm).1
      have hq : q < w1.heap.size := lt_at HH.out.cell
      have hN : W < w1.heap.size := HH.out.w.lt
      have hDo : u3.ownBlock ≠ some D := row_off HO.own hK (by decide)
      have nq : ¬ u3.ownBlock = some q := fun e => by have := hoff _ e; omega
      have nN : ¬ u3.ownBlock = some W := fun e => by have := hoff _ e; omega
      have KS : ∀ w', Kept (fun m => u3.ownBlock = some m) wA w' → (w'.cell? ⟨q, 2, none⟩ = some (.map (some W)) ∧ w'.cell? ⟨D, 0, none⟩ = some (.int .i64 kx) ∧ w'.cell? ⟨D, 1, none⟩ = some (.int .i64 ky)) :=
        fun w' hk' => ⟨hk'.cell (cell_at h1.cell rfl) nq, hk'.cell (cell_at hK rfl) hDo, hk'.cell (cell_at hK rfl) hDo⟩
      have KM : ∀ w', Kept (fun m => u3.ownBlock = some m) wA w' → (Instr.lookup 110 (.map (some W)) (.int .i64 (plc (kx, ky))) false).run Tryd.prog w' = .ok (vv (noteF g (kx, ky)).2.2) w' := fun w' hk' => HLk.out _ (h1.w.kept hk' nN)
      generalize hnote : (noteF g (kx, ky)).2.2 = t at *
      refine wp_region_held_drew (S := fun w' => Kept (fun m => u3.ownBlock = some m) wA w') (by kernel_rfl) ((Kept.refl _ _).drew) (fun hHeld => ?_)
      refine h_take 0 (some 14) (Op.move (Operand.tmp 3)) 39 ?v16 rfl rfl (by kernel_rfl) (by kernel_rfl) (by kernel_rfl) (fun _ _ _ h => h) ?hy16 hHeld ?_
      case hy16 => (intro _ _ _ w hSw; have hcs := KS _ hSw; go_simp; try with_reducible rfl)
      simp only [Act.put, List.setIfInBounds_toArray, List.set_cons_zero, List.set_cons_succ]
      refine h_take 1 (some 15) (Op.load 54 (Operand.tmp 5)) 54 ?v17 rfl rfl (by kernel_rfl) (by kernel_rfl) (by kernel_rfl) (fun _ _ _ h => h) ?hy17 hHeld ?_
      case hy17 => (intro _ _ _ w hSw; have hcs := KS _ hSw; go_simp; try with_reducible rfl)
      simp only [Act.put, List.setIfInBounds_toArray, List.set_cons_zero, List.set_cons_succ]
      refine h_take 2 (some 16) (Op.move (Operand.tmp 0)) 27 ?v18 rfl rfl (by kernel_rfl) (by kernel_rfl) (by kernel_rfl) (fun _ _ _ h => h) ?hy18 hHeld ?_
      case hy18 => (intro _ _ _ w hSw; have hcs := KS _ hSw; go_simp; try with_reducible rfl)
      simp only [Act.put, List.setIfInBounds_toArray, List.set_cons_zero, List.set_cons_succ]
      refine h_take 3 (some 17) (Op.nilCheck (Operand.tmp 16)) 0 ?v19 rfl rfl (by kernel_rfl) (by kernel_rfl) (by kernel_rfl) (fun _ _ _ h => h) ?hy19 hHeld ?_
      case hy19 => (intro _ _ _ w hSw; have hcs := KS _ hSw; go_simp; try with_reducible rfl)
      simp only [Act.put, List.setIfInBounds_toArray, List.set_cons_zero, List.set_cons_succ]
      refine h_take 4 (some 18) (Op.fieldAddr 118 (Operand.tmp 17) 2) 0 ?v20 rfl rfl (by kernel_rfl) (by kernel_rfl) (by kernel_rfl) (fun _ _ _ h => h) ?hy20 hHeld ?_
      case hy20 => (intro _ _ _ w hSw; have hcs := KS _ hSw; go_simp; try with_reducible rfl)
      simp only [Act.put, List.setIfInBounds_toArray, List.set_cons_zero, List.set_cons_succ]
      refine h_take 5 (some 19) (Op.load 110 (Operand.tmp 18)) 110 ?v21 rfl rfl (by kernel_rfl) (by kernel_rfl) (by kernel_rfl) (fun _ _ _ h => h) ?hy21 hHeld ?_
      case hy21 => (intro _ _ _ w hSw; have hcs := KS _ hSw; go_simp; try with_reducible rfl)
      simp only [Act.put, List.setIfInBounds_toArray, List.set_cons_zero, List.set_cons_succ]
      refine h_take 6 (some 20) (Op.load 54 (Operand.tmp 5)) 54 ?v22 rfl rfl (by kernel_rfl) (by kernel_rfl) (by kernel_rfl) (fun _ _ _ h => h) ?hy22 hHeld ?_
      case hy22 => (intro _ _ _ w hSw; have hcs := KS _ hSw; go_simp; try with_reducible rfl)
      simp only [Act.put, List.setIfInBounds_toArray, List.set_cons_zero, List.set_cons_succ]
      refine h_step 7 (some 21) (Op.call { callee := Callee.value (Operand.func 70), args := #[Operand.tmp 20], argTypes := #[54] }) 3 rfl rfl (by kernel_rfl) (fun _ _ _ K hK => ?_)
      go_simp
      refine (refplace_w kx ky _).mono ?_
      rintro e wB ⟨rfl, hkB⟩
      have kB : Kept (fun _ => False) wA wB := (Kept.refl _ wA).drew.thru hkB
      go_wp2_with fail
      refine hK.out _ _ (kB.mono (fun _ _ e => e.elim)) (fun hHeld => ?_)
      clear hK K
      try simp only [Act.put, List.setIfInBounds_toArray, List.set_cons_zero, List.set_cons_succ]
      refine h_take 8 (some 22) (Op.lookup 110 (Operand.tmp 19) (Operand.tmp 21) false) 51 (vv t) rfl rfl (by kernel_rfl) (by kernel_rfl) (by kernel_rfl) (fun _ _ _ h => h) (fun _ _ _ w hSw => exec_look rfl rfl (KM w hSw)) hHeld ?_
      simp only [Act.put, List.setIfInBounds_toArray, List.set_cons_zero, List.set_cons_succ]
      refine h_take 9 (some 23) (Op.build 62 #[(0, Operand.tmp 15), (1, Operand.tmp 22)]) 62 (wtv ((kx, ky), t)) rfl rfl (by kernel_rfl) (by kernel_rfl) (by kernel_rfl) (fun _ _ _ h => h) (fun _ _ _ w hSw => exec_build (build_write (kx, ky) t w) (by kernel_rfl)) hHeld ?_
      simp only [Act.put, List.setIfInBounds_toArray, List.set_cons_zero, List.set_cons_succ]
      obtain ⟨G, hG⟩ : ∃ G : Nat, wB.heap.size = G := ⟨_, rfl⟩
      have hsl := slice_write ((kx, ky), t) wB
      refine h_step 10 (some 24) (Op.buildSlice 39 1 #[(0, Operand.tmp 23)]) 39 rfl rfl (by kernel_rfl) (fun _ _ _ K hK => ?_)
      refine wp_yield (exec_slice hsl (by kernel_rfl)) ?_
      have k2 : Kept (fun _ => False) wA (wB.alloc (.cells (wc ((kx, ky), t)).toArray 62)) := kB.alloc _
      have hw2 : (wB.alloc (.cells (wc ((kx, ky), t)).toArray 62)).heap[G]? = some (.cells (wc ((kx, ky), t)).toArray 62 (0, 0)) := alloc_at' _ hG
      rw [show wB.heap.size = G from hG]
      generalize wB.alloc (.cells (wc ((kx, ky), t)).toArray 62) = w2 at *
      refine hK.out _ _ (k2.mono (fun _ _ e => e.elim)) (fun hHeld => ?_)
      clear hK K
      try simp only [Act.put, List.setIfInBounds_toArray, List.set_cons_zero, List.set_cons_succ]
      refine h_step 11 (some 25) (Op.call { callee := Callee.builtin Builtin.append, args := #[Operand.tmp 14, Operand.tmp 24], argTypes := #[39, 39] }) 39 rfl rfl (by kernel_rfl) (fun _ _ _ K hK => ?_)
      refine wp_appw _ _ rfl w1 ((L.take i).map fun k => (k, (noteF g k).2.2)) [((kx, ky), t)] (HO.still k2) (SrcR.lone hw2) (by simp; omega) ?_
      intro v' w3 h3 hg3
      have k3 : Kept (fun m => u3.ownBlock = some m) wA w3 := (k2.mono (fun _ _ e => e.elim)).grown hg3 (fun k e _ => e)
      refine hK.out _ _ (k3) (fun hHeld => ?_)
      clear hK K
      try simp only [Act.put, List.setIfInBounds_toArray, List.set_cons_zero, List.set_cons_succ]
      refine h_take 12 (some 3) (Op.assign (Operand.tmp 25)) 39 ?v23 rfl rfl (by kernel_rfl) (by kernel_rfl) (by kernel_rfl) (fun _ _ _ h => h) ?hy23 hHeld ?_
      case hy23 => (intro _ _ _ w hSw; have hcs := KS _ hSw; go_simp; try with_reducible rfl)
      simp only [Act.put, List.setIfInBounds_toArray, List.set_cons_zero, List.set_cons_succ]
      refine wpAnyH_done (by kernel_rfl) ?_ _
      have H3 : Hid (OwnW w1 v' ((L.take (i + 1)).map fun k => (k, (noteF g k).2.2)) w3) := by
        rw [HT.out]; exact h3
      clear hHeld KS KM hsl HO h1 hw2 k2 h3 hg3 k3 hkA hK hDo nq nN kB hkB
      go_wp2
      go_roundw
      case rel => exact ⟨i + 1, by go_num, by omega, H3.out⟩
      case measure => simp [intOf]; omega
    · obtain rfl : i = n := by omega
      have H3 : Hid (OwnW w u3 (redoF g) wr) := by
        have := HR.out
        rw [List.take_of_length_le (by omega), ← HE.out] at this
        exact this.base HK0.out
      clear HC HR
      go_wp2
      go_ret
      exact ⟨_, rfl, H3.out⟩
end Go.Proofs.YtbhpkjedkccdpaaDoor

namespace Go.Proofs.YtbhpkjedkccdpaaDoor
open Go.RowKit
set_option maxRecDepth 100000

/-- The store and a view of it, and the reference's. -/
structure GameIn (w0 : World) (p B q N rp rB rq R W : Nat) (f f2 : StF) (g g2 : VwF) (w : World) : Prop where
  s : StoreIn p B f w
  v : ViewIn q N p g w
  rs : RStoreIn rp rB f2 w
  rv : RViewIn rq R W rp g2 w
  kept : Kept (fun _ => False) w0 w
  nB : w0.heap.size ≤ B
  nN : w0.heap.size ≤ N
  nrB : w0.heap.size ≤ rB
  nR : w0.heap.size ≤ R
  nW : w0.heap.size ≤ W
  a1 : B ≠ N
  a2 : B ≠ rB
  a3 : B ≠ R
  a4 : B ≠ W
  a5 : N ≠ rB
  a6 : N ≠ R
  a7 : N ≠ W
  a8 : rB ≠ R
  a9 : rB ≠ W

section
variable {w0 : World} {p B q N rp rB rq R W : Nat} {f f2 f' : StF} {g g2 g' : VwF} {w w' : World}

theorem GameIn.still (h : GameIn w0 p B q N rp rB rq R W f f2 g g2 w) (hk : Kept (fun _ => False) w w') : GameIn w0 p B q N rp rB rq R W f f2 g g2 w' :=
  { h with s := h.s.still hk, v := h.v.still hk, rs := h.rs.still hk, rv := h.rv.still hk, kept := h.kept.thru hk }
theorem GameIn.putS (h : GameIn w0 p B q N rp rB rq R W f f2 g g2 w) (hs : StoreIn p B f' w') (hk : Kept (fun n => n = B) w w') : GameIn w0 p B q N rp rB rq R W f' f2 g g2 w' :=
  { h with s := hs, v := h.v.kept hk (fun e => h.s.map.off h.v.cell e) (fun e => h.a1 e.symm), rs := h.rs.kept hk (fun e => h.s.map.off h.rs.cell e) (fun e => h.a2 e.symm),
           rv := h.rv.kept hk (fun e => h.s.map.off h.rv.cell e) (fun e => h.a3 e.symm) (fun e => h.a4 e.symm), kept := h.kept.trans hk (fun k h1 h2 => by have := h.nB; omega) }
theorem GameIn.putR (h : GameIn w0 p B q N rp rB rq R W f f2 g g2 w) (hs : RStoreIn rp rB f' w') (hk : Kept (fun n => n = rB) w w') : GameIn w0 p B q N rp rB rq R W f f' g g2 w' :=
  { h with rs := hs, s := h.s.kept hk (fun e => h.rs.map.off h.s.cell e) h.a2, v := h.v.kept hk (fun e => h.rs.map.off h.v.cell e) h.a5,
           rv := h.rv.kept hk (fun e => h.rs.map.off h.rv.cell e) (fun e => h.a8 e.symm) (fun e => h.a9 e.symm), kept := h.kept.trans hk (fun k h1 h2 => by have := h.nrB; omega) }
theorem GameIn.putV (h : GameIn w0 p B q N rp rB rq R W f f2 g g2 w) (hv : ViewIn q N p g' w') (hk : Kept (fun n => n = N) w w') : GameIn w0 p B q N rp rB rq R W f f2 g' g2 w' :=
  { h with v := hv, s := h.s.kept hk (fun e => h.v.map.off h.s.cell e) h.a1, rs := h.rs.kept hk (fun e => h.v.map.off h.rs.cell e) (fun e => h.a5 e.symm),
           rv := h.rv.kept hk (fun e => h.v.map.off h.rv.cell e) (fun e => h.a6 e.symm) (fun e => h.a7 e.symm), kept := h.kept.trans hk (fun k h1 h2 => by have := h.nN; omega) }
theorem GameIn.getX (h : GameIn w0 p B q N rp rB rq R W f f2 g g2 w) (hv : RViewIn rq R W rp g' w') (hk : Kept (fun n => n = R) w w') : GameIn w0 p B q N rp rB rq R W f f2 g g' w' :=
  { h with rv := hv, s := h.s.kept hk (fun e => h.rv.r.off h.s.cell e) h.a3, rs := h.rs.kept hk (fun e => h.rv.r.off h.rs.cell e) h.a8,
           v := h.v.kept hk (fun e => h.rv.r.off h.v.cell e) h.a6, kept := h.kept.trans hk (fun k h1 h2 => by have := h.nR; omega) }
theorem GameIn.putX (h : GameIn w0 p B q N rp rB rq R W f f2 g g2 w) (hv : RViewIn rq R W rp g' w') (hk : Kept (fun n => n = W) w w') : GameIn w0 p B q N rp rB rq R W f f2 g g' w' :=
  { h with rv := hv, s := h.s.kept hk (fun e => h.rv.w.off h.s.cell e) h.a4, rs := h.rs.kept hk (fun e => h.rv.w.off h.rs.cell e) h.a9,
           v := h.v.kept hk (fun e => h.rv.w.off h.v.cell e) h.a7, kept := h.kept.trans hk (fun k h1 h2 => by have := h.nW; omega) }
end

theorem redo_le (g : VwF) : (redoF g).length ≤ 55 := by rw [redo_len]; exact upto_len _ _
theorem reads_le (g : VwF) : (readsF g).length ≤ 55 := upto_len _ _
end Go.Proofs.YtbhpkjedkccdpaaDoor
