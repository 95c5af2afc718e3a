/- The statement on what is to be done last; no conditions. -/
import Derived.Test.YtimjhjlgnoiimaaAfterW
namespace Go.Proofs.Ytimjhjlgnoiimaa
open Go.RowKit

theorem upto_get (j i : Nat) (h : i ≤ j) : ∀ hi, ([] ++ (upto j ++ [9]) : List Int)[i]'hi = i := by
  intro hi
  simp only [List.nil_append]
  rw [List.getElem_append_left (by rw [upto_length]; omega)]
  simp [upto]

theorem upto_last (j : Nat) : ∀ hi, ([] ++ (upto j ++ [9]) : List Int)[j + 1]'hi = 9 := by
  intro hi
  simp only [List.nil_append]
  rw [List.getElem_append_right (by rw [upto_length]; omega)]
  simp [upto_length]

theorem Chain.form {k at_ : Int} {sb i : Nat} {fv : Value} {w : World} (h : Chain k at_ sb i fv w) : ∃ F cap, fv = .func F #[] cap := by
  cases i with
  | zero => obtain ⟨p, rfl, _⟩ := h; exact ⟨_, _, rfl⟩
  | succ i => obtain ⟨p, q, fv', rfl, _⟩ := h; exact ⟨_, _, rfl⟩

set_option maxRecDepth 100000 in
set_option maxHeartbeats 800000 in
theorem haltAfter_w (k at_ k' at' deep : Int) (w : World) :
    Calls Try.prog 5 #[.agg #[.int .i64 k, .int .i64 at_], .agg #[.int .i64 k', .int .i64 at'], .int .i64 deep] w fun e w' => e = .returned (.bool true) ∧ Kept (fun _ => False) w w' := by
  have hmf := makeF
  obtain ⟨n, hn, hn1, hn5⟩ : ∃ n : Nat, 1 + deep % 5 = n ∧ 1 ≤ n ∧ n ≤ 5 := ⟨(1 + deep % 5).toNat, by omega, by omega, by omega⟩
  go_enter Try.func5, Try.ntmps5
  go_wp2_with fail
  refine (within_any deep 1 5 (by decide) (by decide) (by decide) _).mono ?_
  rintro e w1 ⟨rfl, rfl⟩
  simp only [show (1 : Int) + deep % (5 - 1 + 1) = n from by omega]
  clear hn
  go_wp2_with fail
  go_loopw [8, 10] (fun f i wr => ∃ j : Nat, j ≤ n ∧ i = .int .i64 (j + 1 : Nat) ∧ Chain k at_ (w.heap.size + 1 + 1) j f wr ∧ wr.heap[w.heap.size]? = some (.cells #[.int .i64 k, .int .i64 at_] 35 (0, 0)) ∧
      wr.heap[w.heap.size + 1]? = some (.cells #[.int .i64 k', .int .i64 at'] 35 (0, 0)) ∧ wr.heap[w.heap.size + 1 + 1]? = some (.cells #[.slice none 0 0] 27 (0, 0)) ∧ Kept (fun _ => False) w wr)
    (fun _ i _ => n + 1 - (intOf i).toNat)
  case atStart =>
    refine ⟨0, Nat.zero_le _, rfl, ⟨w.heap.size, rfl, by omega, alloc_off (alloc_off (alloc_at _ _))⟩, alloc_off (alloc_off (alloc_at _ _)), alloc_off (alloc_at1 _ _ _), alloc_at' _ (by simp), (((Kept.refl _ w).alloc _).alloc _).alloc _⟩
  case round =>
    obtain ⟨j, hj, rfl, hc, h0, h1, h2, hK⟩ := hrel
    obtain ⟨F, cap, rfl⟩ := hc.form
    have HC : Hid (Chain k at_ (w.heap.size + 1 + 1) j (.func F #[] cap) wr) := hc
    have HK : Hid (Kept (fun _ => False) w wr) := hK
    have l2 := lt_at h2
    clear hc hK
    by_cases hjn : j < n
    · have HH : Hid (_ ∧ _ ∧ _) := ⟨h0, h1, h2⟩
      clear h0 h1 h2
      go_wp2
      obtain ⟨h0, h1, h2⟩ := HH.out
      go_roundw
      case rel =>
        refine ⟨j + 1, by omega, by go_num, ⟨wr.heap.size, wr.heap.size + 1, _, rfl, by omega, by omega, alloc_off (alloc_at _ _), ?_, ?_⟩, alloc_off (alloc_off h0), alloc_off (alloc_off h1), alloc_off (alloc_off h2), (HK.out.alloc _).alloc _⟩
        · exact alloc_at1 _ _ _
        · exact Chain.kept (((Kept.refl _ _).alloc _).alloc _) HC.out
      case measure => simp [intOf]; omega
    · have hjn : j = n := by omega
      subst hjn
      go_wp2_with fail
      refine (after_guard k at_ k' at' (w.heap.size + 1 + 1) wr.heap.size (w.heap.size + 1) j (.func F #[] cap) _ (by omega) (Chain.kept ((Kept.refl _ _).alloc _) HC.out) (alloc_at _ _) (by omega) (alloc_off h1) (by omega)
        ⟨alloc_off h2, World.ownsRow_nil _ _ _ _⟩).mono ?_
      rintro e wG ⟨rfl, kG, v', sG, rG⟩
      have K1 : Kept (fun _ => False) w wG := (HK.out.alloc _).trans kG (by
        intro x hx h
        simp [Value.ownBlock] at h
        omega)
      have g0 := kG.at (alloc_off h0) (by simp [Value.ownBlock]; omega)
      have g1 := kG.at (alloc_off h1) (by simp [Value.ownBlock])
      clear kG rG HC HK h0 h1 h2
      have d0 := cell_at g0 (i := 0) rfl
      have d1 := cell_at g0 (i := 1) rfl
      have e0 := lt_at g0
      obtain ⟨x0, x1, hx⟩ := told_agg (outOf k at_)
      obtain ⟨y0, y1, hy⟩ := told_agg (outOf k' at')
      obtain ⟨s0, s1, hs⟩ := told_agg ((outOf k at_).over (outOf k' at'))
      simp only [hs]
      have HS : Hid (((outOf k at_).over (outOf k' at')).told = _) := hs
      clear hs
      have HG : Hid (_ ∧ _ ∧ _) := ⟨g1, sG, K1⟩
      clear g0 g1 sG K1
      go_wp2_with fail
      refine (stops_w k at_ _).mono ?_
      rintro e w3 ⟨rfl, k3⟩
      obtain ⟨g1, sG, K1⟩ := HG.out
      clear HG d0 d1
      have t3 := k3.at (alloc_at _ _) (by simp)
      have g1' := k3.at (alloc_off g1) (by simp)
      have s3 := sG.kept ((Kept.refl (fun _ => False) wG).alloc _ |>.trans k3 (fun _ _ h => h)) (by simp) (by simp)
      have K3 : Kept (fun _ => False) w w3 := (K1.alloc _).trans k3 (fun _ _ h => h)
      clear k3 K1 sG g1
      simp only [hx]
      have d0 := cell_at g1' (i := 0) rfl
      have d1 := cell_at g1' (i := 1) rfl
      have e1 := lt_at g1'
      have HG : Hid (_ ∧ _ ∧ _) := ⟨t3, s3, K3⟩
      clear g1' t3 s3 K3
      go_wp2_with fail
      refine (stops_w k' at' _).mono ?_
      rintro e w4 ⟨rfl, k4⟩
      obtain ⟨t3, s3, K3⟩ := HG.out
      clear HG d0 d1 e0 e1
      have t14 := k4.at (alloc_off t3) (by simp)
      have t16 := k4.at (alloc_at _ _) (by simp)
      have s4 := s3.kept ((Kept.refl (fun _ => False) w3).alloc _ |>.trans k4 (fun _ _ h => h)) (by simp) (by simp)
      have K4 : Kept (fun _ => False) w w4 := (K3.alloc _).trans k4 (fun _ _ h => h)
      have l34 := lt_at t3
      have lw3 := K3.size
      clear k4 t3 K3
      simp only [hy]
      obtain ⟨g, cp, rfl, hgl, hcp, hgs, hcell⟩ := seen_form s4 (by simp [upto_length])
      have hlen : ([] ++ (upto j ++ [9])).length = j + 2 := by simp [upto_length]
      rw [hlen] at s4 hcp
      have cs : w4.cell? ⟨w.heap.size + 1 + 1, 0, none⟩ = some (.slice (some ⟨g, 0, none⟩) (j + 2) cp) := cell_at s4.box (i := 0) rfl
      have ls := lt_at s4.box
      have ci : ∀ i : Nat, i ≤ j → w4.cell? ⟨g, i, none⟩ = some (.int .i64 i) := fun i hi => by
        rw [hcell i (by omega), upto_get j i hi]
      have c9 : w4.cell? ⟨g, j + 1, none⟩ = some (.int .i64 9) := by rw [hcell (j + 1) (by omega), upto_last]
      have c0 := ci 0 (by omega)
      have CI : Hid _ := ci
      have n1 : ¬ g = w3.heap.size := by have := s3.row_lt (k := g) rfl; omega
      have n2 : ¬ w.heap.size + 1 + 1 = w3.heap.size := by have := lt_at s3.box; omega
      have n3 : ¬ wG.heap.size = w3.heap.size := by omega
      have n4 : ¬ w3.heap.size = g := Ne.symm n1
      have n5 : ¬ w3.heap.size = w.heap.size + 1 + 1 := Ne.symm n2
      have n6 : ¬ w3.heap.size = wG.heap.size := Ne.symm n3
      clear ci hcell s3 s4 hlen
      have a0 := cell_at t14 (i := 0) rfl
      have a1 := cell_at t14 (i := 1) rfl
      have b0 := cell_at t16 (i := 0) rfl
      have b1 := cell_at t16 (i := 1) rfl
      have fb0 := free_at t16 0
      have fb1 := free_at t16 1
      have la := lt_at t14
      have lb := lt_at t16
      have KK : Hid (Kept (fun _ => False) w w4) := K4
      clear t14 t16 K4
      cases hst : (outOf k' at').stopped with
      | true =>
        rw [over_stop _ hst] at HS
        simp only [over_stop _ hst, hst]
        have ho := HS.out.symm.trans hy
        simp at ho
        obtain ⟨rfl, rfl⟩ := ho
        clear HS hx hy hst
        go_wp2
        go_loop [20] (fun i => ∃ m : Nat, 1 ≤ m ∧ m ≤ j + 1 ∧ i = .int .i64 m) (fun i => j + 1 - (intOf i).toNat)
        case atStart => exact ⟨1, by omega, by omega, rfl⟩
        case round =>
          obtain ⟨m, hm1, hm2, rfl⟩ := hrel
          by_cases hmj : m ≤ j
          · have cm := CI.out m hmj
            go_wp2
            go_round
            case rel => exact ⟨m + 1, by omega, by omega, by go_num⟩
            case measure => simp [intOf]; omega
          · go_wp2_with fail
            refine (runs_w _).mono ?_
            rintro e w5 ⟨rfl, k5⟩
            have K5 : Hid (Kept (fun _ => False) w w5) := Kept.trans (Kept.alloc (Kept.setCell (Kept.setCell KK.out (fun h => by have := h; simp at this; omega) _) (fun h => by have := h; simp at this; omega) _) _) k5 (fun _ _ h => h)
            clear k5
            go_wp2
            go_ret
            exact ⟨rfl, K5.out⟩
      | false =>
        have hov : (outOf k at_).over (outOf k' at') = outOf k at_ := by simp [Out.over, hst]
        rw [hov] at HS
        simp only [hov]
        have ho := HS.out.symm.trans hx
        simp at ho
        obtain ⟨rfl, rfl⟩ := ho
        clear HS hx hy hst hov
        cases hsa : (outOf k at_).stopped <;> clear hsa
        · go_wp2
          go_loop [20] (fun i => ∃ m : Nat, 1 ≤ m ∧ m ≤ j + 1 ∧ i = .int .i64 m) (fun i => j + 1 - (intOf i).toNat)
          case atStart => exact ⟨1, by omega, by omega, rfl⟩
          case round =>
            obtain ⟨m, hm1, hm2, rfl⟩ := hrel
            by_cases hmj : m ≤ j
            · have cm := CI.out m hmj
              go_wp2
              go_round
              case rel => exact ⟨m + 1, by omega, by omega, by go_num⟩
              case measure => simp [intOf]; omega
            · go_wp2_with fail
              refine (runs_w _).mono ?_
              rintro e w5 ⟨rfl, k5⟩
              have K5 : Hid (Kept (fun _ => False) w w5) := Kept.trans (Kept.alloc KK.out _) k5 (fun _ _ h => h)
              clear k5
              go_wp2
              go_ret
              exact ⟨rfl, K5.out⟩
        · go_wp2
          go_loop [20] (fun i => ∃ m : Nat, 1 ≤ m ∧ m ≤ j + 1 ∧ i = .int .i64 m) (fun i => j + 1 - (intOf i).toNat)
          case atStart => exact ⟨1, by omega, by omega, rfl⟩
          case round =>
            obtain ⟨m, hm1, hm2, rfl⟩ := hrel
            by_cases hmj : m ≤ j
            · have cm := CI.out m hmj
              go_wp2
              go_round
              case rel => exact ⟨m + 1, by omega, by omega, by go_num⟩
              case measure => simp [intOf]; omega
            · go_wp2_with fail
              refine (runs_w _).mono ?_
              rintro e w5 ⟨rfl, k5⟩
              have K5 : Hid (Kept (fun _ => False) w w5) := Kept.trans (Kept.alloc KK.out _) k5 (fun _ _ h => h)
              clear k5
              go_wp2
              go_ret
              exact ⟨rfl, K5.out⟩
end Go.Proofs.Ytimjhjlgnoiimaa
