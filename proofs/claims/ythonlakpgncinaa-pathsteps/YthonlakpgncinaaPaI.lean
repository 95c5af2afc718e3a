
/- A grown tree: the asks are made one behind the other, the walk; no conditions. -/
import Derived.Test.YthonlakpgncinaaPaH
import Derived.Deep.CutBlock
namespace Go.Proofs.Ythonlakpgncinaa
open Go.RowKit
set_option maxRecDepth 100000
set_option linter.unusedSimpArgs false

/-- All that the walk keeps. -/
def GrowIn (w0 : World) (T p B q N : Nat) (n : Nat) (w : World) : Prop := ∃ g k O, SideIn w0 T p B q N g w ∧ TreeF g k O ∧ k ≤ 3 + n
theorem GrowIn.still {w0 w w' : World} {T p B q N n : Nat} (h : GrowIn w0 T p B q N n w) (hk : Kept (fun _ => False) w w') : GrowIn w0 T p B q N n w' := by
  obtain ⟨g, k, O, h1, h2⟩ := h
  exact ⟨g, k, O, h1.still hk, h2⟩

set_option maxHeartbeats 4000000 in
theorem grown_w (ao : Option Addr) (len cap lb off : Nat) (Q : Nat → QA) (hao : 0 < len → ao = some ⟨lb, off, none⟩) (w : World) (hc : ∀ i, i < len → QAt w lb (off + i * 3) (Q i)) :
    Calls Try.prog 16 #[.slice ao len cap] w fun e w' => ∃ T p B q N g k O, e = .returned (.pointer (some ⟨T, 0, none⟩)) ∧ SideIn w T p B q N g w' ∧ TreeF g k O := by
  have HC : Hid (∀ i, i < len → QAt w lb (off + i * 3) (Q i)) := hc
  go_enter Try.func16, Try.ntmps16
  go_wp2_with fail
  refine (tree_w w).mono ?_
  rintro e w1 ⟨T, p, B, q, N, rfl, h1, -⟩
  have H0 : Hid (GrowIn w T p B q N 0 w1) := ⟨_, _, _, h1, tree_new, by omega⟩
  clear h1 hc
  go_wp2_with fail
  go_loopw [4, 5, 6, 7, 8, 9, 10, 11] (fun v _ _ _ _ _ _ _ wr => ∃ r : Nat, v = .int .i64 r ∧ r ≤ len ∧ r ≤ 9 ∧ Hid (GrowIn w T p B q N r wr)) (fun v _ _ _ _ _ _ _ _ => 9 - (intOf v).toNat)
  case atStart => exact ⟨0, rfl, by omega, by omega, H0.out⟩
  case round =>
    clear H0
    obtain ⟨r, rfl, hr1, hr2, HH⟩ := hrel
    obtain ⟨z, hz⟩ : ∃ z : Bool, decide ((r : Int) < (len : Int) ∧ (r : Int) < 9) = z := ⟨_, rfl⟩
    go_upto_region 5 with fail
    go_cut [22] from 15 to 22 (fun v wx => v = .bool z ∧ wx = wr)
    case first =>
      by_cases p1 : (r : Int) < (len : Int)
      · by_cases p2 : (r : Int) < 9
        · have hz' : z = true := by rw [← hz]; simp [p1, p2]
          subst hz'
          clear hz
          go_wp2
          go_meet
          case rel => exact ⟨rfl, rfl⟩
        · have hz' : z = false := by rw [← hz]; simp [p1, p2]
          subst hz'
          clear hz
          go_wp2
          go_meet
          case rel => exact ⟨rfl, rfl⟩
      · have hz' : z = false := by rw [← hz]; simp [p1]
        subst hz'
        clear hz
        go_wp2
        go_meet
        case rel => exact ⟨rfl, rfl⟩
    case rest =>
      obtain ⟨rfl, hwc⟩ := hcut
      subst hwc
      cases z with
      | false =>
        have HZ : Hid (∃ g k O, SideIn w T p B q N g wc ∧ TreeF g k O) := by
          obtain ⟨g, k, O, h1, h2, -⟩ := HH.out
          exact ⟨g, k, O, h1, h2⟩
        clear hz HH hao
        go_wp2_with fail
        go_ret
        obtain ⟨g, k, O, h1, h2⟩ := HZ.out
        exact ⟨T, p, B, q, N, g, k, O, rfl, h1, h2⟩
      | true =>
        simp only [decide_eq_true_eq] at hz
        obtain ⟨t1, t2⟩ := hz
        have hl1 : r < len := by omega
        have h0 := hao (by omega)
        subst h0
        have hq0 := HC.out r hl1
        obtain ⟨⟨qd, qs, qf⟩, hqe⟩ : ∃ y, Q r = y := ⟨_, rfl⟩
        rw [hqe] at hq0
        have HQ : Hid (∀ w', Kept (fun _ => False) w w' → w'.cell? ⟨lb, off + r * 3 + 2, none⟩ = some (.bool qf)) := fun w' hk => (hq0.still hk).2.2
        obtain ⟨g, k, O, hS, hT, hk3⟩ := HH.out
        obtain ⟨e0, e1, -⟩ := hq0.still hS.kept
        simp only at e0 e1
        clear hqe hq0 hao HH
        go_wp2_with fail
        refine (within_any qd 1 12 (by omega) (by omega) (by omega) wc).mono ?_
        rintro e w4 ⟨rfl, hw⟩
        subst hw
        obtain ⟨d, hd⟩ : ∃ d : Int, 1 + qd % (12 - 1 + 1) = d := ⟨_, rfl⟩
        rw [hd]
        clear hd e0
        go_wp2_with fail
        refine (within_any qs 0 3 (by omega) (by omega) (by omega) w4).mono ?_
        rintro e w5 ⟨rfl, hw⟩
        subst hw
        obtain ⟨n1, hn1⟩ : ∃ n1 : Int, 0 + qs % (3 - 0 + 1) = n1 := ⟨_, rfl⟩
        have n11 : 0 ≤ n1 := by omega
        have n12 : n1 ≤ 3 := by omega
        rw [hn1]
        clear hn1 e1
        obtain ⟨G, hG⟩ : ∃ G : Nat, w5.heap.size = G := ⟨_, rfl⟩
        obtain ⟨c, hcb, hcr, hcd1, hcd2⟩ := letter (b := 97 + n1) (by omega) (by omega)
        have hrow : RowB G [c] (w5.alloc (.cells #[.int .u8 (97 + n1)] 5)) := ⟨_, _, alloc_at' _ hG, by rw [← hcb]; rfl⟩
        have hcv := row_text hrow 1
        have HL : Hid (Nm.rightF [c] = true ∧ ([c] : Bs) ≠ [46] ∧ ([c] : Bs) ≠ [46, 46]) := ⟨hcr, hcd1, hcd2⟩
        obtain ⟨s, hs⟩ : ∃ s : ByteArray, bs [c] = s := ⟨_, rfl⟩
        rw [hs] at hcv
        have hbl : bl s = [c] := by rw [← hs, bl_bs]
        have hss : s.size ≤ 1000000 := by rw [← hs, bs_size]; show 1 ≤ 1000000; decide
        have hS6 := hS.still ((Kept.refl (fun _ => False) w5).alloc (.cells #[.int .u8 (97 + n1)] 5))
        rw [← hbl] at HL
        have ct := hS6.t
        clear hrow hcr hcd1 hcd2 hs hbl hcb hS
        simp only [List.length_cons, List.length_nil] at hcv
        go_wp2_with fail
        generalize w5.alloc (.cells #[.int .u8 (97 + n1)] 5) = w6 at *
        clear hG hcv n11 n12
        refine (side_dfind hS6 d s hss).mono ?_
        rintro e w7 ⟨rfl, hS7, -⟩
        have hT7 := hT.find d
        have HT : Hid (TreeF g k O) := hT
        obtain ⟨fo, hfo⟩ : ∃ fo, foundE (dirE f0 g d) (bl s) = fo := ⟨_, rfl⟩
        rw [hfo]
        have c7 := hS7.t
        clear ct hS6 hT
        cases fo with
        | some n =>
          rw [found_yes]
          have HN : Hid (GrowIn w T p B q N (r + 1) w7) := ⟨_, _, _, hS7, hT7, by omega⟩
          clear hS7 hT7 HT HL hfo c7 hss HQ
          go_wp2_with fail
          go_roundw
          case rel => exact ⟨r + 1, by go_num, by omega, by omega, HN.out⟩
          case measure => simp [intOf]; omega
        | none =>
          rw [found_no]
          go_wp2_with fail
          refine (side_dis hS7 d).mono ?_
          rintro e w8 ⟨rfl, hS8, -⟩
          have hT8 := hT7.find d
          obtain ⟨bd, hbd⟩ : ∃ bd, isDirF f0 g d = bd := ⟨_, rfl⟩
          rw [isdir_find, hbd]
          clear hT7 hS7 c7
          cases bd with
          | false =>
            have HN : Hid (GrowIn w T p B q N (r + 1) w8) := ⟨_, _, _, hS8, hT8, by omega⟩
            clear hS8 hT8 HT HL hfo hbd hss HQ
            go_wp2_with fail
            go_roundw
            case rel => exact ⟨r + 1, by go_num, by omega, by omega, HN.out⟩
            case measure => simp [intOf]; omega
          | true =>
            have c8 := hS8.t
            go_wp2_with fail
            refine (side_dnames hS8 d).mono ?_
            rintro e w9 ⟨v, rfl, hv, hS9, -⟩
            have hT9 := hT8.find d
            have hff : ∀ j, findV f0 (findT (findT (findT g d) d) d) j = findV f0 g j := fun j => by rw [find_find, find_find, find_find]
            have hd9 : isDirF f0 (findT (findT (findT g d) d) d) d = true := by rw [isD_eq hff]; exact hbd
            have hf9 : inF (findT (findT (findT g d) d) d) d (bl s) = none := by unfold inF; rw [dirE_eq (hff d)]; exact hfo
            obtain ⟨L, hL⟩ : ∃ L, (namesE (dirE f0 (findT (findT g d) d) d)).length = L := ⟨_, rfl⟩
            have hL9 : (namesE (dirE f0 (findT (findT (findT g d) d) d) d)).length = L := by rw [← hL, dirE_eq (find_find _ _ _ _)]
            obtain ⟨ao2, b2, o2, c2, rfl, -, -⟩ := hv.form
            rw [hL]
            clear hff hv hS8 hT8 c8 hL hfo hbd HT
            generalize findT (findT (findT g d) d) d = g9 at *
            by_cases h6 : (6 : Int) < (L : Int)
            · have HN : Hid (GrowIn w T p B q N (r + 1) w9) := ⟨_, _, _, hS9, hT9, by omega⟩
              clear hS9 hT9 hd9 hf9 hL9 HL hss HQ
              go_wp2_with fail
              go_roundw
              case rel => exact ⟨r + 1, by go_num, by omega, by omega, HN.out⟩
              case measure => simp [intOf]; omega
            · have e2 := HQ.out w9 hS9.kept
              have c9 := hS9.t
              cases qf with
              | true =>
                obtain ⟨a1, O', hT'⟩ := hT9.file (by omega) hd9 HL.out.1 HL.out.2 hf9 (by omega)
                have hgot := hT9.got
                clear hT9 hd9 hf9 hL9
                go_wp2_with fail
                refine (side_alloc hS9 2).mono ?_
                rintro e w10 ⟨rfl, hS10, -⟩
                rw [hgot]
                have c10 := hS10.t
                clear hS9 c9 e2 hgot
                go_wp2_with fail
                refine (side_dadd hS10 d s hss ((k : Int) + 1)).mono ?_
                rintro e w11 ⟨rfl, hS11, -⟩
                rw [a1]
                have e2 := HQ.out w11 hS11.kept
                have HN : Hid (GrowIn w T p B q N (r + 1) w11) := ⟨_, _, _, hS11, hT', by omega⟩
                clear hS10 hS11 hT' a1 c10 HL hss HQ
                go_wp2_with fail
                go_roundw
                case rel => exact ⟨r + 1, by go_num, by omega, by omega, HN.out⟩
                case measure => simp [intOf]; omega
              | false =>
                obtain ⟨a1, a2, a3, O', hT'⟩ := hT9.made (by omega) hd9 HL.out.1 HL.out.2 hf9 (by omega)
                have hgot := hT9.got
                clear hT9 hd9 hf9 hL9
                go_wp2_with fail
                refine (side_alloc hS9 1).mono ?_
                rintro e w10 ⟨rfl, hS10, -⟩
                rw [hgot]
                have c10 := hS10.t
                clear hS9 c9 e2 hgot
                go_wp2_with fail
                refine (side_dadd hS10 d s hss ((k : Int) + 1)).mono ?_
                rintro e w11 ⟨rfl, hS11, -⟩
                rw [a1]
                have e2 := HQ.out w11 hS11.kept
                have c11 := hS11.t
                clear hS10 c10 a1
                go_wp2_with fail
                refine (side_dadd hS11 ((k : Int) + 1) ⟨#[46]⟩ (by decide) ((k : Int) + 1)).mono ?_
                rintro e w12 ⟨rfl, hS12, -⟩
                rw [show bl ⟨#[46]⟩ = [46] from rfl] at hS12 ⊢
                rw [a2]
                have c12 := hS12.t
                clear hS11 c11 a2 e2
                go_wp2_with fail
                refine (side_dadd hS12 ((k : Int) + 1) ⟨#[46, 46]⟩ (by decide) d).mono ?_
                rintro e w13 ⟨rfl, hS13, -⟩
                rw [show bl ⟨#[46, 46]⟩ = [46, 46] from rfl] at hS13 ⊢
                rw [a3]
                have HN : Hid (GrowIn w T p B q N (r + 1) w13) := ⟨_, _, _, hS13, hT', by omega⟩
                clear hS12 hS13 hT' a3 c12 HL hss HQ
                go_wp2_with fail
                go_roundw
                case rel => exact ⟨r + 1, by go_num, by omega, by omega, HN.out⟩
                case measure => simp [intOf]; omega
end Go.Proofs.Ythonlakpgncinaa
