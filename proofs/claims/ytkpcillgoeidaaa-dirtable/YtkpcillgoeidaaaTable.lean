
/- A new directory is a table: what was added and not removed is found, with its number; names stand once; as many as fit; no conditions. -/
import Derived.Test.YtkpcillgoeidaaaTabG
import Derived.Test.YtkpcillgoeidaaaOpenArgs
import Derived.Deep.CutBlock
namespace Go.Proofs.Ytkpcillgoeidaaa
open Go.RowKit
set_option maxRecDepth 100000
set_option linter.unusedSimpArgs false

/-- A name of one letter is right, and no dot. -/
theorem letters : ∀ k : Fin 12, Nm.rightF [UInt8.ofNat (97 + k.val)] = true ∧ ([UInt8.ofNat (97 + k.val)] : Bs) ≠ [46] ∧ ([UInt8.ofNat (97 + k.val)] : Bs) ≠ [46, 46] ∧ (UInt8.ofNat (97 + k.val)).toNat = 97 + k.val := by decide +kernel
theorem letter {b : Int} (h1 : 97 ≤ b) (h2 : b ≤ 108) : ∃ c : UInt8, (c.toNat : Int) = b ∧ Nm.rightF [c] = true ∧ ([c] : Bs) ≠ [46] ∧ ([c] : Bs) ≠ [46, 46] := by
  obtain ⟨x1, x2, x3, x4⟩ := letters ⟨(b - 97).toNat, by omega⟩
  refine ⟨_, ?_, x1, x2, x3⟩
  rw [x4]
  show ((97 + (b - 97).toNat : Nat) : Int) = b
  omega
theorem src_len {x : Value} {l : List Bs} {w : World} (h : Nm.SrcS x l w) : ∃ ao b o c, x = .slice ao l.length c ∧ (0 < l.length → ao = some ⟨b, o, none⟩) := by
  obtain ⟨ao, b, o, c, e, h1, -⟩ := h.form
  exact ⟨ao, b, o, c, e, h1⟩

set_option maxHeartbeats 4000000 in
theorem table_law (ao : Option Addr) (len cap lb off : Nat) (Q : Nat → QA) (hao : 0 < len → ao = some ⟨lb, off, none⟩) (w : World) (hc : ∀ i, i < len → QAt w lb (off + i * 4) (Q i)) :
    Calls Try.prog 5 #[.slice ao len cap] w fun e w' => e = .returned (.bool true) ∧ Kept (fun _ => False) w w' := by
  have HC : Hid (∀ i, i < len → QAt w lb (off + i * 4) (Q i)) := hc
  clear hc
  go_enter Try.func5, Try.ntmps5
  go_wp2_with fail
  refine (side_new w).mono ?_
  rintro e w1 ⟨T, p, B, q, N, rfl, h1, hT⟩
  clear hT
  have c1 := h1.t
  go_wp2_with fail
  refine (side_alloc h1 1).mono ?_
  rintro e w2 ⟨rfl, h2, -⟩
  rw [ra]
  change SideIn _ _ _ _ _ _ r1 _ at h2
  clear h1 c1
  obtain ⟨O, hO⟩ : ∃ O : Nat, w2.heap.size = O := ⟨_, rfl⟩
  have H0 : Hid (TabIn w T p B q N O r1 (fun _ => none) (w2.alloc (.map #[] 0)) ∧ TabF r1 (fun _ => none)) :=
    ⟨⟨h2.still ((Kept.refl _ _).alloc _), MapIn.made hO, by have := h2.v.map.lt; omega, by have := h2.s.map.lt; omega, by have := h2.kept.size; omega⟩, tab_new⟩
  clear h2
  have hmm := @run_makeMap Try.prog
  go_wp2_with fail
  clear hmm
  generalize w2.alloc (.map #[] 0) = w3 at *
  clear hO
  go_loopw [7] (fun v wr => ∃ (r : Nat) (g : VwF) (o : Bs → Option Int), v = .int .i64 r ∧ r ≤ len ∧ r ≤ 40 ∧ Hid (TabIn w T p B q N O g o wr ∧ TabF g o)) (fun v _ => 40 - (intOf v).toNat)
  case atStart => exact ⟨0, _, _, rfl, by omega, by omega, H0.out⟩
  case round =>
    clear H0
    obtain ⟨r, g, o, rfl, hr1, hr2, HH⟩ := hrel
    obtain ⟨z, hz⟩ : ∃ z : Bool, decide ((r : Int) < (len : Int) ∧ (r : Int) < 40) = z := ⟨_, rfl⟩
    go_upto_region 9 with fail
    go_cut [41] from 34 to 41 (fun v wx => v = .bool z ∧ wx = wr)
    case first =>
      as_aux_lemma =>
      by_cases p1 : (r : Int) < (len : Int)
      · by_cases p2 : (r : Int) < 40
        · have hz' : z = true := by rw [← hz]; simp [p1, p2]
          subst hz'
          clear hz
          go_wp2
          go_meet
          case rel => exact ⟨rfl, rfl⟩
        · have hz' : z = false := by rw [← hz]; simp [p1, p2]
          subst hz'
          clear hz
          go_wp2
          go_meet
          case rel => exact ⟨rfl, rfl⟩
      · have hz' : z = false := by rw [← hz]; simp [p1]
        subst hz'
        clear hz
        go_wp2
        go_meet
        case rel => exact ⟨rfl, rfl⟩
    case rest =>
      obtain ⟨rfl, hwc⟩ := hcut
      subst hwc
      cases z with
      | true =>
        as_aux_lemma =>
        simp only [decide_eq_true_eq] at hz
        obtain ⟨t1, t2⟩ := hz
        have hl1 : r < len := by omega
        have h0 := hao (by omega)
        subst h0
        have hq0 := HC.out r hl1
        obtain ⟨⟨qk, qd, qi, qs⟩, hqe⟩ : ∃ y, Q r = y := ⟨_, rfl⟩
        rw [hqe] at hq0
        have HQ : Hid (QAt w lb (off + r * 4) ⟨qk, qd, qi, qs⟩) := hq0
        obtain ⟨e0, e1, e2, e3⟩ := hq0.still HH.out.1.side.kept
        simp only at e0 e1 e2 e3
        clear hqe hq0 hao e0 e2 e3
        go_wp2_with fail
        refine (within_any qd 0 11 (by omega) (by omega) (by omega) wc).mono ?_
        rintro e w4 ⟨rfl, hw⟩
        subst hw
        obtain ⟨n1, hn1⟩ : ∃ n1 : Int, 0 + qd % (11 - 0 + 1) = n1 := ⟨_, rfl⟩
        have n11 : 0 ≤ n1 := by omega
        have n12 : n1 ≤ 11 := by omega
        rw [hn1]
        clear hn1 e1
        obtain ⟨G, hG⟩ : ∃ G : Nat, w4.heap.size = G := ⟨_, rfl⟩
        obtain ⟨c, hcb, hcr, hcd1, hcd2⟩ := letter (b := 97 + n1) (by omega) (by omega)
        have hrow : RowB G [c] (w4.alloc (.cells #[.int .u8 (97 + n1)] 5)) := ⟨_, _, alloc_at' _ hG, by rw [← hcb]; rfl⟩
        have hcv := row_text hrow 1
        have HL : Hid (Nm.rightF [c] = true ∧ ([c] : Bs) ≠ [46] ∧ ([c] : Bs) ≠ [46, 46]) := ⟨hcr, hcd1, hcd2⟩
        obtain ⟨s, hs⟩ : ∃ s : ByteArray, bs [c] = s := ⟨_, rfl⟩
        rw [hs] at hcv
        have hbl : bl s = [c] := by rw [← hs, bl_bs]
        have hss : s.size ≤ 1000000 := by rw [← hs, bs_size]; show 1 ≤ 1000000; decide
        have HI : Hid (TabIn w T p B q N O g o (w4.alloc (.cells #[.int .u8 (97 + n1)] 5)) ∧ TabF g o) := ⟨HH.out.1.still ((Kept.refl _ _).alloc _), HH.out.2⟩
        rw [← hbl] at HL
        clear hrow HH hcr hcd1 hcd2 hs hbl hcb
        simp only [List.length_cons, List.length_nil] at hcv
        have e2 := (HQ.out.still HI.out.1.side.kept).2.2.1
        simp only at e2
        go_wp2_with fail
        generalize w4.alloc (.cells #[.int .u8 (97 + n1)] 5) = w5 at *
        clear hG hcv
        refine (within_any qi 1 15 (by omega) (by omega) (by omega) w5).mono ?_
        rintro e w5' ⟨rfl, hw⟩
        subst hw
        obtain ⟨n2, hn2⟩ : ∃ n2 : Int, 1 + qi % (15 - 1 + 1) = n2 := ⟨_, rfl⟩
        have hn : hereB n2 = true := here_iff.2 ⟨by omega, by omega⟩
        rw [hn2]
        clear hn2 e2 n11 n12
        have hlk := HI.out.1.look s
        have e0 := (HQ.out.still HI.out.1.side.kept).1
        simp only at e0
        obtain ⟨x, hx⟩ : ∃ x, o (bl s) = x := ⟨_, rfl⟩
        rw [hx] at hlk
        have HX : Hid (o (bl s) = x) := hx
        clear hx
        go_upto_if 71 with fail
        clear hlk
        go_cut [8] from 34 to 160 (fun v wx => v = .string s ∧ ∃ g' o', Hid (TabIn w T p B q N O g' o' wx ∧ TabF g' o'))
        case first =>
          as_aux_lemma =>
          have hS := HI.out.1.side
          have hF := HI.out.2
          have c1 := hS.t
          by_cases h2 : qk = 2
          · subst h2
            go_wp2_with fail
            refine (side_drm hS 1 s hss).mono ?_
            rintro e w6 ⟨rfl, h6, k6⟩
            rw [hF.e.found HL.out.1, HX.out]
            have hT6 := HI.out.1.view h6 k6
            obtain ⟨w7, hd7, hT7⟩ := hT6.drop s 0
            have HN : Hid (TabIn w T p B q N O (rmT f0 g 1 (bl s)) (del o (bl s)) w7 ∧ TabF (rmT f0 g 1 (bl s)) (del o (bl s))) := ⟨hT7, hF.rm HL.out.1⟩
            clear hT6 hT7 h6 k6 hS hF c1 e0
            generalize x.isSome = z1 at *
            go_wp2
            go_meet
            case rel => exact ⟨rfl, _, _, HN.out⟩
          · cases x with
            | some m =>
              have hok : addOk f0 g 1 (bl s) n2 = false := by rw [hF.ok HL.out.1 hn, HX.out]; rfl
              have hadd : addT f0 g 1 (bl s) n2 = findT g 1 := by unfold addT; rw [hok, if_neg (by simp)]
              go_wp2_with fail
              refine (side_dadd hS 1 s hss n2).mono ?_
              rintro e w6 ⟨rfl, h6, k6⟩
              rw [hok]
              rw [hadd] at h6
              have HN : Hid (TabIn w T p B q N O (findT g 1) o w6 ∧ TabF (findT g 1) o) := ⟨HI.out.1.view h6 k6, hF.find.1⟩
              clear h6 k6 hS hF c1 e0 hok hadd
              go_wp2
              go_meet
              case rel => exact ⟨rfl, _, _, HN.out⟩
            | none =>
              have hlen := HI.out.1.len hF 3
              have hok0 := hF.ok HL.out.1 hn
              rw [HX.out] at hok0
              generalize (namesE (dirE f0 g 1)).length = L at *
              by_cases hL : L < 8
              · have hok : addOk f0 g 1 (bl s) n2 = true := by rw [hok0]; simp [hL]
                have t3 : (L : Int) < 8 := by omega
                go_wp2_with fail
                refine (side_dadd hS 1 s hss n2).mono ?_
                rintro e w6 ⟨rfl, h6, k6⟩
                rw [hok]
                have hT6 := HI.out.1.view h6 k6
                obtain ⟨w7, hu7, hT7⟩ := hT6.store s n2
                have HN : Hid (TabIn w T p B q N O (addT f0 g 1 (bl s) n2) (upd o (bl s) n2) w7 ∧ TabF (addT f0 g 1 (bl s) n2) (upd o (bl s) n2)) := ⟨hT7, hF.add HL.out.1 hn HL.out.2 hok⟩
                clear hT6 hT7 h6 k6 hS hF c1 e0 hok hok0 hlen
                go_wp2
                go_meet
                case rel => exact ⟨rfl, _, _, HN.out⟩
              · have hok : addOk f0 g 1 (bl s) n2 = false := by rw [hok0]; simp [hL]
                have hadd : addT f0 g 1 (bl s) n2 = findT g 1 := by unfold addT; rw [hok, if_neg (by simp)]
                have t3 : ¬ (L : Int) < 8 := by omega
                go_wp2_with fail
                refine (side_dadd hS 1 s hss n2).mono ?_
                rintro e w6 ⟨rfl, h6, k6⟩
                rw [hok]
                rw [hadd] at h6
                have HN : Hid (TabIn w T p B q N O (findT g 1) o w6 ∧ TabF (findT g 1) o) := ⟨HI.out.1.view h6 k6, hF.find.1⟩
                clear h6 k6 hS hF c1 e0 hok hok0 hadd hlen
                go_wp2
                go_meet
                case rel => exact ⟨rfl, _, _, HN.out⟩
        case rest =>
          as_aux_lemma =>
          obtain ⟨rfl, g', o', HG⟩ := hcut
          clear HI HX e0 HL hss
          have hS := HG.out.1.side
          have hF := HG.out.2
          have c1 := hS.t
          go_wp2_with fail
          refine (side_dnames hS 1).mono ?_
          rintro e w6 ⟨v, rfl, hv, h6, k6⟩
          have hT6 := HG.out.1.view h6 k6
          obtain ⟨hF6, hd6⟩ := hF.find
          obtain ⟨g1, hg1⟩ : ∃ g1, findT g' 1 = g1 := ⟨_, rfl⟩
          rw [hg1] at hT6 hF6 hd6 h6
          rw [← hd6] at hv
          obtain ⟨l, hl⟩ : ∃ l, namesE (dirE f0 g1 1) = l := ⟨_, rfl⟩
          have hlen := hT6.len hF6 3
          rw [hl] at hv hlen
          obtain ⟨bo, b, off2, c2, rfl, hbo⟩ := src_len hv
          have hb := hF6.bare
          rw [hl] at hb
          have hl8 : l.length ≤ 8 := by rw [← hl]; exact Nat.le_trans (names_len _) (dirE_le _ _ _)
          clear hg1 hd6 HG hS hF c1 k6
          have c1 := h6.t
          go_wp2_with fail
          refine (side_dbare h6 1).mono ?_
          rintro e w7 ⟨rfl, h7, k7⟩
          rw [hb]
          have hT7 := hT6.view h7 k7
          obtain ⟨hF7, hd7⟩ := hF6.find
          have hlen7 := hT7.len hF7 3
          have hv7 := srcK hv k7 (fun k o v hc e => h6.v.map.offK hc e)
          rw [hd7, hl] at hlen7
          have hl7 : namesE (dirE f0 (findT g1 1) 1) = l := by rw [hd7]; exact hl
          obtain ⟨g2, hg2⟩ : ∃ g2, findT g1 1 = g2 := ⟨_, rfl⟩
          rw [hg2] at hT7 hF7 hl7
          have H7 : Hid (TabIn w T p B q N O g2 o' w7 ∧ TabF g2 o' ∧ namesE (dirE f0 g2 1) = l ∧ Nm.SrcS (.slice bo l.length c2) l w7) := ⟨hT7, hF7, hl7, hv7⟩
          obtain ⟨L, hL⟩ : ∃ L, l.length = L := ⟨_, rfl⟩
          rw [hL] at hlen hlen7 H7 hbo hl8 ⊢
          have hz : ∃ z : Bool, decide (L = 0) = z ∧ (((L : Int) == 0) = z) := ⟨_, rfl, by by_cases h : L = 0 <;> simp [h]⟩
          obtain ⟨z, hz1, hz2⟩ := hz
          rw [hz1]
          clear hz1 hg2 hT7 hF7 hl7 hv7 hv hT6 hF6 h6 h7 k7 c1 hb hd7 hl hlen
          go_wp2_with fail
          clear hlen7 hz2
          go_loopw [129] (fun x wr => ∃ (i : Nat) (g : VwF), x = .int .i64 i ∧ i ≤ L ∧ Hid (TabIn w T p B q N O g o' wr ∧ TabF g o' ∧ namesE (dirE f0 g 1) = l ∧ Nm.SrcS (.slice bo L c2) l wr)) (fun x _ => L - (intOf x).toNat)
          case atStart => exact ⟨0, _, rfl, by omega, H7.out⟩
          case round =>
            clear H7
            obtain ⟨i, g3, rfl, hi, HJ⟩ := hrel
            by_cases hlt : i < L
            · have t3 : (i : Int) < L := by omega
              obtain rfl := hbo (by omega)
              have hT := HJ.out.1
              have hF := HJ.out.2.1
              have hv := HJ.out.2.2.2
              have c0 := hv.cell (j := i) (by omega)
              have hm : Nm.sd l i ∈ l := List.mem_of_getElem? (Nm.sd_get (by omega))
              have hk := (hF.e.keys (Nm.sd l i)).1 (by rw [HJ.out.2.2.1]; exact hm)
              obtain ⟨x, hx⟩ : ∃ x, Nm.sd l i = x := ⟨_, rfl⟩
              rw [hx] at c0 hk
              have hr := hF.e.right x hk
              obtain ⟨m, hm2⟩ := Option.isSome_iff_exists.1 hk
              have hfo : foundV (foundE (dirE f0 g3 1) (bl (bs x))) = .tuple #[.int .i64 m, .bool true] := by rw [bl_bs, hF.e.found hr, hm2]; rfl
              have hxs : (bs x).size ≤ 1000000 := by rw [bs_size]; have := (right_parts hr).1; omega
              have c1 := hT.side.t
              clear hm hx hr hk
              go_wp2_with fail
              refine (side_dfind hT.side 1 (bs x) hxs).mono ?_
              rintro e w8 ⟨rfl, h8, k8⟩
              rw [hfo]
              have hT8 := hT.view h8 k8
              have hlk := hT8.look (bs x)
              rw [bl_bs, hm2] at hlk
              obtain ⟨hF8, hd8⟩ := hF.find
              have HN : Hid (TabIn w T p B q N O (findT g3 1) o' w8 ∧ TabF (findT g3 1) o' ∧ namesE (dirE f0 (findT g3 1) 1) = l ∧ Nm.SrcS (.slice (some ⟨b, off2, none⟩) L c2) l w8) :=
                ⟨hT8, hF8, by rw [hd8]; exact HJ.out.2.2.1, srcK hv k8 (fun k o v hc e => hT.side.v.map.offK hc e)⟩
              clear hT8 hF8 hd8 h8 k8 hT hF hv c0 c1 hfo hm2 HJ hxs
              simp only [Option.getD_some, Option.isSome_some] at hlk
              go_wp2
              go_roundw
              case rel => exact ⟨i + 1, _, by go_num, by omega, HN.out⟩
              case measure => simp [intOf]; omega
            · obtain rfl : i = L := by omega
              have HN : Hid (TabIn w T p B q N O g3 o' wr ∧ TabF g3 o') := ⟨HJ.out.1, HJ.out.2.1⟩
              clear HJ
              go_wp2
              go_roundw
              case rel => exact ⟨r + 1, _, _, by go_num, by omega, by omega, HN.out⟩
              case measure => simp [intOf]; omega
      | false =>
        as_aux_lemma =>
        clear hz
        have h1 := HH.out.1.side
        have hz0 := HH.out.2.size 1
        have c1 := h1.t
        clear HH
        go_wp2_with fail
        refine (side_size h1 1).mono ?_
        rintro e w6 ⟨rfl, h6, -⟩
        have H3 : Hid (Kept (fun _ => False) w w6) := h6.kept
        generalize (findV f0 g 1).s.size = Z at *
        have z1 : (Z : Int) ≤ 128 := by omega
        clear h1 h6 c1
        go_wp2_with fail
        refine (runs_w w6).mono ?_
        rintro e w7 ⟨rfl, hk7⟩
        have HK : Hid (Kept (fun _ => False) w w7) := H3.out.thru hk7
        clear H3 hk7
        go_wp2
        go_ret
        exact ⟨rfl, HK.out⟩
end Go.Proofs.Ytkpcillgoeidaaa
