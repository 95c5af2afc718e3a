/- As many inodes are had as there are, each once; one goes when its last link and its last holder do, and is had again; no conditions. -/
import Derived.Test.YtghgnapogomnlaaCountsF
import Derived.Deep.CutBlock
namespace Go.Proofs.Ytghgnapogomnlaa
open Go.RowKit
set_option maxRecDepth 100000
set_option linter.unusedSimpArgs false

def MetIn (M k : Nat) (w : World) : Prop := ∃ cs : Array Value, w.heap[M]? = some (.cells cs 60 (0, 0)) ∧ ∀ j, k ≤ j → j < 16 → cs[j]? = some (.bool false)
theorem MetIn.still {M k : Nat} {w w' : World} (h : MetIn M k w) (hk : Kept (fun _ => False) w w') : MetIn M k w' := by
  obtain ⟨cs, h1, h2⟩ := h
  exact ⟨cs, hk.at h1 (fun x => x), h2⟩

def metZ : Array Value := #[.bool false, .bool false, .bool false, .bool false, .bool false, .bool false, .bool false, .bool false, .bool false, .bool false, .bool false, .bool false, .bool false, .bool false, .bool false, .bool false]
theorem metZ_at {j : Nat} (h : j < 16) : metZ[j]? = some (.bool false) := by
  rcases j with _ | _ | _ | _ | _ | _ | _ | _ | _ | _ | _ | _ | _ | _ | _ | _ | j <;> first | rfl | omega

set_option maxHeartbeats 4000000 in
theorem counts_law (ao : Option Addr) (len cap lb off : Nat) (L : Nat → Int) (hao : 0 < len → ao = some ⟨lb, off, none⟩) (links holders : Int) (w : World) (hc : ∀ i, i < len → w.cell? ⟨lb, off + i, none⟩ = some (.int .i64 (L i))) :
    Calls Try.prog 6 #[.slice ao len cap, .int .i64 links, .int .i64 holders] w fun e w' => e = .returned (.bool true) ∧ Kept (fun _ => False) w w' := by
  have HC : Hid (∀ i, i < len → w.cell? ⟨lb, off + i, none⟩ = some (.int .i64 (L i))) := hc
  clear hc
  go_enter Try.func6, Try.ntmps6
  go_wp2_with fail
  refine (side_new w).mono ?_
  rintro e w1 ⟨T, p, B, q, N, rfl, h1, hT⟩
  obtain ⟨M, hM⟩ : ∃ M : Nat, w1.heap.size = M := ⟨_, rfl⟩
  have H0 : Hid (SideIn w T p B q N (aT 0) (w1.alloc (.cells metZ 60)) ∧ MetIn M 1 (w1.alloc (.cells metZ 60))) := ⟨h1.still ((Kept.refl _ _).alloc _), metZ, alloc_at' _ hM, fun j h1 h2 => metZ_at h2⟩
  have hMw : w.heap.size ≤ M := by have := h1.kept.size; omega
  have hTM : T < M := by have := World.block_lt_of_cell? w1 _ h1.t; simp only at this; omega
  have hqM : q < M := by have := lt_at h1.v.cell; omega
  have hpM : p < M := by have := lt_at h1.s.cell; omega
  unfold metZ at H0
  go_upto_block 0 with fail
  obtain ⟨w2, h2⟩ : ∃ w2, w1.alloc (.cells metZ 60) = w2 := ⟨_, rfl⟩
  unfold metZ at h2
  rw [h2] at H0 ⊢
  clear h1 h2 hM
  go_cut [9, 10, 11] from 22 to 47 (fun _ _ _ wx => Hid (SideIn w T p B q N (aT 15) wx))
  case first =>
    as_aux_lemma =>
    go_wp2_with fail
    go_loopw [9, 10, 11] (fun v _ _ wr => ∃ k : Nat, v = .int .i64 ((k : Int) + 1) ∧ k ≤ 15 ∧ Hid (SideIn w T p B q N (aT k) wr ∧ MetIn M (k + 1) wr)) (fun v _ _ _ => 16 - (intOf v).toNat)
    case atStart => exact ⟨0, rfl, by omega, H0.out⟩
    case round =>
      obtain ⟨k, rfl, hk, HH⟩ := hrel
      clear H0
      by_cases hlt : k < 15
      · have t1 : (k : Int) + 1 < 16 := by omega
        have c1 := HH.out.1.t
        go_wp2_with fail
        refine (side_alloc HH.out.1 2).mono ?_
        rintro e w3 ⟨rfl, h3, hk3⟩
        replace h3 : SideIn w T p B q N (aT (k + 1)) w3 := h3
        rw [show allocV (allocA f0 (aT k)) = .tuple #[.int .i64 ((k : Int) + 1), .bool true] from by rw [aT_at (k := k) (by omega)]; unfold allocV; rw [if_pos (by omega), decide_eq_true (by omega)]]
        obtain ⟨cs, hcs, hfree⟩ := HH.out.2
        have hMN : ¬ M = N := HH.out.1.v.map.off hcs
        have hcs3 := hk3.at hcs hMN
        have cM : w3.cell? ⟨M, k + 1, none⟩ = some (.bool false) := cell_at hcs3 (hfree (k + 1) (by omega) (by omega))
        have fM := free_at hcs3 (k + 1)
        have km : Kept (fun n => n = M) w3 (w3.setCell ⟨M, k + 1, none⟩ (.bool true)) := by refine Kept.setCell (Kept.refl _ _) ?_ _; intro _; rfl
        have HN : Hid (SideIn w T p B q N (aT (k + 1)) (w3.setCell ⟨M, k + 1, none⟩ (.bool true)) ∧ MetIn M (k + 1 + 1) (w3.setCell ⟨M, k + 1, none⟩ (.bool true))) := by
          refine ⟨h3.putX hcs3 km (by omega) (by omega) (by omega) hMw, _, set_at hcs3 _ _, fun j h1 h2 => ?_⟩
          rw [Array.getElem?_setIfInBounds_ne (by omega)]
          exact hfree j (by omega) h2
        clear h3 c1 HH hk3 hcs hcs3 hfree km
        go_wp2
        exact ⟨⟨k + 1, by go_num, by omega, HN.out⟩, by simp [intOf]; omega⟩
      · obtain rfl : k = 15 := by omega
        go_wp2
        go_meet
        case rel => exact HH.out.1
  case rest =>
    as_aux_lemma =>
    have HH : Hid (SideIn w T p B q N (aT 15) wc) := hcut
    clear hcut H0 hMw hTM hqM hpM
    have c1 := HH.out.t
    go_wp2_with fail
    refine (side_alloc HH.out 1).mono ?_
    rintro e w3 ⟨rfl, h3, -⟩
    rw [alloc_full _ (by rw [aT_full]; decide)] at h3
    rw [show allocV (allocA f0 (aT 15)) = .tuple #[.int .i64 0, .bool false] from by rw [aT_full]; rfl]
    clear c1 HH
    go_upto_if 59 with fail
    go_cut [14] from 57 to 63 (fun v wx => ∃ i : Int, v = .int .i64 i ∧ 1 ≤ i ∧ i < 16 ∧ wx = w3)
    case first =>
      by_cases hl : 0 < len
      · have t1 : (0 : Int) < (len : Int) := by omega
        have h0 := hao hl
        subst h0
        have d0 := h3.kept.cell (HC.out 0 hl) (fun x => x)
        rw [Nat.add_zero] at d0
        have W1 := within_any (L 0) 1 15 (by omega) (by omega) (by omega) w3
        obtain ⟨z, hz, hz1, hz2⟩ : ∃ z, (1 : Int) + L 0 % (15 - 1 + 1) = z ∧ 1 ≤ z ∧ z < 16 := ⟨_, rfl, by omega, by omega⟩
        rw [hz] at W1
        clear hz
        have HS : Hid (SideIn w T p B q N (vgetT (aT 15) (9, 0)) w3) := h3
        clear h3
        go_wp2_with fail
        refine W1.mono ?_
        rintro e w4 ⟨rfl, hw4⟩
        have hw4' := hw4.symm
        subst hw4'
        go_wp2
        go_meet
        case rel => exact ⟨z, rfl, hz1, hz2, rfl⟩
      · have t1 : ¬ (0 : Int) < (len : Int) := by omega
        go_wp2
        go_meet
        case rel => exact ⟨1, rfl, by omega, by omega, rfl⟩
    case rest =>
      obtain ⟨i, rfl, hi1, hi2, hwc⟩ := hcut
      subst hwc
      obtain ⟨a, ha, ha1, ha2⟩ : ∃ a, (0 : Int) + links % (5 - 0 + 1) = a ∧ 0 ≤ a ∧ a ≤ 5 := ⟨_, rfl, by omega, by omega⟩
      obtain ⟨b, hb, hb1, hb2⟩ : ∃ b, (1 : Int) + holders % (5 - 1 + 1) = b ∧ 1 ≤ b ∧ b ≤ 5 := ⟨_, rfl, by omega, by omega⟩
      have W1 := within_any links 0 5 (by omega) (by omega) (by omega) wc
      have W2 := within_any holders 1 5 (by omega) (by omega) (by omega) wc
      rw [ha] at W1
      rw [hb] at W2
      clear ha hb
      have HS : Hid (SideIn w T p B q N (vgetT (aT 15) (9, 0)) wc) := h3
      clear h3
      go_wp2_with fail
      refine W1.mono ?_
      rintro e w4 ⟨rfl, hw4⟩
      have hw4' := hw4.symm
      subst hw4'
      clear W1 hw4
      go_wp2_with fail
      refine W2.mono ?_
      rintro e w5 ⟨rfl, hw5⟩
      have hw5' := hw5.symm
      subst hw5'
      clear W2 hw5
      have c1 := HS.out.t
      have hn := had_new hi1 hi2
      go_wp2_with fail
      refine (side_change HS.out i a b).mono ?_
      rintro e w6 ⟨rfl, h6, -⟩
      rw [hn.is]
      have hn6 := hn.change (c := a) (d := b) (by omega) (by omega) (by omega)
      rw [Int.zero_add, Int.zero_add] at hn6
      clear c1 HS hn
      have c1 := h6.t
      go_wp2_with fail
      refine (side_links h6 i).mono ?_
      rintro e w7 ⟨rfl, h7, -⟩
      rw [hn6.1, show (cV a b).n1 = a from rfl]
      have H0 : Hid (SideIn w T p B q N (findT (changeT f0 (vgetT (aT 15) (9, 0)) i a b) i) w7 ∧ HadF i (findT (changeT f0 (vgetT (aT 15) (9, 0)) i a b) i) a b) := ⟨h7, hn6.find i⟩
      clear c1 h6 h7 hn6
      go_upto_block 2 with fail
      go_cut [15, 16] from 87 to 115 (fun _ _ wx => ∃ g, Hid (SideIn w T p B q N g wx ∧ GoneF i g))
      case first =>
        as_aux_lemma =>
        go_wp2_with fail
        go_loopw [15, 16] (fun v k wr => ∃ (a b : Int) (g : VwF), v = .int .i64 a ∧ k = .int .i64 b ∧ 0 ≤ a ∧ a ≤ 5 ∧ 0 ≤ b ∧ b ≤ 5 ∧ (0 < b ∨ a = 0) ∧ Hid (SideIn w T p B q N g wr ∧ (0 < a + b → HadF i g a b) ∧ (a + b = 0 → GoneF i g))) (fun v k _ => (intOf v + intOf k).toNat)
        case atStart => exact ⟨a, b, _, rfl, rfl, ha1, ha2, by omega, hb2, .inl (by omega), And.intro H0.out.1 (And.intro (fun _ => H0.out.2) (fun h => by omega))⟩
        case round =>
          clear H0 ha1 ha2 hb1 hb2
          obtain ⟨x, y, g, rfl, rfl, ha1, ha2, hb1, hb2, hab, HH⟩ := hrel
          by_cases hlt : 0 < x + y
          · have c1 := HH.out.1.t
            have hh := HH.out.2.1 hlt
            go_wp2_with fail
            refine (side_is HH.out.1 i).mono ?_
            rintro e w3 ⟨rfl, h3, -⟩
            rw [hh.is]
            have hh3 := hh.find i
            clear c1 HH hh
            by_cases ha : 0 < x
            · have hb : 0 < y := by omega
              have c1 := h3.t
              go_wp2_with fail
              refine (side_change h3 i (-1) 0).mono ?_
              rintro e w4 ⟨rfl, h4, -⟩
              have hh4 := hh3.change (c := -1) (d := 0) (by omega) (by omega) (by omega)
              rw [Int.add_zero] at hh4
              have HN : Hid (SideIn w T p B q N (changeT f0 (findT g i) i (-1) 0) w4 ∧ (0 < (x - 1) + y → HadF i (changeT f0 (findT g i) i (-1) 0) (x - 1) y) ∧ ((x - 1) + y = 0 → GoneF i (changeT f0 (findT g i) i (-1) 0))) :=
                ⟨h4, fun _ => hh4, fun h => by omega⟩
              clear h3 h4 hh3 hh4 c1
              go_wp2
              refine ⟨⟨x - 1, y, _, rfl, rfl, by omega, by omega, by omega, by omega, .inl hb, HN.out⟩, by simp [intOf]; omega⟩
            · have ha0 : x = 0 := by omega
              subst ha0
              have c1 := h3.t
              go_wp2_with fail
              refine (side_change h3 i 0 (-1)).mono ?_
              rintro e w4 ⟨rfl, h4, -⟩
              have HN : Hid (SideIn w T p B q N (changeT f0 (findT g i) i 0 (-1)) w4 ∧ (0 < (0 : Int) + (y - 1) → HadF i (changeT f0 (findT g i) i 0 (-1)) 0 (y - 1)) ∧ ((0 : Int) + (y - 1) = 0 → GoneF i (changeT f0 (findT g i) i 0 (-1)))) := by
                refine ⟨h4, fun h => ?_, fun h => ?_⟩
                · have := hh3.change (c := 0) (d := -1) (by omega) (by omega) (by omega)
                  rw [Int.add_zero] at this
                  exact this
                · exact hh3.gone (c := 0) (d := -1) (by omega) (by omega) (by omega)
              clear h3 h4 hh3 c1
              go_wp2
              refine ⟨⟨0, y - 1, _, rfl, rfl, by omega, by omega, by omega, by omega, .inr rfl, HN.out⟩, by simp [intOf]; omega⟩
          · have hg := HH.out.2.2 (by omega)
            have HG : Hid (SideIn w T p B q N g wr ∧ GoneF i g) := ⟨HH.out.1, hg⟩
            clear HH hg
            go_wp2
            go_meet
            case rel => exact ⟨g, HG.out⟩
      case rest =>
        as_aux_lemma =>
        obtain ⟨g, HG⟩ := hcut
        clear H0 ha1 ha2 hb1 hb2
        have c1 := HG.out.1.t
        go_wp2_with fail
        refine (side_alloc HG.out.1 1).mono ?_
        rintro e w3 ⟨rfl, h3, -⟩
        rw [show allocV (allocA f0 g) = .tuple #[.int .i64 i, .bool true] from by rw [HG.out.2.free hi1 hi2]; unfold allocV; rw [if_pos hi2, decide_eq_true hi2]]
        have HF : Hid (findV f0 (allocT f0 g 1) i = numV 1) := HG.out.2.had hi1 hi2
        clear c1 HG
        generalize allocT f0 g 1 = g1 at *
        have c1 := h3.t
        go_wp2_with fail
        refine (side_change h3 0 1 1).mono ?_
        rintro e w4 ⟨rfl, h4, -⟩
        rw [change_no _ _ (is_out (by decide))] at h4
        rw [is_out (by decide)]
        clear c1 h3
        have c1 := h4.t
        go_wp2_with fail
        refine (side_change h4 16 1 1).mono ?_
        rintro e w5 ⟨rfl, h5, -⟩
        rw [change_no _ _ (is_out (by decide))] at h5
        rw [is_out (by decide)]
        clear c1 h4
        have c1 := h5.t
        go_wp2_with fail
        refine (side_type h5 i).mono ?_
        rintro e w6 ⟨rfl, h6, -⟩
        rw [find_find, find_find, HF.out, show (numV 1).n0 = 1 from rfl]
        clear c1 h5
        have c1 := h6.t
        go_wp2_with fail
        refine (side_size h6 i).mono ?_
        rintro e w7 ⟨rfl, h7, -⟩
        rw [find_find, find_find, find_find, HF.out, show (((numV 1).s.size : Nat) : Int) = 0 from rfl]
        have HS : Hid (Kept (fun _ => False) w w7) := h7.kept
        clear c1 h6 h7 HF
        go_wp2_with fail
        refine (runs_w w7).mono ?_
        rintro e w8 ⟨rfl, hk8⟩
        have HK : Hid (Kept (fun _ => False) w w8) := HS.out.thru hk8
        clear HS hk8
        go_wp2
        go_ret
        exact ⟨rfl, HK.out⟩
end Go.Proofs.Ytghgnapogomnlaa
