/- The statement on pushes and pops, however deep; no conditions. -/
import Derived.Test.YtckbimgoepcoaaaRuns
import Derived.Test.YtckbimgoepcoaaaWithin
namespace Go.Proofs.Ytckbimgoepcoaaa
open Go.RowKit

/-- New harts, but for one of them. -/
def st (k a : Nat) (x : Bool) (n : Nat) : List H := (fresh k).set a ⟨x, n, 0⟩

theorem st_length (k a : Nat) (x : Bool) (n : Nat) : (st k a x n).length = k := by simp [st, fresh_length]
theorem st_hd {k a : Nat} (ha : a < k) (x : Bool) (n : Nat) : hd (st k a x n) a = ⟨x, n, 0⟩ := by
  rw [st, hd_set _ _ _ _ (by rw [fresh_length]; exact ha), if_pos rfl]
theorem st_off {k a i : Nat} (ha : a < k) (hi : i < k) (hne : a ≠ i) (x : Bool) (n : Nat) : hd (st k a x n) i = ⟨true, 0, 0⟩ := by
  rw [st, hd_set _ _ _ _ (by rw [fresh_length]; exact ha), if_neg hne, hd_fresh k i hi]
theorem st_set {k a : Nat} (x : Bool) (n m : Nat) : (st k a x n).set a ⟨x, m, 0⟩ = st k a x m := by simp [st]

/-- What the statement has made: the hart's number, the harts. -/
structure NestIn (B a : Nat) (hs : List H) (w0 w : World) : Prop where
  own : Own (B + 2) (B + 1) (B + 3) hs w0 w
  abox : w.heap[B]? = some (.cells #[.int .i64 a] 3 (0, 0))

theorem NestIn.still {B a : Nat} {hs : List H} {w0 w w' : World} (h : NestIn B a hs w0 w) (hk : Kept (fun _ => False) w w') : NestIn B a hs w0 w' := ⟨h.own.still hk, hk.at h.abox (by simp)⟩
theorem NestIn.moved {B a : Nat} {hs hs' : List H} {w0 w w' : World} (h : NestIn B a hs w0 w) (hh : HartsIn (B + 2) (B + 1) hs' w') (hk : Kept (fun k => k = B + 1) w w') : NestIn B a hs' w0 w' := ⟨h.own.moved hh hk, hk.at h.abox (by omega)⟩
theorem NestIn.acell {B a : Nat} {hs : List H} {w0 w : World} (h : NestIn B a hs w0 w) : w.cell? ⟨B, 0, none⟩ = some (.int .i64 a) := cell_at h.abox (i := 0) rfl

theorem nests_c1 (q r : Addr) (p b a : Nat) (hs : List H) (ha : a < hs.length) (hn : (hd hs a).nest ≠ 0) (w : World) (hq : w.cell? q = some (.pointer (some ⟨p, 0, none⟩))) (hr : w.cell? r = some (.int .i64 a)) (h : HartsIn p b hs w) :
    Calls Try.prog 22 #[.pointer (some q), .pointer (some r)] w fun e w' => (Out.halts 9 a).ends e ∧ w' = w := by
  have A := set_no p b hs a true ha w h hn
  go_enter Try.func22, Try.ntmps22
  go_wp2_with fail
  refine A.mono ?_
  rintro e w1 ⟨he, rfl⟩
  rcases ends_cases he with ⟨h, rfl⟩ | ⟨hst, v, older, hv, rfl, hold⟩
  · cases h
  · exact ⟨rfl, ends_stop hv hold, rfl⟩

set_option maxRecDepth 100000 in
set_option maxHeartbeats 1600000 in
theorem nests_w (n h deep : Int) (x : Bool) (w : World) :
    Calls Try.prog 5 #[.int .i64 n, .int .i64 h, .int .i64 deep, .bool x] w fun e w' => e = .returned (.bool true) ∧ Kept (fun _ => False) w w' := by
  have hmf := makeF
  obtain ⟨B, hB⟩ : ∃ B : Nat, w.heap.size = B := ⟨_, rfl⟩
  obtain ⟨k, hk, hk2, hk8⟩ : ∃ k : Nat, 2 + n % (8 - 2 + 1) = k ∧ 2 ≤ k ∧ k ≤ 8 := ⟨(2 + n % 7).toNat, by omega, by omega, by omega⟩
  obtain ⟨a, ha, hak⟩ : ∃ a : Nat, 0 + h % ((k : Int) - 1 - 0 + 1) = a ∧ a < k := ⟨(h % k).toNat, by rw [show (k : Int) - 1 - 0 + 1 = k by omega]; have := Int.emod_nonneg h (show (k : Int) ≠ 0 by omega); omega, by have := Int.emod_nonneg h (show (k : Int) ≠ 0 by omega); have := Int.emod_lt_of_pos h (show (0 : Int) < k by omega); omega⟩
  obtain ⟨d, hd1, hd2, hd3⟩ : ∃ d : Nat, 1 + deep % (30 - 1 + 1) = d ∧ 1 ≤ d ∧ d ≤ 30 := ⟨(1 + deep % 30).toNat, by omega, by omega, by omega⟩
  go_enter Try.func5, Try.ntmps5
  go_wp2_with fail
  refine (within_any n 2 8 (by decide) (by decide) (by decide) _).mono ?_
  rintro e w1 ⟨rfl, rfl⟩
  simp only [hk]
  clear hk
  go_wp2_with fail
  refine (within_any h 0 (k - 1) (by decide) (by omega) (by omega) _).mono ?_
  rintro e w2 ⟨rfl, rfl⟩
  simp only [ha]
  clear ha
  go_wp2_with fail
  refine (within_any deep 1 30 (by decide) (by decide) (by decide) _).mono ?_
  rintro e w3 ⟨rfl, rfl⟩
  simp only [hd1]
  clear hd1
  have N := new_ok k (by omega) hk8 (w3.alloc (.cells #[.int .i64 a] 3))
  rw [show (w3.alloc (.cells #[.int .i64 a] 3)).heap.size = B + 1 by simp [hB]] at N
  go_wp2_with fail
  refine N.mono ?_
  rintro e w4 ⟨rfl, hM, hk4, hs4⟩
  clear N
  have hs4' : w4.heap.size = B + 3 := hs4
  have N0 : NestIn B a (fresh k) w3 (w4.alloc (.cells #[.pointer (some ⟨B + 2, 0, none⟩)] 22)) :=
    ⟨⟨hM.kept ((Kept.refl (fun _ => False) _).alloc _) (by simp) (by simp), alloc_at' _ hs4', (Kept.trans ((Kept.refl _ _).alloc _) hk4 (fun _ _ e => e)).alloc _, by omega, by omega⟩, alloc_off (hk4.at (alloc_at' _ hB) (by simp))⟩
  have c0 := N0.own.cell
  have a0 := N0.acell
  have ac := cell_at (hk4.at (alloc_at' (w := w3) (.cells #[.int .i64 a] 3) hB) (by simp)) (i := 0) rfl
  have S := set_ok _ _ _ a x (by rw [fresh_length]; exact hak) _ N0.own.harts (by rw [hd_fresh k a hak])
  have HN0 : Hid _ := N0
  clear hM hk4 N0 hs4
  go_wp2_with fail
  refine S.mono ?_
  rintro e w5 ⟨rfl, h5, k5⟩
  have N5 := HN0.out.moved h5 k5
  rw [hd_fresh k a hak] at N5
  have HN5 : Hid (NestIn B a (st k a x 0) w3 w5) := N5
  clear HN0 h5 k5 N5 S c0 a0 ac hs4'
  go_wp2_with fail
  go_loopw [13] (fun i wr => ∃ j : Nat, j ≤ d ∧ i = .int .i64 ((j : Int) + 1) ∧ NestIn B a (st k a x j) w3 wr)
    (fun i _ => d + 1 - (intOf i).toNat)
  case atStart => exact ⟨0, by omega, rfl, HN5.out⟩
  case round =>
    obtain ⟨j, hj, rfl, hN⟩ := hrel
    clear HN5
    by_cases hjd : j < d
    · have t1 : (j : Int) + 1 ≤ (d : Int) := by omega
      have c0 := hN.own.cell
      have a0 := hN.acell
      have P := push_ok _ _ _ a (by rw [st_length]; exact hak) _ hN.own.harts (by rw [st_hd hak]; show j ≤ 1000000; omega)
      have HN : Hid _ := hN
      clear hN
      go_wp2_with fail
      refine P.mono ?_
      rintro e w6 ⟨rfl, h6, k6⟩
      rw [st_hd hak, st_set] at h6
      have N6 := HN.out.moved h6 k6
      have c6 := N6.own.cell
      have a6 := N6.acell
      have Q := on_ok _ _ _ a (by rw [st_length]; exact hak) _ N6.own.harts
      have R := nest_ok _ _ _ a (by rw [st_length]; exact hak) _ N6.own.harts
      rw [st_hd hak, show (H.mk x (j + 1) 0).isOn = false by simp [H.isOn]] at Q
      rw [st_hd hak] at R
      have HN6 : Hid _ := N6
      clear HN h6 k6 N6 P c0 a0
      go_wp2_with fail
      refine Q.mono ?_
      rintro e w7 ⟨rfl, rfl⟩
      go_wp2_with fail
      refine R.mono ?_
      rintro e w8 ⟨rfl, rfl⟩
      go_wp2
      go_roundw
      case rel => exact ⟨j + 1, by omega, by go_num, HN6.out⟩
      case measure => simp [intOf]; omega
    · have hjj : j = d := by omega
      subst hjj
      have K0 := inGuard_kept wr
      have G := guard_stops 22 #[.pointer (some ⟨B + 3, 0, none⟩), .pointer (some ⟨B, 0, none⟩)] (fun _ _ => by kernel_rfl) (.halts 9 a) wr
        (nests_c1 _ _ _ _ a _ (by rw [st_length]; exact hak) (by rw [st_hd hak]; show j ≠ 0; omega) _ (K0.cell hN.own.cell (by simp)) (K0.cell hN.acell (by simp)) (hN.still K0).own.harts)
      have HN : Hid _ := hN
      clear hN hjd K0
      go_wp2_with fail
      refine G.mono ?_
      rintro e w6 ⟨rfl, k6⟩
      simp only [Out.told, Out.stopped, stopV]
      have N6 := HN.out.still (k6.alloc (.cells #[.int .i64 9, .int .i64 a] 27))
      have c6 := N6.own.cell
      have a6 := N6.acell
      have b6 := (HN.out.still k6).acell
      have b7 := (HN.out.still k6).own.cell
      have l6 := lt_at (HN.out.still k6).abox
      have l7 := lt_at (HN.out.still k6).own.box
      have Q := on_ok _ _ _ a (by rw [st_length]; exact hak) _ N6.own.harts
      rw [st_hd hak, show (H.mk x j 0).isOn = false by simp [H.isOn]; omega] at Q
      have HN6 : Hid _ := N6
      clear HN k6 N6 G
      go_wp2_with fail
      refine Q.mono ?_
      rintro e w7 ⟨rfl, hw7⟩
      have HN7 : Hid _ := hw7.symm ▸ HN6.out
      clear HN6 Q c6 a6 b6 b7 l6 l7 hw7
      go_wp2_with fail
      go_loopw [16] (fun i wr => ∃ m : Nat, m ≤ j ∧ i = .int .i64 ((m : Int) - 1) ∧ NestIn B a (st k a x m) w3 wr)
        (fun i _ => (intOf i + 1).toNat)
      case atStart => exact ⟨j, by omega, by go_num, HN7.out⟩
      case round =>
        obtain ⟨m, hm, rfl, hN⟩ := hrel
        clear HN7
        rcases m with _ | m
        · have HN : Hid _ := hN
          clear hN
          simp only [show ((0 : Nat) : Int) - 1 = -1 from rfl]
          go_wp2_with fail
          go_loopw [17] (fun i wr => ∃ m : Nat, m ≤ k ∧ i = .int .i64 m ∧ NestIn B a (st k a x 0) w3 wr)
            (fun i _ => k - (intOf i).toNat)
          case atStart => exact ⟨0, by omega, rfl, HN.out⟩
          case round =>
            obtain ⟨m, hm, rfl, hN⟩ := hrel
            clear HN
            by_cases hmk : m < k
            · have t1 : (m : Int) < (k : Int) := by omega
              have c0 := hN.own.cell
              have a0 := hN.acell
              by_cases hma : m = a
              · subst hma
                have HN : Hid _ := hN
                clear hN
                go_wp2
                go_roundw
                case rel => exact ⟨m + 1, by omega, by go_num, HN.out⟩
                case measure => simp [intOf]; omega
              · have t2 : ((m : Int) != (a : Int)) = true := by simp; omega
                have t3 : ¬ (m : Int) = (a : Int) := by omega
                have Q := on_ok _ _ _ m (by rw [st_length]; exact hmk) _ hN.own.harts
                have R := nest_ok _ _ _ m (by rw [st_length]; exact hmk) _ hN.own.harts
                rw [st_off hak hmk (by omega), show (H.mk true 0 0).isOn = true from rfl] at Q
                rw [st_off hak hmk (by omega)] at R
                have HN : Hid _ := hN
                clear hN
                go_wp2_with fail
                refine Q.mono ?_
                rintro e w8 ⟨rfl, rfl⟩
                go_wp2_with fail
                refine R.mono ?_
                rintro e w9 ⟨rfl, rfl⟩
                go_wp2
                go_roundw
                case rel => exact ⟨m + 1, by omega, by go_num, HN.out⟩
                case measure => simp [intOf]; omega
            · have hmm : m = k := by omega
              subst hmm
              have HN : Hid _ := hN
              clear hN
              go_wp2_with fail
              refine (runs_w _).mono ?_
              rintro e w8 ⟨rfl, k8⟩
              have HK8 : Hid _ := k8
              clear k8
              go_wp2
              go_ret
              exact ⟨rfl, HN.out.own.kept.trans HK8.out (fun _ _ e => e)⟩
        · have t0 : ((m + 1 : Nat) : Int) - 1 = (m : Int) := by omega
          simp only [t0]
          have t1 : decide ((0 : Int) ≤ (m : Int)) = true := by simp
          have c0 := hN.own.cell
          have a0 := hN.acell
          have P := pop_ok _ _ _ a (by rw [st_length]; exact hak) _ hN.own.harts m (by rw [st_hd hak]) (by omega)
          have HN : Hid _ := hN
          clear hN
          go_wp2_with fail
          refine P.mono ?_
          rintro e w8 ⟨rfl, h8, k8⟩
          rw [st_hd hak, st_set] at h8
          have N8 := HN.out.moved h8 k8
          have c8 := N8.own.cell
          have a8 := N8.acell
          have Q := on_ok _ _ _ a (by rw [st_length]; exact hak) _ N8.own.harts
          have R := nest_ok _ _ _ a (by rw [st_length]; exact hak) _ N8.own.harts
          rw [st_hd hak] at Q R
          have HN8 : Hid _ := N8
          clear HN h8 k8 N8 P c0 a0
          rcases (show m = 0 ∨ 0 < m by omega) with rfl | hm0
          · rw [show (H.mk x 0 0).isOn = x by simp [H.isOn]] at Q
            go_wp2_with fail
            refine R.mono ?_
            rintro e w9 ⟨rfl, rfl⟩
            go_wp2_with fail
            refine Q.mono ?_
            rintro e w10 ⟨rfl, rfl⟩
            go_wp2
            go_roundw
            case rel => exact ⟨0, by omega, by go_num, HN8.out⟩
            case measure => simp [intOf]
          · rw [show (H.mk x m 0).isOn = false by simp [H.isOn]; omega] at Q
            have t2 : ((m : Int) == 0) = false := by simp; omega
            have t3 : ¬ (m : Int) = 0 := by omega
            go_wp2_with fail
            refine R.mono ?_
            rintro e w9 ⟨rfl, rfl⟩
            go_wp2_with fail
            refine Q.mono ?_
            rintro e w10 ⟨rfl, rfl⟩
            go_wp2
            go_roundw
            case rel => exact ⟨m, by omega, by go_num, HN8.out⟩
            case measure => simp [intOf]
end Go.Proofs.Ytckbimgoepcoaaa
