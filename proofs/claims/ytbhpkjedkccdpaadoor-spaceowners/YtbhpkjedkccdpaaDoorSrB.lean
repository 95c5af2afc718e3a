
/- Pages of the reference: Grow; no conditions but lengths. -/
import Derived.Test.YtbhpkjedkccdpaaDoorSrA
import Derived.Deep.CutBlock
namespace Go.Proofs.YtbhpkjedkccdpaaDoor
open Go.RowKit
set_option maxRecDepth 100000
set_option linter.unusedSimpArgs false

def zero16 : Array Value := #[.int .u8 0, .int .u8 0, .int .u8 0, .int .u8 0, .int .u8 0, .int .u8 0, .int .u8 0, .int .u8 0, .int .u8 0, .int .u8 0, .int .u8 0, .int .u8 0, .int .u8 0, .int .u8 0, .int .u8 0, .int .u8 0]
theorem make16 (W : World) : (Instr.makeSlice 59 (.int .i64 16) (.int .i64 16)).run Tryd.prog W = .ok (.slice (some ⟨W.heap.size, 0, none⟩) 16 16) (W.alloc (.cells zero16 5)) := by
  obtain ⟨i0, hi, hz0, hz1, hz2⟩ := info_parts info_byte
  have h := run_make (P := Tryd.prog) W 59 5 i0 (.int .u8 0) Tryd.underlying59 hi hz0 .i64 .i64 16 16 (by omega) (by omega) (by rw [hz2]; omega) (by omega)
  have e : madeCells (Value.int .u8 0).cells ((16 : Int).toNat * 1) = zero16 := by kernel_rfl
  rw [hz1, e] at h
  simpa using h
theorem conv16 (W : World) : (convert 59 9 (.slice (some ⟨W.heap.size, 0, none⟩) 16 16)).run Tryd.prog (W.alloc (.cells zero16 5)) = .ok (.string (bs (List.replicate 16 0))) (W.alloc (.cells zero16 5)) := by
  have h : RowB W.heap.size (List.replicate 16 0) (W.alloc (.cells zero16 5)) := ⟨_, _, alloc_at _ _, rfl⟩
  exact row_text h 16
theorem conv16d (W : World) : (convert 59 9 (.slice (some ⟨W.heap.size, 0, none⟩) 16 16)).run Tryd.prog (W.alloc (.cells zero16 5)).drew = .ok (.string (bs (List.replicate 16 0))) (W.alloc (.cells zero16 5)).drew := by
  have h : RowB W.heap.size (List.replicate 16 0) (W.alloc (.cells zero16 5)).drew := ⟨_, _, alloc_at _ _, rfl⟩
  exact row_text h 16
def GroIn (X Y : Nat) (x m y : V) (w3 : World) (L : List Nat) (w : World) : Prop :=
  Kept (fun b => b = X ∨ b = X + 1 ∨ b = Y) w3 w ∧ w.heap[X]? = some (.cells (vc (withS x (bs (bl x.s ++ bytesN L)))).toArray 51 (0, 0)) ∧
  w.heap[X + 1]? = some (.cells (vc (withS m (bs (bl m.s ++ List.replicate (16 * L.length) 0)))).toArray 51 (0, 0)) ∧ w.heap[Y]? = some (.cells (vc (withN y (clrAll y.n0 L))).toArray 51 (0, 0))
theorem gro_first {X Y : Nat} {x m y : V} {w : World} (h1 : w.heap[X]? = some (.cells (vc x).toArray 51 (0, 0))) (h2 : w.heap[X + 1]? = some (.cells (vc m).toArray 51 (0, 0))) (h3 : w.heap[Y]? = some (.cells (vc y).toArray 51 (0, 0))) :
    GroIn X Y x m y w [] w := by
  have e1 : withS x (bs (bl x.s ++ bytesN [])) = x := by unfold bytesN; rw [List.map_nil, List.append_nil, bs_bl]; rfl
  have e2 : withS m (bs (bl m.s ++ List.replicate (16 * ([] : List Nat).length) 0)) = m := by rw [show 16 * ([] : List Nat).length = 0 from rfl, List.replicate_zero, List.append_nil, bs_bl]; rfl
  exact ⟨Kept.refl _ _, by rw [e1]; exact h1, by rw [e2]; exact h2, h3⟩
theorem picks_stay {n : Int} {N k m : Nat} (h : N ≤ cntN (hbN n) k) (hm : k ≤ m) : picks n m N = picks n k N ∧ N ≤ cntN (hbN n) m := by
  induction m with
  | zero => obtain rfl : k = 0 := by omega
            exact ⟨rfl, h⟩
  | succ m ih =>
    by_cases c : k = m + 1
    · subst c; exact ⟨rfl, h⟩
    · obtain ⟨h1, h2⟩ := ih (by omega)
      refine ⟨by rw [picks_full h2, h1], ?_⟩
      show N ≤ cntN (hbN n) m + _
      omega

set_option maxHeartbeats 4000000 in
theorem rgrow_w {q R W p B : Nat} {f : StF} {g : VwF} {w : World} (h : RBoth q R W p B f g w) (i n : Int) (hsx : (prV f g i).s.size ≤ 1000000) (hsm : (meV f g i).s.size ≤ 1000000) : Calls Tryd.prog 16 #[.pointer (some ⟨q, 0, none⟩), .int .i64 i, .int .i64 n] w
    fun e w' => e = .returned (.bool (grOk f g i n)) ∧ RBoth q R W p B f (grT f g i n) w' ∧ Kept (RW R W) w w' := by
  obtain ⟨lq, lR, lW, lp, lB⟩ := h.lt
  cases hR : isR f g i with
  | false =>
    have t0 : (stA f g i == 0) = true := by have : (stA f g i != 0) = false := hR; simpa using this
    have HS : spIn f g i n = false := by unfold spIn; rw [hR]; rfl
    have HM : grMay f g i n = false := by unfold grMay; rw [HS]; rfl
    have HO : grOk f g i n = false := by unfold grOk; rw [HM]; rfl
    have HA : Hid (grOk f g i n = false ∧ grT f g i n = stT f g i) := ⟨HO, by unfold grT; rw [HO, HM, HS]; rfl⟩
    clear hR HS HM HO hsx hsm
    go_enter Tryd.func16, Tryd.ntmps16
    go_wp2_with fail
    refine (rstate_w h i).mono ?_
    rintro e w1 ⟨rfl, hv1, hk1⟩
    have HZ : Hid (RBoth q R W p B f (stT f g i) w1 ∧ Kept (RW R W) w w1) := ⟨hv1, hk1⟩
    clear h hv1 hk1
    go_wp2_with fail
    exact bodyPost_ret (v := .bool false) (by simp [results, Tryd.results16, go_sem]) rfl ⟨by rw [HA.out.1], by rw [HA.out.2]; exact HZ.out.1, HZ.out.2⟩
  | true =>
    have t0 : (stA f g i == 0) = false := by have : (stA f g i != 0) = true := hR; simpa using this
    by_cases hn : 0 ≤ n
    · have HS : Hid (spIn f g i n = true) := by show _ = _; unfold spIn; rw [hR, decide_eq_true hn]; rfl
      go_enter Tryd.func16, Tryd.ntmps16
      go_wp2_with fail
      refine (rstate_w h i).mono ?_
      rintro e w1 ⟨rfl, hv1, hk1⟩
      clear h hR
      go_wp2_with fail
      refine (rpkey_w i _).mono ?_
      rintro e w2 ⟨rfl, hk2⟩
      have K2 := hk1.trans hk2 (fun _ _ e => e.elim)
      have hv2 := hv1.still hk2
      go_wp2_with fail
      refine (rg_w hv2 4 i).mono ?_
      rintro e w3 ⟨rfl, hv3, hk3⟩
      have K3 : Kept (RW R W) w w3 := K2.trans hk3 (fun _ _ e => e)
      rw [show vgetF f (stT f g i) (4, i) = prV f g i from get_stT _ _]
      clear hv1 hk1 hk2 hv2 K2 hk3
      go_wp2_with fail
      refine (rmkey_w i _).mono ?_
      rintro e w4 ⟨rfl, hk4⟩
      have K4 := K3.trans hk4 (fun _ _ e => e.elim)
      have hv4 := hv3.still hk4
      go_wp2_with fail
      refine (rg_w hv4 12 i).mono ?_
      rintro e w5 ⟨rfl, hv5, hk5⟩
      have K5 : Kept (RW R W) w w5 := K4.trans hk5 (fun _ _ e => e)
      rw [show vgetF f (vgetT (stT f g i) (4, i)) (12, i) = meV f g i from by rw [get_get, get_stT]]
      clear hv3 hk4 hv4 K3 K4 hk5
      have hv5 : RBoth q R W p B f (twoT f g i) w5 := hv5
      have HM : Hid (grMay f g i n = decide (n ≤ 6 - ((prV f g i).s.size : Int))) := by show _ = _; unfold grMay; rw [HS.out]; rfl
      have HT : Hid (grT f g i n = if grOk f g i n = true then put3 (threeT f g i) i (grP (poV f g) n.toNat) (grX (prV f g i) (poV f g) n.toNat) (grM (meV f g i) n.toNat)
        else if grMay f g i n = true then threeT f g i else twoT f g i) := by show _ = _; unfold grT; rw [HS.out]; rfl
      generalize prV f g i = x at *
      generalize meV f g i = m at *
      obtain ⟨X, hX⟩ : ∃ X : Nat, w5.heap.size = X := ⟨_, rfl⟩
      have lX : w.heap.size ≤ X := by have := K5.size; omega
      obtain ⟨w6, h6⟩ : ∃ w6, (w5.alloc (.cells (vc zeroV).toArray 51)).alloc (.cells (vc zeroV).toArray 51) = w6 := ⟨_, rfl⟩
      have bX : w6.heap[X]? = some (.cells (vc zeroV).toArray 51 (0, 0)) := by subst h6; exact alloc_off (alloc_at' _ hX)
      have bM : w6.heap[X + 1]? = some (.cells (vc zeroV).toArray 51 (0, 0)) := by subst h6; exact alloc_at' _ (by simp [hX])
      have k6 : Kept (fun _ => False) w5 w6 := by subst h6; exact ((Kept.refl _ _).alloc _).alloc _
      rw [zero_cells] at h6
      have k7 := kept_setRow w6 X (vc x).toArray
      have bX7 := setRow_at bX (vc x).toArray
      have bM7 := k7.at bM (by show ¬ X + 1 = X; omega)
      obtain ⟨w7, h7⟩ : ∃ w7, w6.setRow X (vc x).toArray = w7 := ⟨_, rfl⟩
      rw [h7] at k7 bX7 bM7
      have k8 := kept_setRow w7 (X + 1) (vc m).toArray
      have bM8 := setRow_at bM7 (vc m).toArray
      have bX8 := k8.at bX7 (by show ¬ X = X + 1; omega)
      obtain ⟨w8, h8⟩ : ∃ w8, w7.setRow (X + 1) (vc m).toArray = w8 := ⟨_, rfl⟩
      rw [h8] at k8 bM8 bX8
      have K8 : Kept (RW R W) w w8 := ((K5.trans k6 (fun _ _ e => e.elim)).trans k7 (fun k h1 h2 => by omega)).trans k8 (fun k h1 h2 => by omega)
      have hv8 : RBoth q R W p B f (twoT f g i) w8 := ((hv5.still k6).kept k7 (by omega) (by omega) (by omega) (by omega) (by omega)).kept k8 (by omega) (by omega) (by omega) (by omega) (by omega)
      go_upto_region 4 with (first | (refine list_wstore rfl wide_V _ _ rfl X rfl (vc x) rfl bX rfl rfl (vc_one _) ?_; rw [h7]) | (refine list_wstore rfl wide_V _ _ rfl (X + 1) rfl (vc m) rfl bM7 rfl rfl (vc_one _) ?_; rw [h8]))
      have cx : w8.cell? ⟨X, 16, none⟩ = some (.string x.s) := cell_at bX8 rfl
      clear h6 h7 h8 bX bM k6 k7 k8 bX7 bM7 K5 hX hv5
      by_cases hroom : n ≤ 6 - (x.s.size : Int)
      · skip
        as_aux_lemma =>
        have HM2 : Hid (grMay f g i n = true) := by show _ = _; rw [HM.out]; exact decide_eq_true hroom
        clear HM
        obtain ⟨N, rfl⟩ : ∃ N : Nat, n = N := ⟨n.toNat, by omega⟩
        have hN6 : N ≤ 6 := by omega
        have lXw : X + 1 < w8.heap.size := lt_at bM8
        obtain ⟨K0, hK0⟩ : ∃ K0 : Nat, w8.heap.size = K0 := ⟨_, rfl⟩
        go_wp2_with fail
        obtain ⟨w9, h9⟩ : ∃ w9, w8.alloc (.cells #[.int .i64 2, .int .i64 0] 54) = w9 := ⟨_, rfl⟩
        have k9 : Kept (fun _ => False) w8 w9 := by subst h9; exact (Kept.refl _ _).alloc _
        have hKy : w9.heap[K0]? = some (.cells #[.int .i64 2, .int .i64 0] 54 (0, 0)) := by subst h9; exact alloc_at' _ hK0
        have hv9 := hv8.still k9
        have K9 := K8.trans k9 (fun _ _ e => e.elim)
        have bX9 := k9.at bX8 (fun e => e)
        have bM9 := k9.at bM8 (fun e => e)
        clear hv8 K8 bX8 bM8 k9
        try rw [h9]
        clear h9
        refine (rg_w hv9 2 0).mono ?_
        rintro e w10 ⟨rfl, hv10, hk10⟩
        have K10 : Kept (RW R W) w w10 := K9.trans hk10 (fun _ _ e => e)
        rw [show vgetF f (twoT f g i) (2, 0) = poV f g from get_two _ _]
        have hv10 : RBoth q R W p B f (threeT f g i) w10 := hv10
        have bX10 := hk10.at bX9 (by unfold RW; omega)
        have bM10 := hk10.at bM9 (by unfold RW; omega)
        have bK10 := hk10.at hKy (by unfold RW; omega)
        clear hv9 K9 bX9 bM9 hKy hk10 cx
        have HO : Hid (grOk f g i (N : Int) = decide ((N : Int) ≤ (cntB (poV f g).n0 : Int))) := by show _ = _; unfold grOk; rw [HM2.out]; rfl
        generalize poV f g = y at *
        obtain ⟨Y, hY⟩ : ∃ Y : Nat, w10.heap.size = Y := ⟨_, rfl⟩
        obtain ⟨w3, h3⟩ : ∃ w3, w10.alloc (.cells (vc y).toArray 51) = w3 := ⟨_, rfl⟩
        have k3 : Kept (fun _ => False) w10 w3 := by subst h3; exact (Kept.refl _ _).alloc _
        have bY3 : w3.heap[Y]? = some (.cells (vc y).toArray 51 (0, 0)) := by subst h3; exact alloc_at' _ hY
        have bX3 := k3.at bX10 (fun e => e)
        have bM3 := k3.at bM10 (fun e => e)
        have bK3 := k3.at bK10 (fun e => e)
        have hv3 := hv10.still k3
        have K3 : Kept (RW R W) w w3 := K10.trans k3 (fun _ _ e => e.elim)
        have lKY : K0 < Y := by have := lt_at bK10; omega
        clear k3 bX10 bM10 bK10 hv10 K10
        go_wp2_with (first | (refine list_wnew rfl wide_V _ _ rfl Y rfl (vc y) rfl _ rfl hY rfl (vc_one _) ?_))
        try rw [h3]
        clear h3 hY
        have H0 : Hid (GroIn X Y x m y w3 [] w3) := gro_first bX3 bM3 bY3
        have HK : Hid (RBoth q R W p B f (threeT f g i) w3 ∧ Kept (RW R W) w w3 ∧ w3.heap[K0]? = some (.cells #[.int .i64 2, .int .i64 0] 54 (0, 0))) := ⟨hv3, K3, bK3⟩
        clear bX3 bM3 bY3 hv3 K3 bK3
        go_loopw [2, 11] (fun u v wr => ∃ k : Nat, v = .int .i64 k ∧ k ≤ 64 ∧ u = .int .i64 ((N : Int) - ((picks y.n0 k N).length : Int)) ∧ Hid (GroIn X Y x m y w3 (picks y.n0 k N) wr)) (fun _ v _ => 64 - (intOf v).toNat)
        case atStart => exact ⟨0, rfl, by omega, by rw [picks_zero]; simp, by rw [picks_zero]; exact H0.out⟩
        case round =>
          clear H0
          obtain ⟨k, rfl, hk, rfl, HG⟩ := hrel
          obtain ⟨l, hl⟩ : ∃ l : Nat, (picks y.n0 k N).length = l := ⟨_, rfl⟩
          have hlN : l ≤ N := by have := picks_len y.n0 k N; omega
          rw [hl]
          obtain ⟨z, hz⟩ : ∃ z : Bool, decide (k < 64 ∧ l < N) = z := ⟨_, rfl⟩
          go_upto_region 9 with fail
          go_cut [43] from 38 to 43 (fun v wx => v = .bool z ∧ wx = wr)
          case first =>
            as_aux_lemma =>
            by_cases p1 : k < 64
            · have q1 : (k : Int) < 64 := by omega
              by_cases p2 : l < N
              · have q2 : (0 : Int) < (N : Int) - (l : Int) := by omega
                have hz' : z = true := by rw [← hz]; simp [p1, p2]
                subst hz'
                clear hz hl
                go_wp2
                go_meet
                case rel => exact ⟨rfl, rfl⟩
              · have q2 : ¬ (0 : Int) < (N : Int) - (l : Int) := by omega
                have hz' : z = false := by rw [← hz]; simp [p1, p2]
                subst hz'
                clear hz hl
                go_wp2
                go_meet
                case rel => exact ⟨rfl, rfl⟩
            · have q1 : ¬ (k : Int) < 64 := by omega
              have hz' : z = false := by rw [← hz]; simp [p1]
              subst hz'
              clear hz hl
              go_wp2
              go_meet
              case rel => exact ⟨rfl, rfl⟩
          case rest =>
            obtain ⟨rfl, hwc⟩ := hcut
            subst hwc
            cases z with
            | true =>
              as_aux_lemma =>
              simp only [decide_eq_true_eq] at hz
              obtain ⟨z1, z2⟩ := hz
              generalize wc = wo at *
              have hlc : l = cntN (hbN y.n0) k ∧ cntN (hbN y.n0) k < N := by have := picks_len y.n0 k N; omega
              have hnk : ¬ k ∈ picks y.n0 k N := fun e => by have := (picks_mem e).1; omega
              obtain ⟨a, ha⟩ : ∃ a, clrAll y.n0 (picks y.n0 k N) = a := ⟨_, rfl⟩
              have hbk : hbN a k = hbN y.n0 k := by rw [← ha, hb_clrAll y.n0 z1, decide_eq_false hnk]; simp
              have HG2 : GroIn X Y x m y w3 (picks y.n0 k N) wo := HG.out
              obtain ⟨g1, g2, g3, g4⟩ := HG2
              rw [ha] at g4
              rw [hl] at g3
              have c0 : wo.cell? ⟨Y, 0, none⟩ = some (.int .i64 a) := cell_at g4 rfl
              have k64 : (k : Int) ≤ 64 := by omega
              have k63 : (k : Int) < 64 := by omega
              have k00 : (0 : Int) ≤ (k : Int) := by omega
              have hb := and_one (a / 2 ^ k)
              cases hbit : hbN y.n0 k with
              | false =>
                rw [hbit] at hbk
                have h1 : a / 2 ^ k % 2 = 0 := by
                  have : ¬ a / 2 ^ k % 2 = 1 := by simpa [hbN, hasB] using hbk
                  omega
                rw [h1] at hb
                have HN : Hid (picks y.n0 (k + 1) N = picks y.n0 k N) := picks_no hbit
                clear h1 hbk hbit g1 g2 g3 g4 ha hnk hlc
                go_wp2
                exact ⟨⟨k + 1, by go_num, by omega, by rw [HN.out, hl], by rw [HN.out]; exact HG.out⟩, by simp [intOf]; omega⟩
              | true =>
                rw [hbit] at hbk
                have h1 : a / 2 ^ k % 2 = 1 := by simpa [hbN, hasB] using hbk
                rw [h1] at hb
                have HN : Hid (picks y.n0 (k + 1) N = picks y.n0 k N ++ [k]) := picks_yes hbit hlc.2
                have f0 := free_at g4 0
                have hc : bits .andNot .i64 a (wrap64 (2 ^ k)) = clrN a (k : Int) := by have := clr_w64 a (k : Int); unfold pw at this; rw [Int.toNat_natCast] at this; exact this
                have HA : Hid (clrAll y.n0 (picks y.n0 k N) = a) := ha
                clear h1 hbk hbit ha hnk hlc HG
                go_upto_region 12 with fail
                go_cut [10] from 53 to 60 (fun v wx => v = .pointer (some ⟨Y, 0, none⟩) ∧ Hid (Kept (fun b => b = Y) wo wx ∧ wx.heap[Y]? = some (.cells (vc (withN y (clrN a (k : Int)))).toArray 51 (0, 0))))
                case first =>
                  clear g1 g2 g3
                  go_region
                  all_goals
                    go_wp2
                    go_meet
                    case rel => exact And.intro rfl (And.intro (by refine Kept.drew (Kept.setCell (Kept.refl _ _) ?_ _); intro _; rfl) (by show (wo.setCell _ _).heap[Y]? = _; rw [set_at g4]; rfl))
                case rest =>
                  obtain ⟨rfl, HC⟩ := hcut
                  have m2 := HC.out.1.at g2 (by show ¬ X = Y; omega)
                  have m3 := HC.out.1.at g3 (by show ¬ X + 1 = Y; omega)
                  have HP : Hid (Kept (fun b => b = X ∨ b = X + 1 ∨ b = Y) w3 wc ∧ wc.heap[Y]? = some (.cells (vc (withN y (clrN a (k : Int)))).toArray 51 (0, 0))) := ⟨g1.trans HC.out.1 (fun b h1 h2 => .inr (.inr h2)), HC.out.2⟩
                  have lY : Y < wc.heap.size := lt_at HC.out.2
                  clear g1 g2 g3 g4 c0 f0 hb hc HC
                  obtain ⟨sx, hsx2⟩ : ∃ sx, bs (bl x.s ++ bytesN (picks y.n0 k N)) = sx := ⟨_, rfl⟩
                  obtain ⟨sm, hsm2⟩ : ∃ sm, bs (bl m.s ++ List.replicate (16 * l) 0) = sm := ⟨_, rfl⟩
                  rw [hsx2] at m2
                  rw [hsm2] at m3
                  have lsx : sx.size ≤ 1000006 := by rw [← hsx2, bs_size, List.length_append, bl_len]; unfold bytesN; rw [List.length_map, hl]; omega
                  have lsm : sm.size ≤ 1000200 := by rw [← hsm2, bs_size, List.length_append, bl_len, List.length_replicate]; omega
                  have HSX : Hid (bs (bl x.s ++ bytesN (picks y.n0 k N)) = sx) := hsx2
                  have HSM : Hid (bs (bl m.s ++ List.replicate (16 * l) 0) = sm) := hsm2
                  clear hsx2 hsm2
                  obtain ⟨G, hG⟩ : ∃ G : Nat, wc.heap.size = G := ⟨_, rfl⟩
                  have hkb : (UInt8.ofNat k).toNat = k := by rw [UInt8.toNat_ofNat']; omega
                  have hrow : RowB G [UInt8.ofNat k] (wc.alloc (.cells #[.int .u8 k] 5)) := ⟨_, _, alloc_at' _ hG, by unfold Lib.byteCells; simp [hkb]⟩
                  have hcv := row_text hrow 1
                  simp only [List.length_cons, List.length_nil] at hcv
                  obtain ⟨sk, hsk⟩ : ∃ sk, bs [UInt8.ofNat k] = sk := ⟨_, rfl⟩
                  rw [hsk] at hcv
                  have lsk : sk.size = 1 := by rw [← hsk, bs_size]; rfl
                  have HSK : Hid (bs [UInt8.ofNat k] = sk) := hsk
                  have k256 : (k : Int) % 256 = (k : Int) := by omega
                  have kd : Kept (fun _ => False) wc (wc.alloc (.cells #[.int .u8 k] 5)) := (Kept.refl _ _).alloc _
                  have md2 := kd.at m2 (fun e => e)
                  have cX : wc.cell? ⟨X, 16, none⟩ = some (.string sx) := cell_at m2 rfl
                  have cX2 : (wc.alloc (.cells #[.int .u8 k] 5)).cell? ⟨X, 16, none⟩ = some (.string sx) := cell_at md2 rfl
                  have fX := free_at md2 16
                  have me2 : ((wc.alloc (.cells #[.int .u8 k] 5)).setCell ⟨X, 16, none⟩ (.string (sx ++ sk))).heap[X]? = some (.cells (vc (withS x (sx ++ sk))).toArray 51 (0, 0)) := by rw [set_at md2]; rfl
                  have ke : Kept (fun b => b = X) wc ((wc.alloc (.cells #[.int .u8 k] 5)).setCell ⟨X, 16, none⟩ (.string (sx ++ sk))) := by refine Kept.setCell (kd.mono (fun _ _ e => e.elim)) ?_ _; intro _; rfl
                  clear hrow hsk hkb md2 kd
                  go_upto_region 14 with fail
                  have H4 : Hid (((wc.alloc (.cells #[.int .u8 k] 5)).setCell ⟨X, 16, none⟩ (.string (sx ++ sk))).heap[X]? = some (.cells (vc (withS x (sx ++ sk))).toArray 51 (0, 0)) ∧ Kept (fun b => b = X) wc ((wc.alloc (.cells #[.int .u8 k] 5)).setCell ⟨X, 16, none⟩ (.string (sx ++ sk)))) := ⟨me2, ke⟩
                  have me3 := ke.at m3 (by show ¬ X + 1 = X; omega)
                  clear me2 ke cX cX2 fX hcv m2 m3
                  generalize (wc.alloc (.cells #[.int .u8 k] 5)).setCell ⟨X, 16, none⟩ (.string (sx ++ sk)) = we at *
                  have cM := cell_at me3 (i := 16) (v := .string sm) rfl
                  have fM := free_at me3 16
                  obtain ⟨sz, hsz⟩ : ∃ sz, bs (List.replicate 16 0) = sz := ⟨_, rfl⟩
                  have lsz : sz.size = 16 := by rw [← hsz, bs_size]; rfl
                  have HSZ : Hid (bs (List.replicate 16 0) = sz) := hsz
                  go_cut [8] from 69 to 74 (fun v wx => v = .pointer (some ⟨X + 1, 0, none⟩) ∧ Hid (Kept (fun b => b = X + 1) we wx ∧ wx.heap[X + 1]? = some (.cells (vc (withS m (sm ++ sz))).toArray 51 (0, 0))))
                  case first =>
                    have hmk := make16
                    have hcv := conv16
                    have hcd := conv16d
                    rw [hsz] at hcv hcd
                    have hle : sm.size + 16 ≤ 9223372036854775807 := by omega
                    have hle2 : ¬ 9223372036854775807 < sm.size + 16 := by omega
                    have kz : Kept (fun _ => False) we (we.alloc (.cells zero16 5)) := (Kept.refl _ _).alloc _
                    have mz := kz.at me3 (fun e => e)
                    have cz := cell_at mz (i := 16) (v := .string sm) rfl
                    have czd : (we.alloc (.cells zero16 5)).drew.cell? ⟨X + 1, 16, none⟩ = some (.string sm) := cz
                    have fz := free_at mz 16
                    have fzd : (we.alloc (.cells zero16 5)).drew.frozen? ⟨X + 1, 16, none⟩ = false := fz
                    have HME : Hid (we.heap[X + 1]? = some (.cells (vc (withS m sm)).toArray 51 (0, 0)) ∧ (we.alloc (.cells zero16 5)).heap[X + 1]? = some (.cells (vc (withS m sm)).toArray 51 (0, 0)) ∧ Kept (fun _ => False) we (we.alloc (.cells zero16 5))) := ⟨me3, mz, kz⟩
                    clear hsz HSZ H4 HSK HSX HSM hG lY HP me3 mz kz
                    go_region
                    all_goals
                      go_wp2
                      go_meet
                      case rel => exact And.intro rfl (And.intro (by refine Kept.drew (Kept.setCell (HME.out.2.2.mono (fun _ _ e => e.elim)) ?_ _); intro _; rfl) (by show ((we.alloc _).setCell _ _).heap[X + 1]? = _; rw [set_at HME.out.2.1]; rfl))
                  case rest =>
                    obtain ⟨rfl, HC2⟩ := hcut
                    have HN2 : Hid (GroIn X Y x m y w3 (picks y.n0 (k + 1) N) wc) := by
                      show GroIn _ _ _ _ _ _ _ _
                      rw [HN.out]
                      have q1 := HP.out.1.trans H4.out.2 (fun b h1 h2 => .inl h2)
                      have q2 := q1.trans HC2.out.1 (fun b h1 h2 => .inr (.inl h2))
                      have sX : sx ++ sk = bs (bl x.s ++ bytesN (picks y.n0 k N ++ [k])) := by
                        apply bl_inj
                        rw [bl_app, bl_bs, ← HSX.out, ← HSK.out, bl_bs, bl_bs]
                        unfold bytesN
                        rw [List.map_append, List.append_assoc]; rfl
                      have sM : sm ++ sz = bs (bl m.s ++ List.replicate (16 * (picks y.n0 k N ++ [k]).length) 0) := by
                        apply bl_inj
                        rw [bl_app, bl_bs, ← HSM.out, ← HSZ.out, bl_bs, bl_bs, List.append_assoc, List.replicate_append_replicate, List.length_append, hl]
                        congr 2
                      refine ⟨q2, ?_, ?_, ?_⟩
                      · rw [← sX]; exact HC2.out.1.at H4.out.1 (by show ¬ X = X + 1; omega)
                      · rw [← sM]; exact HC2.out.2
                      · have e1 := HC2.out.1.at (H4.out.2.at HP.out.2 (by show ¬ Y = X; omega)) (by show ¬ Y = X + 1; omega)
                        rw [show clrAll y.n0 (picks y.n0 k N ++ [k]) = clrN a (k : Int) from by unfold clrAll; rw [List.foldl_append]; show clrN (clrAll y.n0 (picks y.n0 k N)) (k : Int) = _; rw [HA.out]]
                        exact e1
                    have hl2 : (picks y.n0 (k + 1) N).length = l + 1 := by rw [HN.out, List.length_append, hl]; rfl
                    clear HC2 H4 HP HSX HSM HSK HSZ HA HN cM fM me3 hsz
                    go_wp2
                    exact ⟨⟨k + 1, by go_num, by omega, by rw [hl2]; congr 1; omega, HN2⟩, by simp [intOf]; omega⟩
            | false =>
              as_aux_lemma =>
              have hz' : ¬ (k < 64 ∧ l < N) := by simpa using hz
              clear hz
              have hpl := picks_len y.n0 k N
              have lK0 : X + 1 < K0 := by omega
              by_cases hlt : l < N
              · have hk64 : k = 64 := by omega
                have HO2 : Hid (grOk f g i (N : Int) = false ∧ grT f g i (N : Int) = threeT f g i) := by
                  have e2 : grOk f g i (N : Int) = false := by
                    rw [HO.out]
                    refine decide_eq_false ?_
                    unfold cntB
                    subst hk64
                    omega
                  exact ⟨e2, by rw [HT.out, e2, HM2.out]; rfl⟩
                have q2 : (0 : Int) < (N : Int) - (l : Int) := by omega
                have HZ : Hid (RBoth q R W p B f (threeT f g i) wc ∧ Kept (RW R W) w wc) :=
                  ⟨HK.out.1.kept HG.out.1 (by omega) (by omega) (by omega) (by omega) (by omega), HK.out.2.1.trans HG.out.1 (fun b h1 h2 => by omega)⟩
                clear HG HK HO HT HM2 hpl hz' hl
                go_wp2_with fail
                exact bodyPost_ret (v := .bool false) (by simp [results, Tryd.results16, go_sem]) rfl ⟨by rw [HO2.out.1], by rw [HO2.out.2]; exact HZ.out.1, HZ.out.2⟩
              · have hlN2 : l = N := by omega
                have hst := picks_stay (n := y.n0) (N := N) (k := k) (m := 64) (by omega) hk
                have HO2 : Hid (grOk f g i (N : Int) = true ∧ grT f g i (N : Int) = put3 (threeT f g i) i (grP y N) (grX x y N) (grM m N)) := by
                  have e2 : grOk f g i (N : Int) = true := by
                    rw [HO.out]
                    refine decide_eq_true ?_
                    unfold cntB
                    omega
                  refine ⟨e2, ?_⟩
                  rw [HT.out, e2, if_pos rfl, Int.toNat_natCast]
                have q2 : ¬ (0 : Int) < (N : Int) - (l : Int) := by omega
                obtain ⟨g1, g2, g3, g4⟩ := HG.out
                rw [hl, hlN2] at g3
                rw [← hst.1] at g2 g4
                have hv : RBoth q R W p B f (threeT f g i) wc := HK.out.1.kept g1 (by omega) (by omega) (by omega) (by omega) (by omega)
                have hKw : Kept (RW R W) w wc := HK.out.2.1.trans g1 (fun b h1 h2 => by omega)
                have hKy := g1.at HK.out.2.2 (by omega)
                change wc.heap[X]? = some (.cells (vc (grX x y N)).toArray 51 (0, 0)) at g2
                change wc.heap[X + 1]? = some (.cells (vc (grM m N)).toArray 51 (0, 0)) at g3
                change wc.heap[Y]? = some (.cells (vc (grP y N)).toArray 51 (0, 0)) at g4
                clear HG HK HO HT HM2 hpl hz' hl hst g1
                generalize grP y N = y2 at *
                generalize grX x y N = x2 at *
                generalize grM m N = m2 at *
                have k0 := cell_at hKy (i := 0) rfl
                have k1 := cell_at hKy (i := 1) rfl
                have hr := whole_range g4
                go_wp2_with (first | (refine list_wload rfl wide_V _ rfl Y 0 rfl (vc y2) hr rfl ?_))
                refine (rp_w hv 2 0 y2).mono ?_
                rintro e w11 ⟨rfl, hv11, hk11⟩
                have hK11 : Kept (RW R W) w w11 := hKw.trans hk11 (fun _ _ e => e)
                have g2' := hk11.at g2 (by unfold RW; omega)
                have g3' := hk11.at g3 (by unfold RW; omega)
                clear hv hKw hk11 hKy k0 k1 hr g2 g3 g4
                have KV : ∀ w', Kept (RW R W) w11 w' → w'.rangeAt X 0 (vc x2) := fun w' hk' => range_kept (whole_range g2') hk' (by unfold RW; omega)
                have KS : ∀ w', Kept (RW R W) w11 w' → True := fun _ _ => trivial
                go_upto_region 19 with fail
                refine wp_region_held_drew (S := fun w' => Kept (RW R W) w11 w') (by kernel_rfl) ((Kept.refl _ _).drew) (fun hHeld => ?_)
                refine h_take 0 (some 83) (Op.move (Operand.tmp 0)) 27 ?v1 rfl rfl (by kernel_rfl) (by kernel_rfl) (by kernel_rfl) (fun _ _ _ h => h) ?hy1 hHeld ?_
                case hy1 => (intro _ _ _ w hSw; have hcs := KS _ hSw; go_simp; try with_reducible rfl)
                simp only [Act.put, List.setIfInBounds_toArray, List.set_cons_zero, List.set_cons_succ]
                refine h_take 1 (some 84) (Op.move (Operand.tmp 1)) 3 ?v2 rfl rfl (by kernel_rfl) (by kernel_rfl) (by kernel_rfl) (fun _ _ _ h => h) ?hy2 hHeld ?_
                case hy2 => (intro _ _ _ w hSw; have hcs := KS _ hSw; go_simp; try with_reducible rfl)
                simp only [Act.put, List.setIfInBounds_toArray, List.set_cons_zero, List.set_cons_succ]
                refine h_take 3 (some 86) (Op.load 51 (Operand.tmp 7)) 51 (vv x2) rfl rfl (by kernel_rfl) (by kernel_rfl) (by kernel_rfl) (fun _ _ _ h => h) (fun _ _ _ w hSw => exec_load rfl (load_wide wide_V (KV w hSw) rfl)) hHeld ?_
                simp only [Act.put, List.setIfInBounds_toArray, List.set_cons_zero, List.set_cons_succ]
                refine h_step 2 (some 85) (Op.call { callee := Callee.value (Operand.func 44), args := #[Operand.tmp 84], argTypes := #[3] }) 54 rfl rfl (by kernel_rfl) (fun _ _ _ K hK => ?_)
                go_simp
                refine (rpkey_w i _).mono ?_
                rintro e w12 ⟨rfl, hk12⟩
                replace hk12 : Kept (fun _ => False) w11 w12 := (Kept.refl _ w11).drew.thru hk12
                go_wp2_with fail
                refine hK.out _ _ (hk12.mono (fun _ _ e => e.elim)) (fun hHeld => ?_)
                clear hK K
                try simp only [Act.put, List.setIfInBounds_toArray, List.set_cons_zero, List.set_cons_succ]
                refine h_step 4 (some 87) (Op.call { callee := Callee.value (Operand.func 46), args := #[Operand.tmp 83, Operand.tmp 85, Operand.tmp 86], argTypes := #[27, 54, 51] }) 0 rfl rfl (by kernel_rfl) (fun _ _ _ K hK => ?_)
                go_simp
                refine (rp_w (hv11.still hk12) 4 i x2).mono ?_
                rintro e w13 ⟨rfl, hv13, hk13⟩
                replace hk13 : Kept (RW R W) w11 w13 := (hk12.mono (fun _ _ e => e.elim)).trans hk13 (fun _ _ e => e)
                go_wp2_with fail
                refine hK.out _ _ (hk13) (fun hHeld => ?_)
                clear hK K
                try simp only [Act.put, List.setIfInBounds_toArray, List.set_cons_zero, List.set_cons_succ]
                refine wpAnyH_done (by kernel_rfl) ?_ _
                have hK13 : Kept (RW R W) w w13 := hK11.trans hk13 (fun _ _ e => e)
                have g3 := hk13.at g3' (by unfold RW; omega)
                clear hHeld KS KV hk12 hv11 hK11 hk13 g2' g3'
                have KV : ∀ w', Kept (RW R W) w13 w' → w'.rangeAt (X + 1) 0 (vc m2) := fun w' hk' => range_kept (whole_range g3) hk' (by unfold RW; omega)
                have KS : ∀ w', Kept (RW R W) w13 w' → True := fun _ _ => trivial
                go_wp2_with fail
                refine wp_region_held_drew (S := fun w' => Kept (RW R W) w13 w') (by kernel_rfl) ((Kept.refl _ _).drew) (fun hHeld => ?_)
                refine h_take 0 (some 88) (Op.move (Operand.tmp 0)) 27 ?v3 rfl rfl (by kernel_rfl) (by kernel_rfl) (by kernel_rfl) (fun _ _ _ h => h) ?hy3 hHeld ?_
                case hy3 => (intro _ _ _ w hSw; have hcs := KS _ hSw; go_simp; try with_reducible rfl)
                simp only [Act.put, List.setIfInBounds_toArray, List.set_cons_zero, List.set_cons_succ]
                refine h_take 1 (some 89) (Op.move (Operand.tmp 1)) 3 ?v4 rfl rfl (by kernel_rfl) (by kernel_rfl) (by kernel_rfl) (fun _ _ _ h => h) ?hy4 hHeld ?_
                case hy4 => (intro _ _ _ w hSw; have hcs := KS _ hSw; go_simp; try with_reducible rfl)
                simp only [Act.put, List.setIfInBounds_toArray, List.set_cons_zero, List.set_cons_succ]
                refine h_take 3 (some 91) (Op.load 51 (Operand.tmp 8)) 51 (vv m2) rfl rfl (by kernel_rfl) (by kernel_rfl) (by kernel_rfl) (fun _ _ _ h => h) (fun _ _ _ w hSw => exec_load rfl (load_wide wide_V (KV w hSw) rfl)) hHeld ?_
                simp only [Act.put, List.setIfInBounds_toArray, List.set_cons_zero, List.set_cons_succ]
                refine h_step 2 (some 90) (Op.call { callee := Callee.value (Operand.func 45), args := #[Operand.tmp 89], argTypes := #[3] }) 54 rfl rfl (by kernel_rfl) (fun _ _ _ K hK => ?_)
                go_simp
                refine (rmkey_w i _).mono ?_
                rintro e w14 ⟨rfl, hk14⟩
                replace hk14 : Kept (fun _ => False) w13 w14 := (Kept.refl _ w13).drew.thru hk14
                go_wp2_with fail
                refine hK.out _ _ (hk14.mono (fun _ _ e => e.elim)) (fun hHeld => ?_)
                clear hK K
                try simp only [Act.put, List.setIfInBounds_toArray, List.set_cons_zero, List.set_cons_succ]
                refine h_step 4 (some 92) (Op.call { callee := Callee.value (Operand.func 46), args := #[Operand.tmp 88, Operand.tmp 90, Operand.tmp 91], argTypes := #[27, 54, 51] }) 0 rfl rfl (by kernel_rfl) (fun _ _ _ K hK => ?_)
                go_simp
                refine (rp_w (hv13.still hk14) 12 i m2).mono ?_
                rintro e w15 ⟨rfl, hv15, hk15⟩
                replace hk15 : Kept (RW R W) w13 w15 := (hk14.mono (fun _ _ e => e.elim)).trans hk15 (fun _ _ e => e)
                go_wp2_with fail
                refine hK.out _ _ (hk15) (fun hHeld => ?_)
                clear hK K
                try simp only [Act.put, List.setIfInBounds_toArray, List.set_cons_zero, List.set_cons_succ]
                refine wpAnyH_done (by kernel_rfl) ?_ _
                have HZ : Hid (RBoth q R W p B f (grT f g i (N : Int)) w15 ∧ Kept (RW R W) w w15) := ⟨by rw [HO2.out.2]; exact hv15, hK13.trans hk15 (fun _ _ e => e)⟩
                clear hHeld KS KV hk14 hv13 hK13 hk15 g3 hv15
                go_wp2_with fail
                exact bodyPost_ret (v := .bool true) (by simp [results, Tryd.results16, go_sem]) rfl ⟨by rw [HO2.out.1], HZ.out⟩
      · skip
        as_aux_lemma =>
        have HO : Hid (grOk f g i n = false ∧ grT f g i n = twoT f g i) := by
          have e1 : grMay f g i n = false := by rw [HM.out]; exact decide_eq_false hroom
          have e2 : grOk f g i n = false := by unfold grOk; rw [e1]; rfl
          exact ⟨e2, by rw [HT.out, e2, e1]; rfl⟩
        have HZ : Hid (RBoth q R W p B f (twoT f g i) w8 ∧ Kept (RW R W) w w8) := ⟨hv8, K8⟩
        clear HM HT hv8 K8 bX8 bM8
        go_wp2_with fail
        exact bodyPost_ret (v := .bool false) (by simp [results, Tryd.results16, go_sem]) rfl ⟨by rw [HO.out.1], by rw [HO.out.2]; exact HZ.out.1, HZ.out.2⟩
    · have HS : spIn f g i n = false := by unfold spIn; rw [decide_eq_false hn]; simp
      have HM : grMay f g i n = false := by unfold grMay; rw [HS]; rfl
      have HO : grOk f g i n = false := by unfold grOk; rw [HM]; rfl
      have HA : Hid (grOk f g i n = false ∧ grT f g i n = stT f g i) := ⟨HO, by unfold grT; rw [HO, HM, HS]; rfl⟩
      clear hR HS HM HO hsx hsm
      go_enter Tryd.func16, Tryd.ntmps16
      go_wp2_with fail
      refine (rstate_w h i).mono ?_
      rintro e w1 ⟨rfl, hv1, hk1⟩
      have HZ : Hid (RBoth q R W p B f (stT f g i) w1 ∧ Kept (RW R W) w w1) := ⟨hv1, hk1⟩
      clear h hv1 hk1
      go_wp2_with fail
      exact bodyPost_ret (v := .bool false) (by simp [results, Tryd.results16, go_sem]) rfl ⟨by rw [HA.out.1], by rw [HA.out.2]; exact HZ.out.1, HZ.out.2⟩
end Go.Proofs.YtbhpkjedkccdpaaDoor
