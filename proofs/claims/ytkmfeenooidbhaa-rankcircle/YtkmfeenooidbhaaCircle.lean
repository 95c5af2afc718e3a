/- The statement on circles; no conditions. -/
import Derived.Test.YtkmfeenooidbhaaCircF
import Derived.Test.YtkmfeenooidbhaaAsks
import Derived.Deep.CutBlock
import Derived.Deep.RegionHeld3
namespace Go.Proofs.Ytkmfeenooidbhaa
open Go.RowKit

theorem new2 {w : World} {D : Nat} (hD : w.heap.size = D) (x y : Int) :
    ((w.alloc (.cells #[.int .i64 x] 3)).alloc (.cells #[.int .i64 y] 3)).heap[D]? = some (.cells #[.int .i64 x] 3 (0, 0)) ∧
    ((w.alloc (.cells #[.int .i64 x] 3)).alloc (.cells #[.int .i64 y] 3)).heap[D + 1]? = some (.cells #[.int .i64 y] 3 (0, 0)) ∧
    Kept (fun _ => False) w ((w.alloc (.cells #[.int .i64 x] 3)).alloc (.cells #[.int .i64 y] 3)) :=
  ⟨alloc_off (alloc_at' _ hD), hD ▸ alloc_at1 w _ _, ((Kept.refl _ w).alloc _).alloc _⟩

set_option maxRecDepth 100000 in
set_option maxHeartbeats 1600000 in
theorem circle_w (n : Int) (ao : Option Addr) (len cap lb off : Nat) (Q : Nat → Q3) (hao : 0 < len → ao = some ⟨lb, off, none⟩)
    (wo : Option Addr) (wlen wcap wb woff : Nat) (W : Nat → Int) (hwo : 0 < wlen → wo = some ⟨wb, woff, none⟩) (w : World)
    (hc : ∀ i, i < len → w.cell? ⟨lb, off + i * 3, none⟩ = some (.int .i64 (Q i).who) ∧ w.cell? ⟨lb, off + i * 3 + 1, none⟩ = some (.int .i64 (Q i).r) ∧ w.cell? ⟨lb, off + i * 3 + 2, none⟩ = some (.bool (Q i).b))
    (hW : ∀ i, i < wlen → w.cell? ⟨wb, woff + i, none⟩ = some (.int .i64 (W i))) :
    Calls Try.prog 5 #[.int .i64 n, .slice ao len cap, .slice wo wlen wcap] w fun e w' => e = .returned (.bool true) ∧ Kept (fun _ => False) w w' := by
  obtain ⟨B, hB⟩ : ∃ B : Nat, w.heap.size = B := ⟨_, rfl⟩
  obtain ⟨k, hk, hk2, hk8⟩ : ∃ k : Nat, 2 + n % (8 - 2 + 1) = k ∧ 2 ≤ k ∧ k ≤ 8 := ⟨(2 + n % 7).toNat, by omega, by omega, by omega⟩
  have hmf := makeF
  have hmk := make_ints k (by omega)
  have HC : Hid _ := hc
  have HW : Hid _ := hW
  clear hc hW
  go_enter Try.func5, Try.ntmps5
  go_wp2_with fail
  refine (within_any n 2 8 (by decide) (by decide) (by decide) _).mono ?_
  rintro e w1 ⟨rfl, rfl⟩
  simp only [hk]
  clear hk
  have NW := new_ok k (by omega) (by omega) w1
  rw [hB] at NW
  go_wp2_with fail
  refine NW.mono ?_
  rintro e w2 ⟨rfl, hH, hk2', hs2⟩
  clear NW
  have HR0 : Hid (Room B 0 _ _ w1 (w2.alloc (.cells #[.pointer (some ⟨B + 1, 0, none⟩)] 22))) := ⟨hH.still ((Kept.refl _ _).alloc _), alloc_at' _ hs2, hk2'.alloc _, by omega⟩
  clear hH hk2'
  go_upto_block 0 with fail
  go_cut [9, 10, 11] from 25 to 50 (fun _ _ _ wr => ∃ (j : Nat) (vs : List Value) (ls : List (List Int)), j ≤ 60 ∧ vs.length = k ∧ ls.length = k ∧ Hid (Room B j vs ls w1 wr))
  case first =>
    go_wp2_with fail
    go_loopw [9] (fun i wr => ∃ (j : Nat) (vs : List Value) (ls : List (List Int)), i = .int .i64 j ∧ j ≤ len ∧ j ≤ 60 ∧ vs.length = k ∧ ls.length = k ∧ Hid (Room B j vs ls w1 wr)) (fun i _ => 60 - (intOf i).toNat)
    case atStart => exact ⟨0, _, _, rfl, Nat.zero_le _, Nat.zero_le _, by simp, by simp, HR0.out⟩
    case round =>
      obtain ⟨j, vs, ls, rfl, hjl, hj60, hvl, hll, HH⟩ := hrel
      clear HR0
      by_cases hlt : j < len ∧ j < 60
      · obtain ⟨hj1, hj2⟩ := hlt
        obtain ⟨c0, c1, -⟩ := HC.out j hj1
        generalize (Q j).who = qa at c0
        generalize (Q j).r = qr at c1
        replace c0 := HH.out.kept.cell c0 (fun x => x)
        replace c1 := HH.out.kept.cell c1 (fun x => x)
        obtain rfl := hao (by omega)
        clear hao HC HW
        have t1 : (j : Int) < (len : Int) := by omega
        have t2 : (j : Int) < 60 := by omega
        obtain ⟨E, hE⟩ : ∃ E : Nat, wr.heap.size = E := ⟨_, rfl⟩
        go_upto_region 8 with fail
        go_cut [10, 11] from 35 to 48 (fun a b wx => ∃ (p q : Nat) (x y : Int), a = .pointer (some ⟨p, 0, none⟩) ∧ b = .pointer (some ⟨q, 0, none⟩) ∧ Hid (wx.heap[p]? = some (.cells #[.int .i64 x] 3 (0, 0)) ∧ wx.heap[q]? = some (.cells #[.int .i64 y] 3 (0, 0)) ∧ Kept (fun _ => False) wr wx))
        case first =>
          as_aux_lemma =>
          have tb0 : lb < E := by have := World.block_lt_of_cell? _ _ c0; simpa [hE] using this
          have tb1 : lb < E + 1 := by omega
          have tb2 : lb ≠ E := by omega
          have tb3 : lb ≠ E + 1 := by omega
          clear HH
          have ca : ∀ o, (wr.alloc o).drew.cell? ⟨lb, off + j * 3, none⟩ = some (.int .i64 qa) := fun o => ((Kept.refl (fun _ => False) wr).alloc o).cell c0 (fun x => x)
          have cb : ∀ o, (wr.alloc o).drew.cell? ⟨lb, off + j * 3 + 1, none⟩ = some (.int .i64 qr) := fun o => ((Kept.refl (fun _ => False) wr).alloc o).cell c1 (fun x => x)
          have ca2 : ∀ o o', ((wr.alloc o).alloc o').drew.cell? ⟨lb, off + j * 3, none⟩ = some (.int .i64 qa) := fun o o' => (((Kept.refl (fun _ => False) wr).alloc o).alloc o').cell c0 (fun x => x)
          have cb2 : ∀ o o', ((wr.alloc o).alloc o').drew.cell? ⟨lb, off + j * 3 + 1, none⟩ = some (.int .i64 qr) := fun o o' => (((Kept.refl (fun _ => False) wr).alloc o).alloc o').cell c1 (fun x => x)
          have W2 : ∀ (v h : Int) (wx : World), 0 ≤ h → h ≤ 1000 → Calls Try.prog 16 #[.int .i64 v, .int .i64 0, .int .i64 h] wx fun e w' => (∃ x, e = .returned (.int .i64 x)) ∧ w' = wx := fun v h wx h1 h2 => (within_any v 0 h (by decide) h1 (by omega) wx).mono fun e w' ⟨he, hw⟩ => ⟨⟨_, he⟩, hw⟩
          have hwk : IntKind.i64.wrap ((k : Int) - 1) = (k : Int) - 1 := by rw [IntKind.wrap_i64]; omega
          go_region_held3 (fun w' => w'.cell? ⟨lb, off + j * 3, none⟩ = some (.int .i64 qa) ∧ w'.cell? ⟨lb, off + j * 3 + 1, none⟩ = some (.int .i64 qr)) (first | exact ⟨c0, c1⟩ | exact ⟨ca _, cb _⟩ | exact ⟨ca2 _ _, cb2 _ _⟩) (first | (go_at_call 16; refine (W2 _ _ _ ?h1 ?h2).mono ?_; (case h1 => first | decide | omega); (case h2 => first | decide | omega); rintro e w' ⟨⟨x, rfl⟩, rfl⟩))
          all_goals
            go_wp2
            go_meet
            case rel => first | exact ⟨E, E + 1, _, _, rfl, rfl, (new2 hE _ _).1, (new2 hE _ _).2.1, (new2 hE _ _).2.2.drew⟩ | exact ⟨E + 1, E, _, _, rfl, rfl, (new2 hE _ _).2.1, (new2 hE _ _).1, (new2 hE _ _).2.2.drew⟩
        case rest =>
          as_aux_lemma =>
          obtain ⟨p, q, x, y, rfl, rfl, HP⟩ := hcut
          have hR := HH.out.still HP.out.2.2
          have G := circ_g B j p q vs ls x y w1 wc (by omega) (by omega) hR HP.out.1 HP.out.2.1
          go_wp2_with fail
          refine G.mono ?_
          rintro e w5 ⟨rfl, hL⟩
          obtain ⟨vs5, l5, R5, -, -⟩ := hR.left hL
          have HR5 : Hid _ := R5
          clear G hL hR HP HH R5 c0 c1
          go_wp2
          go_roundw
          case rel => exact ⟨j + 1, vs5, _, by go_num, by omega, by omega, by omega, by rw [takeTo_len]; exact hll, HR5.out⟩
          case measure => simp [intOf]; omega
      · have HR : Hid _ := HH.out
        clear HH HC HW
        by_cases hj1 : j < len
        · have t1 : (j : Int) < (len : Int) := by omega
          have t2 : ¬ (j : Int) < 60 := by omega
          clear hlt
          go_wp2
          go_meet
          case rel => exact ⟨j, vs, ls, hj60, hvl, hll, HR.out⟩
        · have t1 : ¬ (j : Int) < (len : Int) := by omega
          clear hlt
          go_wp2
          go_meet
          case rel => exact ⟨j, vs, ls, hj60, hvl, hll, HR.out⟩
  case rest =>
    as_aux_lemma =>
    obtain ⟨j, vs, ls, hj60, hvl, hll, HH⟩ := hcut
    obtain ⟨X, hX⟩ : ∃ X : Nat, wc.heap.size = X := ⟨_, rfl⟩
    have HG0 : Hid (Ring B j X vs ls (List.replicate k 0) w1 (wc.alloc (.cells (ints (List.replicate k (0 : Int))).toArray 3))) :=
      ⟨HH.out.still ((Kept.refl _ _).alloc _), alloc_at' _ hX, fun q hq => by have := Mine.lt HH.out.held hq; omega, by have := lt_at HH.out.var; omega⟩
    have HGD : Hid _ := HH.out.held.good
    clear HH HC HR0
    go_wp2_with fail
    go_loopw [55] (fun i wr => ∃ (c : Nat) (nx : List Int), i = .int .i64 c ∧ c ≤ k ∧ nx.length = k ∧ Hid (Ring B j X vs ls nx w1 wr ∧ Nxt ls k nx c)) (fun i _ => k - (intOf i).toNat)
    case atStart => exact ⟨0, _, rfl, Nat.zero_le _, by simp, HG0.out, fun a ha => by omega⟩
    case round =>
      obtain ⟨c, nx, rfl, hck, hnl, HR⟩ := hrel
      clear HG0
      by_cases hcl : c < k
      · skip
        as_aux_lemma =>
        have t1 : (c : Int) < (k : Int) := by omega
        have d1 := HR.out.1.cell (i := c) (by omega)
        have f1 := free_at HR.out.1.row c
        have HR1 : Hid _ := HR.out.1.put c (-1)
        have HN1 : Hid (Nxt ls k (nx.set c (-1)) (c + 1)) := HR.out.2.none (by omega)
        by_cases hwl : c < wlen
        · have t2 : (c : Int) < (wlen : Int) := by omega
          have t2' : ¬ (wlen : Int) ≤ (c : Int) := by omega
          obtain rfl := hwo (by omega)
          have e1 := HR1.out.room.kept.cell (HW.out c hwl) (fun x => x)
          generalize W c = wv at e1
          clear HW hwo
          obtain ⟨R, hR, hR0⟩ : ∃ R : Int, 0 + wv % (12 - 0 + 1) = R ∧ 0 ≤ R := ⟨_, rfl, by omega⟩
          go_wp2_with fail
          refine (within_any wv 0 12 (by decide) (by decide) (by decide) _).mono ?_
          rintro e w6 ⟨rfl, rfl⟩
          simp only [hR]
          clear hR e1 d1 f1
          generalize wr.setCell ⟨X, c, none⟩ (.int .i64 (-1)) = wa at *
          have x0 := cell_at HR1.out.room.var (i := 0) rfl
          have LI := list_w B _ vs ls c (by omega) (by omega) _ HR1.out.room.held
          have hcap : (ld ls c).length ≤ j := HR1.out.room.held.cap c (by omega)
          go_wp2_with fail
          refine LI.mono ?_
          rintro e w12 ⟨v, rfl, hO⟩
          obtain ⟨ro, bb, oo, cp, rfl, hro, hcell⟩ := (own_src hO.own).seen
          have HR2 : Hid _ := HR1.out.still hO.kept
          have HTOP : Hid (∀ r, top (ld ls c) < r → Nxt ls k ((nx.set c (-1)).set c (ownr ls r)) (c + 1)) := fun r hr => HR.out.2.some HGD.out hll (by omega) hr
          have OW := owner_w B _ vs ls R (by omega) (by omega) _ HR2.out.room.held
          have x2 := cell_at HR2.out.room.var (i := 0) rfl
          have d2 := HR2.out.cell (i := c) (by simp [hnl]; omega)
          have f2 := free_at HR2.out.row c
          clear LI hO x0 HR1 HR
          have HTP : Hid (top (ld ls c) = if (ld ls c).length = 0 then -1 else zd (ld ls c) ((ld ls c).length - 1)) := rfl
          generalize ld ls c = L at *
          obtain ⟨m, hm⟩ : ∃ m, L.length = m := ⟨_, rfl⟩
          rw [hm] at HTP hcell hro hcap ⊢
          clear hm
          rcases m with _ | p
          · have htop : top L < R := by rw [HTP.out, if_pos rfl]; omega
            have HN2 : Hid _ := HTOP.out R htop
            have HR3 : Hid _ := HR2.out.put c (ownr ls R)
            clear HTOP HTP htop hcell hro HR2
            go_wp2_with fail
            refine OW.mono ?_
            rintro e w13 ⟨rfl, rfl⟩
            go_wp2
            go_roundw
            case rel => exact ⟨c + 1, _, by go_num, by omega, by simp [hnl], HR3.out, HN2.out⟩
            case measure => simp [intOf]; omega
          · have e2 := hcell p (by omega)
            obtain rfl := hro (by omega)
            have HTP2 : Hid (top L = zd L p) := by
              show _ = _
              rw [HTP.out, if_neg (by omega), Nat.add_sub_cancel]
            clear hcell hro HTP
            generalize zd L p = y at *
            by_cases hRy : R ≤ y
            · clear HTOP HTP2 OW
              go_wp2
              go_roundw
              case rel => exact ⟨c + 1, _, by go_num, by omega, by simp [hnl], HR2.out, HN1.out⟩
              case measure => simp [intOf]; omega
            · have HN2 : Hid _ := HTOP.out R (by rw [HTP2.out]; omega)
              have HR3 : Hid _ := HR2.out.put c (ownr ls R)
              have hd2 : decide (R ≤ y) = false := by simpa using hRy
              clear HTOP HTP2 HR2
              go_wp2_with fail
              refine OW.mono ?_
              rintro e w13 ⟨rfl, rfl⟩
              go_wp2
              go_roundw
              case rel => exact ⟨c + 1, _, by go_num, by omega, by simp [hnl], HR3.out, HN2.out⟩
              case measure => simp [intOf]; omega
        · have t2 : (wlen : Int) ≤ (c : Int) := by omega
          clear HW hwo
          go_wp2
          go_roundw
          case rel => exact ⟨c + 1, _, by go_num, by omega, by simp [hnl], HR1.out, HN1.out⟩
          case measure => simp [intOf]; omega
      · skip
        as_aux_lemma =>
        obtain rfl : c = k := by omega
        have HN : Hid _ := HR.out.2
        have HRR : Hid _ := HR.out.1
        clear HR HW hwo
        go_wp2_with fail
        go_loop [95] (fun s => ∃ d : Nat, d ≤ c ∧ s = .int .i64 d) (fun s => c - (intOf s).toNat)
        case atStart => exact ⟨0, Nat.zero_le _, rfl⟩
        case round =>
          obtain ⟨d, hdc, rfl⟩ := hrel
          by_cases hdl : d < c
          · have t1 : (d : Int) < (c : Int) := by omega
            go_wp2_with fail
            go_loop [17, 18] (fun a s => ∃ t : Nat, t ≤ c ∧ s = .int .i64 t ∧ (a = .int .i64 (-1) ∨ ∃ o : Nat, o < c ∧ a = .int .i64 o ∧ Hid (cnt ls (top (ld ls o)) c + t + 1 ≤ c))) (fun _ s => c - (intOf s).toNat)
            case atStart => exact ⟨0, Nat.zero_le _, rfl, .inr ⟨d, hdl, rfl, by have := cnt_self ls c hdl; show _ ≤ _; omega⟩⟩
            case round =>
              obtain ⟨t, htc, rfl, hA⟩ := hrel
              rcases hA with rfl | ⟨o, hoc, rfl, HCN⟩
              · by_cases htl : t < c
                · have t2 : (t : Int) < (c : Int) := by omega
                  go_wp2
                  refine ⟨⟨d + 1, by omega, by go_num⟩, by simp [intOf]; omega⟩
                · have t2 : ¬ (t : Int) < (c : Int) := by omega
                  go_wp2
                  refine ⟨⟨d + 1, by omega, by go_num⟩, by simp [intOf]; omega⟩
              · have htl : t < c := by have := HCN.out; omega
                have t2 : (t : Int) < (c : Int) := by omega
                have t3 : (o : Int) < (c : Int) := by omega
                have e1 := HRR.out.cell (i := o) (by omega)
                have HX : Hid _ := HN.out o hoc
                generalize zd nx o = y at *
                go_wp2
                refine ⟨⟨t + 1, by omega, by go_num, ?_⟩, by simp [intOf]; omega⟩
                rcases HX.out with rfl | ⟨o', ho', rfl, hlt⟩
                · exact .inl rfl
                · refine .inr ⟨o', ho', rfl, ?_⟩
                  have h1 := cnt_less (ls := ls) (t := top (ld ls o)) (t' := top (ld ls o')) (by omega) hlt (by omega) c ho'
                  have h2 := HCN.out
                  show _ ≤ _
                  omega
          · obtain rfl : d = c := by omega
            have HK : Hid _ := HRR.out.room.kept
            clear HRR HN
            go_wp2_with fail
            refine (runs_w _).mono ?_
            rintro e w8 ⟨rfl, k8⟩
            have HK8 : Hid _ := HK.out.trans k8 (fun _ _ e => e)
            clear k8 HK
            go_wp2
            go_ret
            exact ⟨rfl, HK8.out⟩
end Go.Proofs.Ytkmfeenooidbhaa
