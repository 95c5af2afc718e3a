/- The statement on what one takes and lets go; no conditions. -/
import Derived.Test.YtkmfeenooidbhaaOwnF
import Derived.Deep.CutBlock
import Derived.Deep.RegionHeld3
namespace Go.Proofs.Ytkmfeenooidbhaa
open Go.RowKit

theorem Pair.more {A B N M : Nat} {vs : List Value} {ls : List (List Int)} {a : Nat} {v : Value} {L : List Int} {w0 w : World} (h : Pair A B N vs ls a v L w0 w) (hM : N ≤ M) : Pair A B M vs ls a v L w0 w :=
  ⟨⟨h.room.held.more hM, h.room.var, h.room.kept, h.room.base⟩, h.box, h.low, h.own, h.apart⟩

theorem Pair.cell {A B N g n cp : Nat} {vs : List Value} {ls : List (List Int)} {a : Nat} {L : List Int} {w0 w : World} (h : Pair A B N vs ls a (.slice (some ⟨g, 0, none⟩) n cp) L w0 w) {p : Nat} (hp : p < L.length) {y : Int} (hy : zd L p = y) : w.cell? ⟨g, p, none⟩ = some (.int .i64 y) := by
  have hc := h.own.cells (g := g) rfl p (.int .i64 (zd L p)) (by simp [ints, zd, hp])
  rw [Addr.add_lit, Nat.zero_add, hy] at hc
  exact hc

/-- What loop 1 leaves. -/
structure Had1 (L : List Int) : Prop where
  rise : Rising L
  pos : ∀ x ∈ L, x ≠ 1000

set_option maxRecDepth 100000 in
set_option maxHeartbeats 1600000 in
theorem own_w (n me : Int) (ao : Option Addr) (len cap lb off : Nat) (Z : Nat → Int) (hao : 0 < len → ao = some ⟨lb, off, none⟩)
    (wo : Option Addr) (wlen wcap wb woff : Nat) (W : Nat → Int) (hwo : 0 < wlen → wo = some ⟨wb, woff, none⟩) (w : World)
    (hc : ∀ i, i < len → w.cell? ⟨lb, off + i, none⟩ = some (.int .i64 (Z i)))
    (hW : ∀ i, i < wlen → w.cell? ⟨wb, woff + i, none⟩ = some (.int .i64 (W i))) :
    Calls Try.prog 6 #[.int .i64 n, .int .i64 me, .slice ao len cap, .slice wo wlen wcap] w fun e w' => e = .returned (.bool true) ∧ Kept (fun _ => False) w w' := by
  obtain ⟨i0, hi0, hz0, hz1, hz2⟩ := info_parts info_int
  obtain ⟨A, hA⟩ : ∃ A : Nat, w.heap.size = A := ⟨_, rfl⟩
  obtain ⟨k, hk, hk2, hk8⟩ : ∃ k : Nat, 2 + n % (8 - 2 + 1) = k ∧ 2 ≤ k ∧ k ≤ 8 := ⟨(2 + n % 7).toNat, by omega, by omega, by omega⟩
  obtain ⟨a, ha, hak⟩ : ∃ a : Nat, 0 + me % ((k : Int) - 1 - 0 + 1) = a ∧ a < k := ⟨(me % (k : Int)).toNat, by rw [show (k : Int) - 1 - 0 + 1 = k by omega]; have := Int.emod_nonneg me (show (k : Int) ≠ 0 by omega); omega, by have := Int.emod_nonneg me (show (k : Int) ≠ 0 by omega); have := Int.emod_lt_of_pos me (show (0 : Int) < (k : Int) by omega); omega⟩
  obtain ⟨b, hb, hbk, hab⟩ : ∃ b : Nat, ((a : Int) + 1) % (k : Int) = b ∧ b < k ∧ a ≠ b := by
    by_cases e : a + 1 = k
    · exact ⟨0, by rw [show (a : Int) + 1 = k by omega]; simp, by omega, by omega⟩
    · exact ⟨a + 1, by rw [Int.emod_eq_of_lt (by omega) (by omega)]; omega, by omega, by omega⟩
  have hmf := makeF
  have HC : Hid _ := hc
  have HW : Hid _ := hW
  clear hc hW
  go_enter Try.func6, Try.ntmps6
  go_wp2_with fail
  refine (within_any n 2 8 (by decide) (by decide) (by decide) _).mono ?_
  rintro e w1 ⟨rfl, rfl⟩
  simp only [hk]
  clear hk
  go_wp2_with fail
  refine (within_any me 0 ((k : Int) - 1) (by decide) (by omega) (by omega) _).mono ?_
  rintro e w2 ⟨rfl, rfl⟩
  simp only [ha]
  clear ha
  have hB : (w2.alloc (.cells #[.int .i64 a] 3)).heap.size = A + 1 := by simp [hA]
  have NW := new_ok k (by omega) (by omega) (w2.alloc (.cells #[.int .i64 a] 3))
  rw [hB] at NW
  have K1 : Kept (fun _ => False) w2 (w2.alloc (.cells #[.int .i64 a] 3)) := (Kept.refl _ _).alloc _
  have b1 : (w2.alloc (.cells #[.int .i64 a] 3)).heap[A]? = some (.cells #[.int .i64 a] 3 (0, 0)) := alloc_at' _ hA
  go_wp2_with fail
  refine NW.mono ?_
  rintro e w3 ⟨rfl, hH, hk3, hs3⟩
  clear NW
  obtain ⟨B, hBB⟩ : ∃ B : Nat, B = A + 1 := ⟨_, rfl⟩
  rw [← hBB] at hH hs3 ⊢
  have hAB : A < B := by omega
  have R0 : Room B 0 _ _ w2 (w3.alloc (.cells #[.pointer (some ⟨B + 1, 0, none⟩)] 22)) := ⟨hH.still ((Kept.refl _ _).alloc _), alloc_at' _ hs3, (K1.trans hk3 (fun _ _ e => e)).alloc _, by omega⟩
  have b3 := (hk3.alloc (.cells #[.pointer (some ⟨B + 1, 0, none⟩)] 22)).at b1 (fun x => x)
  have P0 : Pair A B 0 _ _ a (.slice none 0 0) [] w2 _ := ⟨R0, b3, hAB, World.ownsRow_nil _ _ _ _, fun k e => by simp [Value.ownBlock] at e⟩
  clear hH K1 b1 b3 R0 hBB hB
  have d0 := cell_at (hk3.at (alloc_at' (w := w2) (.cells #[.int .i64 a] 3) hA) (fun x => x)) (i := 0) rfl
  have tA : A < B + 2 := by omega
  have T := take_any B 0 _ _ b 1000 (by omega) (by simp; omega) _ P0.room.held
  rw [(start_take hbk).1, (start_take hbk).2, lsOf_start hak hab] at T
  clear hk3
  go_wp2_with fail
  simp only [hb]
  clear hb
  refine T.mono ?_
  rintro e w4 ⟨rfl, hL⟩
  obtain ⟨vs4, l4, P4⟩ := P0.left hL
  have hvl4 : vs4.length = k := by rw [l4]; simp
  have HP4 : Hid _ := P4
  clear T hL P0 P4 d0 l4 tA hs3
  go_upto_block 0 with fail
  go_cut [13, 14, 15] from 37 to 62 (fun v _ _ wr => ∃ (L : List Int) (vs : List Value), L.length ≤ 12 ∧ vs.length = k ∧ Hid (Pair A B 13 vs (lsOf k a b L) a v L w2 wr ∧ Had1 L))
  case first =>
    go_wp2_with fail
    go_loopw [13, 14, 15] (fun v r i wr => ∃ (j : Nat) (L : List Int) (vs : List Value) (rv : Int), i = .int .i64 j ∧ r = .int .i64 rv ∧ j ≤ len ∧ j ≤ 12 ∧ L.length = j ∧ vs.length = k ∧ 0 ≤ rv ∧ rv ≤ 10 * j ∧ Hid (Pair A B (j + 1) vs (lsOf k a b L) a v L w2 wr ∧ Rising L ∧ top L ≤ rv)) (fun _ _ i _ => 12 - (intOf i).toNat)
    case atStart => exact ⟨0, [], vs4, 0, rfl, rfl, Nat.zero_le _, Nat.zero_le _, rfl, hvl4, Int.le_refl _, by omega, HP4.out, Rising.nil, by decide⟩
    case round =>
      obtain ⟨j, L, vs, rv, rfl, rfl, hjl, hj12, hLj, hvl, hr0, hr1, HH⟩ := hrel
      clear HP4
      by_cases hlt : j < len ∧ j < 12
      · obtain ⟨hj1, hj2⟩ := hlt
        as_aux_lemma =>
        have c0 := HH.out.1.room.kept.cell (HC.out j hj1) (fun x => x)
        generalize Z j = zv at c0
        obtain rfl := hao (by omega)
        clear hao HC HW hwo
        have t1 : (j : Int) < (len : Int) := by omega
        have t2 : (j : Int) < 12 := by omega
        obtain ⟨x, hx, hx0, hx9⟩ : ∃ x : Int, 0 + zv % (9 - 0 + 1) = x ∧ 0 ≤ x ∧ x ≤ 9 := ⟨_, rfl, by omega, by omega⟩
        have x0 := cell_at HH.out.1.room.var (i := 0) rfl
        have x1 := cell_at HH.out.1.box (i := 0) rfl
        have T := take_any B _ vs (lsOf k a b L) a (rv + 1 + x) (by omega) (by omega) _ HH.out.1.room.held
        have hq := lsOf_take (k := k) (a := a) (b := b) hak hbk HH.out.2.1 (r := rv + 1 + x) (by have := HH.out.2.2; omega) (by omega)
        rw [hq.1, hq.2] at T
        clear hq
        go_wp2_with fail
        refine (within_any zv 0 9 (by decide) (by decide) (by decide) _).mono ?_
        rintro e w5 ⟨rfl, rfl⟩
        simp only [hx]
        clear hx
        go_wp2_with fail
        refine T.mono ?_
        rintro e w6 ⟨rfl, hL⟩
        obtain ⟨vs6, l6, P6⟩ := HH.out.1.left hL
        rw [hvl] at l6
        have HRI : Hid (Rising (L ++ [rv + 1 + x]) ∧ top (L ++ [rv + 1 + x]) ≤ rv + 1 + x) := ⟨HH.out.2.1.snoc (by have := HH.out.2.2; omega), by rw [top_last]; omega⟩
        clear T hL c0 x0 x1 HH
        have hrn : 0 ≤ rv + 1 + x ∧ rv + 1 + x ≤ 10 * ((j : Int) + 1) := ⟨by omega, by omega⟩
        generalize rv + 1 + x = rn at *
        obtain ⟨D, hD⟩ : ∃ D : Nat, w6.heap.size = D := ⟨_, rfl⟩
        have hBD : B + 3 ≤ D := by have := lt_at P6.room.var; omega
        go_wp2_with (at_builtin; refine wpList_append_lies _ rfl _ _ 30 rfl (B + 3) 3 i0 (.int .i64 0) 1 8 Try.underlying30 hi0 hz0 hz1 hz2 rfl (by decide) _ _ _ rfl (P6.own.alloc _) ⟨D, 0, none⟩ 1 1 [.int .i64 rn] rfl rfl ?c1 ?c2 (by decide) ?c3 ?c4 ?c5 _ rfl ?_)
        case c1 => exact fun j u hu => World.news_of_block (cs := #[.int .i64 rn]) (alloc_at' _ hD) j u hu
        case c2 => intro u hu; simp at hu; subst hu; rfl
        case c3 => unfold maxLen; omega
        case c4 => omega
        case c5 => simp; omega
        intro g cp w7 hown hgr hat hlt
        have k7 : Kept (fun k => u13.ownBlock = some k) w6 w7 := Kept.grown ((Kept.refl _ w6).alloc _) hgr (fun k e _ => e)
        have HP7 : Hid (Pair A B (j + 1 + 1) vs6 (lsOf k a b (L ++ [rn])) a (.slice (some ⟨g, 0, none⟩) (j + 1) cp) (L ++ [rn]) w2 w7) :=
          P6.row k7 (by rw [ints_app, List.length_append, hLj]; exact hown) (fun q e => by
            have e1 : g = q := by simpa [Value.ownBlock] using e
            subst e1
            rcases hat with y | y
            · exact .inl y
            · exact .inr (by omega))
        clear P6 hown hgr hat hlt k7
        go_wp2
        go_roundw
        case rel => exact ⟨j + 1, L ++ [rn], vs6, rn, by go_num, rfl, by omega, by omega, by simp [hLj], l6, hrn.1, by have := hrn.2; omega, HP7.out, HRI.out⟩
        case measure => simp [intOf]; omega
      · have HF : Hid (Pair A B 13 vs (lsOf k a b L) a u13 L w2 wr ∧ Had1 L) := ⟨HH.out.1.more (by omega), HH.out.2.1, fun x hx => by have := le_top HH.out.2.1 hx; have := HH.out.2.2; omega⟩
        clear HH HC HW hao hwo
        by_cases hj1 : j < len
        · have t1 : (j : Int) < (len : Int) := by omega
          have t2 : ¬ (j : Int) < 12 := by omega
          clear hlt
          go_wp2
          go_meet
          case rel => exact ⟨L, vs, by omega, hvl, HF.out⟩
        · have t1 : ¬ (j : Int) < (len : Int) := by omega
          clear hlt
          go_wp2
          go_meet
          case rel => exact ⟨L, vs, by omega, hvl, HF.out⟩
  case rest =>
    as_aux_lemma =>
    obtain ⟨L0, vs0, hL0, hv0, HP0⟩ := hcut
    clear HP4 HC hao
    go_wp2_with fail
    go_loopw [13, 16] (fun v i wr => ∃ (c : Nat) (L : List Int) (vs : List Value), i = .int .i64 c ∧ c + L.length ≤ 12 ∧ vs.length = k ∧ Hid (Pair A B 13 vs (lsOf k a b L) a v L w2 wr ∧ Had1 L)) (fun _ i _ => 12 - (intOf i).toNat)
    case atStart => exact ⟨0, L0, vs0, rfl, by omega, hv0, HP0.out⟩
    case round =>
      obtain ⟨c, L, vs, rfl, hcL, hvl, HH⟩ := hrel
      clear HP0
      by_cases hn0 : 0 < L.length
      · skip
        as_aux_lemma =>
        obtain ⟨g, cp, rfl, hgl, hgw⟩ := HH.out.1.own.form hn0
        obtain ⟨m, hm⟩ : ∃ m : Nat, L.length = m + 1 := ⟨L.length - 1, by omega⟩
        rw [hm]
        have hcp : m + 1 ≤ cp := by
          rcases HH.out.1.own.2 with ⟨e, _⟩ | ⟨g', cap', cur, e, hb, hg, hnc, hcm, hcs, htake⟩
          · cases e
          · cases e; omega
        have x0 := cell_at HH.out.1.room.var (i := 0) rfl
        have x1 := cell_at HH.out.1.box (i := 0) rfl
        have LI := list_w B _ vs (lsOf k a b L) a (by omega) (by omega) _ HH.out.1.room.held
        rw [lsOf_a hak hbk] at LI
        go_wp2_with fail
        refine LI.mono ?_
        rintro e w5 ⟨v5, rfl, hO⟩
        have S := same_w v5 _ L (by omega) _ (own_src hO.own) (own_src (HH.out.1.still hO.kept).own)
        rw [hm] at S
        clear x0 x1 LI
        go_wp2_with fail
        refine S.mono ?_
        rintro e w6 ⟨rfl, q6, rfl⟩
        have HP6 : Hid _ := (HH.out.1.still hO.kept).still (kept_drewN w5 q6)
        have HD1 : Hid _ := HH.out.2
        clear S hO HH
        generalize w5.drewN q6 = w7 at *
        go_upto_if 77 with fail
        go_cut [17] from 74 to 85 (fun v wx => ∃ p : Nat, p < m + 1 ∧ v = .int .i64 p ∧ wx = w7)
        case first =>
          by_cases hwl : c < wlen
          · have t2 : (c : Int) < (wlen : Int) := by omega
            have e1 := HP6.out.room.kept.cell (HW.out c hwl) (fun x => x)
            generalize W c = wv at e1
            obtain rfl := hwo (by omega)
            clear HW hwo HP6
            obtain ⟨p, hp, hpm⟩ : ∃ p : Nat, 0 + wv % ((m : Int) - 0 + 1) = p ∧ p < m + 1 := ⟨(wv % ((m : Int) + 1)).toNat, by rw [show (m : Int) - 0 + 1 = m + 1 by omega]; have := Int.emod_nonneg wv (show (m : Int) + 1 ≠ 0 by omega); omega, by have := Int.emod_nonneg wv (show (m : Int) + 1 ≠ 0 by omega); have := Int.emod_lt_of_pos wv (show (0 : Int) < (m : Int) + 1 by omega); omega⟩
            go_wp2_with fail
            refine (within_any wv 0 m (by decide) (by omega) (by omega) _).mono ?_
            rintro e w8 ⟨rfl, hw8⟩
            simp only [hp]
            clear hp
            go_wp2
            go_meet
            case rel => exact ⟨p, hpm, rfl, hw8⟩
          · have t2 : ¬ (c : Int) < (wlen : Int) := by omega
            clear HW hwo HP6
            go_wp2
            go_meet
            case rel => exact ⟨0, by omega, rfl, rfl⟩
        case rest =>
          obtain ⟨p, hpm, rfl, rfl⟩ := hcut
          clear HW hwo
          as_aux_lemma =>
          have hp1 : p < L.length := by omega
          have hmem := zd_mem hp1
          have hcell := HP6.out.cell hp1 rfl
          have x0 := cell_at HP6.out.room.var (i := 0) rfl
          have x1 := cell_at HP6.out.box (i := 0) rfl
          have HER : Hid (without L (zd L p) = L.eraseIdx p) := without_at HD1.out.rise hp1
          have HD2 : Hid (Had1 (without L (zd L p))) := ⟨HD1.out.rise.without _, fun x hx => HD1.out.pos x (without_mem.1 hx).1⟩
          have HNO : Hid (isIn (without L (zd L p)) (zd L p) = false ∧ ownr (lsOf k a b (without L (zd L p))) (zd L p) = -1) :=
            ⟨isIn_no (fun h => (without_mem.1 h).2 rfl), lsOf_free hak hbk (fun h => (without_mem.1 h).2 rfl) (HD1.out.pos _ hmem)⟩
          generalize hy : zd L p = y at *
          have HY : Hid _ := hy
          clear hy
          have t1 : (p : Int) < (m : Int) + 1 := by omega
          have LT := let_any B 13 vs (lsOf k a b L) a y (by omega) wc.drew (HP6.out.room.held.still ((Kept.refl _ wc).drew))
          rw [(lsOf_let hak hbk hmem).1, (lsOf_let hak hbk hmem).2] at LT
          have HPD : Hid _ := HP6.out.still (w' := wc.drew) ((Kept.refl _ wc).drew)
          clear HP6 hmem HD1
          go_wp2_with fail
          go_region_held3 (fun w' => w'.cell? ⟨B + 2, 0, none⟩ = some (.pointer (some ⟨B + 1, 0, none⟩)) ∧ w'.cell? ⟨A, 0, none⟩ = some (.int .i64 a) ∧ w'.cell? ⟨g, p, none⟩ = some (.int .i64 y)) (simp [*])
            (first | (go_at_call 12; refine LT.mono ?_; rintro e w8 ⟨rfl, hL⟩; obtain ⟨vs8, l8, P8⟩ := HPD.out.left hL; have s1 := cell_at P8.room.var (i := 0) rfl; have s2 := cell_at P8.box (i := 0) rfl; have s3 := P8.cell hp1 HY.out))
          rw [hvl] at l8
          have HP8 : Hid _ := P8
          have HO : ∀ q, Calls Try.prog 18 #[.pointer (some ⟨B + 1, 0, none⟩), .int .i64 a, .int .i64 y] (w8.drewN q) fun e w' => e = .returned (.bool false) ∧ w' = w8.drewN q := fun q => by
            have h := holds_w B 13 vs8 _ a (by omega) y (by omega) (w8.drewN q) (P8.room.held.still (kept_drewN w8 q))
            rw [lsOf_a hak hbk, HNO.out.1] at h
            exact h
          have OW : ∀ q, Calls Try.prog 15 #[.pointer (some ⟨B + 1, 0, none⟩), .int .i64 y] (w8.drewN q) fun e w' => e = .returned (.int .i64 (-1)) ∧ w' = w8.drewN q := fun q => by
            have h := owner_w B 13 vs8 _ y (by omega) (by omega) (w8.drewN q) (P8.room.held.still (kept_drewN w8 q))
            rw [HNO.out.2] at h
            exact h
          clear LT HPD x0 x1 hcell hL P8
          go_wp2_with fail
          go_quiet (first | (go_at_call 18; exact Calls.quiet_of_same (HO _)) | (go_at_call 15; exact Calls.quiet_of_same (OW _)))
          have HP9 : Hid _ := HP8.out.still (kept_drewN w8 nq)
          clear HO OW s1 s2 s3 HP8 HNO
          generalize w8.drewN nq = wd at *
          as_aux_lemma =>
          obtain ⟨E, hE⟩ : ∃ E : Nat, wd.heap.size = E := ⟨_, rfl⟩
          have hEB : B + 3 ≤ E := by have := lt_at HP9.out.room.var; omega
          have tp0 : (0 : Int) ≤ (p : Int) := by omega
          have tpc : (p : Int) ≤ (cp : Int) := by omega
          have tq0 : (0 : Int) ≤ (p : Int) + 1 := by omega
          have tqm : (p : Int) + 1 ≤ (m : Int) + 1 := by omega
          have tpq : (p : Int) ≤ (p : Int) + 1 := by omega
          have tqc : (p : Int) + 1 ≤ (cp : Int) := by omega
          have hwp : IntKind.i64.wrap ((p : Int) + 1) = (p : Int) + 1 := by rw [IntKind.wrap_i64]; omega
          have HLEN : Hid (c + 1 + (without L y).length ≤ 12) := by
            show _ ≤ _
            rw [HER.out, List.length_eraseIdx, if_pos hp1]; omega
          have FIN : Hid (∀ v' w', OwnI wd v' (L.take p ++ L.drop (p + 1)) w' → Pair A B 13 vs8 (lsOf k a b (without L y)) a v' (without L y) w2 w') := by
            intro v' w' h
            have h2 := h.own
            rw [← List.eraseIdx_eq_take_drop_succ, ← HER.out] at h2
            refine HP9.out.row (h.kept.mono (fun _ _ e => e.elim)) ?_ (fun q e => .inr (h.own.lt q e).1)
            refine ⟨h2.1, ?_⟩
            rcases h2.2 with hn | ⟨g', cap', cur, rfl, h1, rest⟩
            · exact .inl hn
            · exact .inr ⟨g', cap', cur, rfl, by omega, rest⟩
          by_cases hcq : cp = p + 1
          · obtain rfl : p = m := by omega
            subst hcq
            have SL : SrcI (.slice (some ⟨g, 0, none⟩) p (p + 1)) (L.take p) wd := by
              have := SrcI.part HP9.out.own 0 p (p + 1) (by omega)
              simpa using this
            have SR : SrcI (.slice (some ⟨g, 0, none⟩) 0 0) (L.drop (p + 1)) wd := by
              have := SrcI.part HP9.out.own 0 0 0 (by omega)
              rw [List.drop_eq_nil_of_le (by omega)]
              simpa using this
            have K0 : Kept (fun _ => False) wd wd.drew := (Kept.refl _ wd).drew
            have OA : OwnI wd (.slice (some ⟨E, 0, none⟩) 0 0) [] (wd.alloc (.cells #[] 3)).drew := OwnI.made K0 hE
            have L1 : ([] : List Int).length + (L.take p).length ≤ 1000000 := by simp <;> omega
            have L2 : (L.take p).length + (L.drop (p + 1)).length ≤ 1000000 := by simp <;> omega
            go_wp2_with fail
            go_region_held3 (fun _ => True) (exact True.intro)
              (first
                | (refine step_old (by rfl) (.tmp 109) (.tmp 112) (by rfl) wd [] (L.take p) OA SL L1 ?_; intro v113 w113 h113 g113; rw [List.nil_append] at h113)
                | (refine step_old (by rfl) (.tmp 113) (.tmp 117) (by rfl) wd (L.take p) (L.drop (p + 1)) h113 SR L2 ?_; intro v118 w118 h118 g118))
            all_goals
              have HPE : Hid _ := FIN.out _ _ h118
              clear g113 g118 h113 h118 OA SL SR L1 L2 K0 HP9
              go_wp2
              go_roundw
              case rel => exact ⟨c + 1, _, vs8, by go_num, HLEN.out, l8, HPE.out, HD2.out⟩
              case measure => simp [intOf]; omega
          · have SL : SrcI (.slice (some ⟨g, 0, none⟩) p cp) (L.take p) wd := by
              have := SrcI.part HP9.out.own 0 p cp (by omega)
              simpa using this
            have SR : SrcI (.slice (some ⟨g, p + 1, none⟩) (m - p) (cp - (p + 1))) (L.drop (p + 1)) wd := by
              have := SrcI.part HP9.out.own (p + 1) (m - p) (cp - (p + 1)) (by omega)
              rw [List.take_of_length_le (by simp; omega)] at this
              exact this
            have K0 : Kept (fun _ => False) wd wd.drew := (Kept.refl _ wd).drew
            have OA : OwnI wd (.slice (some ⟨E, 0, none⟩) 0 0) [] (wd.alloc (.cells #[] 3)).drew := OwnI.made K0 hE
            have L1 : ([] : List Int).length + (L.take p).length ≤ 1000000 := by simp <;> omega
            have L2 : (L.take p).length + (L.drop (p + 1)).length ≤ 1000000 := by simp <;> omega
            go_wp2_with fail
            go_region_held3 (fun _ => True) (exact True.intro)
              (first
                | (refine step_old (by rfl) (.tmp 109) (.tmp 112) (by rfl) wd [] (L.take p) OA SL L1 ?_; intro v113 w113 h113 g113; rw [List.nil_append] at h113)
                | (refine step_old (by rfl) (.tmp 113) (.tmp 117) (by rfl) wd (L.take p) (L.drop (p + 1)) h113 SR L2 ?_; intro v118 w118 h118 g118))
            all_goals
              have HPE : Hid _ := FIN.out _ _ h118
              clear g113 g118 h113 h118 OA SL SR L1 L2 K0 HP9
              go_wp2
              go_roundw
              case rel => exact ⟨c + 1, _, vs8, by go_num, HLEN.out, l8, HPE.out, HD2.out⟩
              case measure => simp [intOf]; omega
      · skip
        as_aux_lemma =>
        obtain rfl : L = [] := List.eq_nil_of_length_eq_zero (by omega)
        have hq := lsOf_last (k := k) (a := a) (b := b) hak hbk
        have hform : ∃ ro rc, u13 = .slice ro 0 rc := by
          rcases HH.out.1.own.2 with ⟨e, _⟩ | ⟨g', cap', cur, e, _⟩
          · exact ⟨_, _, e⟩
          · exact ⟨_, _, e⟩
        obtain ⟨ro, rc, rfl⟩ := hform
        have G := own_g A B 13 vs (lsOf k a b []) a _ [] w2 wr (by omega) hq.1 hq.2 HH.out.1
        clear hq HW hwo
        go_wp2_with fail
        refine G.mono ?_
        rintro e w5 ⟨rfl, hL⟩
        obtain ⟨vs5, l5, P5⟩ := HH.out.1.left hL
        rw [hvl] at l5
        clear G hL HH
        obtain ⟨D, hD⟩ : ∃ D : Nat, w5.heap.size = D := ⟨_, rfl⟩
        have P6 := P5.still (w' := w5.alloc (.cells #[.int .i64 6, .int .i64 1000] 26)) ((Kept.refl _ _).alloc _)
        have LI := list_w B 13 vs5 _ a (by omega) (by omega) _ P6.room.held
        rw [lsOf_a hak hbk] at LI
        have x0 := cell_at P5.room.var (i := 0) rfl
        have x1 := cell_at P5.box (i := 0) rfl
        have tx0 : B + 2 < D := by have := lt_at P5.room.var; omega
        have tx1 : A < D := by omega
        simp only [stopV]
        go_wp2_with fail
        refine LI.mono ?_
        rintro e w7 ⟨v7, rfl, hO⟩
        have hf7 : ∃ ro rc, v7 = .slice ro 0 rc := by
          rcases hO.own.2 with ⟨e, _⟩ | ⟨g', cap', cur, e, _⟩
          · exact ⟨_, _, e⟩
          · exact ⟨_, _, e⟩
        obtain ⟨ro7, rc7, rfl⟩ := hf7
        have P7 := P6.still hO.kept
        have HOL := holds_w B 13 vs5 _ b (by omega) 1000 (by omega) w7 P7.room.held
        rw [lsOf_b hak hbk hab, show isIn [1000] 1000 = true from by decide] at HOL
        have y0 := cell_at P7.room.var (i := 0) rfl
        have HK : Hid _ := P7.room.kept
        clear LI hO P5 P6 P7 x0 x1 tx0 tx1
        go_wp2_with fail
        refine HOL.mono ?_
        rintro e w8 ⟨rfl, rfl⟩
        go_wp2_with fail
        refine (runs_w _).mono ?_
        rintro e w9 ⟨rfl, k9⟩
        have HK9 : Hid _ := HK.out.trans k9 (fun _ _ e => e)
        clear k9 HK HOL
        go_wp2
        go_ret
        exact ⟨rfl, HK9.out⟩
end Go.Proofs.Ytkmfeenooidbhaa
