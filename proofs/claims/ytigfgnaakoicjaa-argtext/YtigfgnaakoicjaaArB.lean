
/- Bytes, Text, Put of the code, through one view; no conditions but lengths and that an address is a Go int. -/
import Derived.Test.YtigfgnaakoicjaaArA
namespace Go.Proofs.Ytigfgnaakoicjaa
open Go.RowKit
set_option maxRecDepth 100000
set_option linter.unusedSimpArgs false

theorem ext_two (s : ByteArray) (a n : Nat) : (s.extract a s.size).extract 0 n = s.extract a (a + n) := by
  rw [extract_bs, extract_bs, extract_bs, bl_bs]
  congr 1
  rw [List.drop_zero, Nat.sub_zero, List.take_of_length_le (l := (bl s).drop a) (by rw [List.length_drop, bl_len]; omega), show a + n - a = n from by omega]

set_option maxHeartbeats 1000000 in
theorem abytes_w (q N p B : Nat) (f : StF) (g : VwF) (i a n : Int) (w : World) (h : ViewIn q N p g w) (hs : StoreIn p B f w) (hNB : N ≠ B) (hsz : (amV f g i).s.size ≤ 100000) (ha : a ≤ 9223372036854775807) :
    Calls Try.prog 8 #[.pointer (some ⟨q, 0, none⟩), .int .i64 i, .int .i64 a, .int .i64 n] w
      fun e w' => e = .returned (arR (arBy (amV f g i).s a n)) ∧ ViewIn q N p (amT g i) w' ∧ Kept (fun n => n = N) w w' := by
  go_enter Try.func8, Try.ntmps8
  go_wp2_with fail
  refine (amem_w i _).mono ?_
  rintro e w1 ⟨rfl, hk1⟩
  go_wp2_with fail
  refine (vget_w q N p B f g 12 i w1 (h.still hk1) (hs.still hk1) hNB).mono ?_
  rintro e w2 ⟨rfl, hv2, hk2⟩
  rw [show vgetF f g (12, i) = amV f g i from rfl]
  have HZ : Hid (ViewIn q N p (amT g i) w2 ∧ Kept (fun n => n = N) w w2) := ⟨hv2, (hk1.mono (fun _ _ e => e.elim)).trans hk2 (fun _ _ e => e)⟩
  have hf := field_str (amV f g i) w2
  clear hv2 hk2 hk1 h hs
  obtain ⟨x, hx⟩ : ∃ x, amV f g i = x := ⟨_, rfl⟩
  have HX : Hid (amV f g i = x) := hx
  rw [hx] at hsz hf ⊢
  clear hx
  go_wp2_with fail
  refine (aholds_w x.s a n (by omega) ha _).mono ?_
  rintro e w3 ⟨rfl, hw3⟩
  subst hw3
  clear hf
  cases hh : arH x.s.size a n with
  | false =>
    have HR : Hid (arR (arBy x.s a n) = .tuple #[.string ⟨#[]⟩, .bool false]) := by show _ = _; unfold arBy; rw [hh]; rfl
    clear hh ha hsz
    go_wp2
    exact bodyPost_ret (v := .tuple #[.string ⟨#[]⟩, .bool false]) (by simp [results, Try.results8, go_sem]) rfl ⟨by rw [HX.out, HR.out], HZ.out⟩
  | true =>
    have HR : Hid (arR (arBy x.s a n) = .tuple #[.string (x.s.extract a.toNat (a.toNat + n.toNat)), .bool true]) := by show _ = _; unfold arBy; rw [hh]; rfl
    obtain ⟨h1, h2, h3⟩ := arH_yes hh
    obtain ⟨j, rfl⟩ : ∃ j : Nat, a = j := ⟨a.toNat, by omega⟩
    obtain ⟨m, rfl⟩ : ∃ m : Nat, n = m := ⟨n.toNat, by omega⟩
    rw [Int.toNat_natCast, Int.toNat_natCast] at HR
    have e1 : (x.s.extract j x.s.size).extract 0 m = x.s.extract j (j + m) := ext_two _ _ _
    have e2 : (x.s.extract j x.s.size).size = x.s.size - j := by rw [ByteArray.size_extract]; omega
    have t1 : (j : Int) ≤ x.s.size := by omega
    have t2 : (m : Int) ≤ ((x.s.size - j : Nat) : Int) := by omega
    have HS : Hid ((x.s.extract j (j + m)).size ≤ 1000000) := by show _ ≤ _; rw [ByteArray.size_extract]; omega
    clear hh h1 h2 h3 ha
    go_wp2_with fail
    refine (clone_w _ HS.out _).mono ?_
    rintro e w4 ⟨rfl, hk4⟩
    have HY : Hid (ViewIn q N p (amT g i) w4 ∧ Kept (fun n => n = N) w w4) := ⟨HZ.out.1.still hk4, HZ.out.2.trans hk4 (fun _ _ e => e.elim)⟩
    go_wp2
    exact bodyPost_ret (v := .tuple #[.string (x.s.extract j (j + m)), .bool true]) (by simp [results, Try.results8, go_sem]) rfl ⟨by rw [HX.out, HR.out], HY.out⟩

set_option maxHeartbeats 1000000 in
theorem atext_w (q N p B : Nat) (f : StF) (g : VwF) (i a n : Int) (w : World) (h : ViewIn q N p g w) (hs : StoreIn p B f w) (hNB : N ≠ B) (hsz : (amV f g i).s.size ≤ 100000) (ha : a ≤ 9223372036854775807) :
    Calls Try.prog 7 #[.pointer (some ⟨q, 0, none⟩), .int .i64 i, .int .i64 a, .int .i64 n] w
      fun e w' => e = .returned (arR (arTx (amV f g i).s a n)) ∧ ViewIn q N p (amT g i) w' ∧ Kept (fun n => n = N) w w' := by
  go_enter Try.func7, Try.ntmps7
  go_wp2_with fail
  refine (amem_w i _).mono ?_
  rintro e w1 ⟨rfl, hk1⟩
  go_wp2_with fail
  refine (vget_w q N p B f g 12 i w1 (h.still hk1) (hs.still hk1) hNB).mono ?_
  rintro e w2 ⟨rfl, hv2, hk2⟩
  rw [show vgetF f g (12, i) = amV f g i from rfl]
  have HZ : Hid (ViewIn q N p (amT g i) w2 ∧ Kept (fun n => n = N) w w2) := ⟨hv2, (hk1.mono (fun _ _ e => e.elim)).trans hk2 (fun _ _ e => e)⟩
  have hf := field_str (amV f g i) w2
  clear hv2 hk2 hk1 h hs
  obtain ⟨x, hx⟩ : ∃ x, amV f g i = x := ⟨_, rfl⟩
  have HX : Hid (amV f g i = x) := hx
  rw [hx] at hsz hf ⊢
  clear hx
  go_wp2_with fail
  refine (aholds_w x.s a 1 (by omega) ha _).mono ?_
  rintro e w3 ⟨rfl, hw3⟩
  subst hw3
  clear hf
  have HN : Hid (¬ (arH x.s.size a 1 = true ∧ 0 ≤ arN x.s a ∧ arN x.s a ≤ n) → arR (arTx x.s a n) = .tuple #[.string ⟨#[]⟩, .bool false]) := by intro h; unfold arTx; rw [if_neg h]; rfl
  cases hh : arH x.s.size a 1 with
  | false =>
    have HR : Hid (arR (arTx x.s a n) = .tuple #[.string ⟨#[]⟩, .bool false]) := HN.out (by rw [hh]; simp)
    clear hh ha hsz HN
    go_wp2
    exact bodyPost_ret (v := .tuple #[.string ⟨#[]⟩, .bool false]) (by simp [results, Try.results7, go_sem]) rfl ⟨by rw [HX.out, HR.out], HZ.out⟩
  | true =>
    have HY1 : Hid (0 ≤ arN x.s a → arN x.s a ≤ n → arR (arTx x.s a n) = .tuple #[.string (x.s.extract a.toNat (a.toNat + (arN x.s a).toNat)), .bool true]) := by intro h1 h2; unfold arTx; rw [if_pos ⟨hh, h1, h2⟩]; rfl
    obtain ⟨h1, -, h3⟩ := arH_yes hh
    obtain ⟨j, rfl⟩ : ∃ j : Nat, a = j := ⟨a.toNat, by omega⟩
    rw [Int.toNat_natCast] at HY1
    have t1 : (j : Int) ≤ x.s.size := by omega
    have HK : Hid (arN x.s j < x.s.size - j ∨ arN x.s j = -1) := arN_lt (by omega)
    have ek : ∀ c : UInt8, c = 0 → Lib.indexByte (bl (x.s.extract j x.s.size)) c = arN x.s j := fun c hc => by
      subst hc
      unfold arN
      rw [bl_extract, Int.toNat_natCast, List.take_of_length_le (by rw [List.length_drop, bl_len]; omega)]
    have EK := ek (Int.toNat 0).toUInt8 (by decide)
    have HM : Hid (x.s.size ≤ 100000 ∧ j + 1 ≤ x.s.size) := ⟨hsz, by omega⟩
    clear hh h1 h3 ha hsz ek
    go_wp2_with fail
    refine (aidx_w _ 0 _).mono ?_
    rintro e w4 ⟨rfl, hw4⟩
    subst hw4
    rw [EK]
    clear EK
    obtain ⟨k, hk⟩ : ∃ k, arN x.s j = k := ⟨_, rfl⟩
    rw [hk] at HN HY1 HK ⊢
    clear hk
    by_cases b1 : k < 0
    · have HR : Hid (arR (arTx x.s j n) = .tuple #[.string ⟨#[]⟩, .bool false]) := HN.out (fun h => by omega)
      clear HN HY1 HK HM
      go_wp2
      exact bodyPost_ret (v := .tuple #[.string ⟨#[]⟩, .bool false]) (by simp [results, Try.results7, go_sem]) rfl ⟨by rw [HX.out, HR.out], HZ.out⟩
    · by_cases b2 : n < k
      · have HR : Hid (arR (arTx x.s j n) = .tuple #[.string ⟨#[]⟩, .bool false]) := HN.out (fun h => by omega)
        clear HN HY1 HK HM
        go_wp2
        exact bodyPost_ret (v := .tuple #[.string ⟨#[]⟩, .bool false]) (by simp [results, Try.results7, go_sem]) rfl ⟨by rw [HX.out, HR.out], HZ.out⟩
      · have HR := HY1.out (by omega) (by omega)
        have hkl : k < x.s.size - j := by rcases HK.out with h | h <;> omega
        have hm1 := HM.out.1
        have hm2 := HM.out.2
        clear HN HY1 HK HM
        obtain ⟨m, rfl⟩ : ∃ m : Nat, k = m := ⟨k.toNat, by omega⟩
        rw [Int.toNat_natCast] at HR
        have HR2 : Hid (arR (arTx x.s j n) = .tuple #[.string (x.s.extract j (j + m)), .bool true]) := HR
        have e1 : (x.s.extract j x.s.size).extract 0 m = x.s.extract j (j + m) := ext_two _ _ _
        have e2 : (x.s.extract j x.s.size).size = x.s.size - j := by rw [ByteArray.size_extract]; omega
        have t2 : (m : Int) ≤ ((x.s.size - j : Nat) : Int) := by omega
        have HS : Hid ((x.s.extract j (j + m)).size ≤ 1000000) := by show _ ≤ _; rw [ByteArray.size_extract]; omega
        clear HR hkl hm1 hm2 b1
        go_wp2_with fail
        refine (clone_w _ HS.out _).mono ?_
        rintro e w4 ⟨rfl, hk4⟩
        have HY : Hid (ViewIn q N p (amT g i) w4 ∧ Kept (fun n => n = N) w w4) := ⟨HZ.out.1.still hk4, HZ.out.2.trans hk4 (fun _ _ e => e.elim)⟩
        go_wp2
        exact bodyPost_ret (v := .tuple #[.string (x.s.extract j (j + m)), .bool true]) (by simp [results, Try.results7, go_sem]) rfl ⟨by rw [HX.out, HR2.out], HY.out⟩

theorem store_s (x : V) (t : ByteArray) {F : Nat} {wc : World} (hbF : wc.heap[F]? = some (.cells (vc x).toArray 41 (0, 0))) :
    (wc.setCell ⟨F, 16, none⟩ (.string t)).heap[F]? = some (.cells (vc (withS x t)).toArray 41 (0, 0)) ∧ Kept (fun n => n = F) wc (wc.setCell ⟨F, 16, none⟩ (.string t)) := by
  refine ⟨by rw [set_at hbF]; rfl, ?_⟩
  refine Kept.setCell (Kept.refl _ _) ?_ _
  intro _; rfl

set_option maxHeartbeats 1000000 in
theorem aput_w (q N p B : Nat) (f : StF) (g : VwF) (i a : Int) (d : ByteArray) (w : World) (h : ViewIn q N p g w) (hs : StoreIn p B f w) (hNB : N ≠ B) (hsz : (amV f g i).s.size ≤ 100000) (ha : a ≤ 9223372036854775807) :
    Calls Try.prog 6 #[.pointer (some ⟨q, 0, none⟩), .int .i64 i, .int .i64 a, .string d] w
      fun e w' => e = .returned (.bool (arH (amV f g i).s.size a d.size)) ∧ ViewIn q N p (arPT f g i a d) w' ∧ Kept (fun n => n = N) w w' := by
  have hN : N < w.heap.size := h.map.lt
  have hq : q < w.heap.size := lt_at h.cell
  go_enter Try.func6, Try.ntmps6
  go_wp2_with fail
  refine (amem_w i _).mono ?_
  rintro e w1 ⟨rfl, hk1⟩
  go_wp2_with fail
  refine (vget_w q N p B f g 12 i w1 (h.still hk1) (hs.still hk1) hNB).mono ?_
  rintro e w2 ⟨rfl, hv2, hk2⟩
  rw [show vgetF f g (12, i) = amV f g i from rfl]
  have K2 : Kept (fun n => n = N) w w2 := (hk1.mono (fun _ _ e => e.elim)).trans hk2 (fun _ _ e => e)
  obtain ⟨F, hF⟩ : ∃ F : Nat, w2.heap.size = F := ⟨_, rfl⟩
  have lF : w.heap.size ≤ F := by have := K2.size; omega
  obtain ⟨x, hx⟩ : ∃ x, amV f g i = x := ⟨_, rfl⟩
  have HX : Hid (amV f g i = x) := hx
  rw [hx] at hsz ⊢
  clear hx
  obtain ⟨w3, h3⟩ : ∃ w3, w2.alloc (.cells (vc x).toArray 41) = w3 := ⟨_, rfl⟩
  have hb3 : w3.heap[F]? = some (.cells (vc x).toArray 41 (0, 0)) := by subst h3; exact alloc_at' _ hF
  have k23 : Kept (fun _ => False) w2 w3 := by subst h3; exact (Kept.refl _ _).alloc _
  have c16 : w3.cell? ⟨F, 16, none⟩ = some (.string x.s) := cell_at hb3 rfl
  have hv3 : ViewIn q N p (amT g i) w3 := hv2.still k23
  have K3 : Kept (fun n => n = N) w w3 := K2.trans k23 (fun _ _ e => e.elim)
  clear hv2 hk2 hk1 K2 k23 h hs
  go_wp2_with (first | (refine list_wnew rfl wide_V _ _ rfl F rfl (vc x) rfl _ rfl hF rfl (vc_one _) ?_))
  refine (aholds_w x.s a d.size (by omega) ha _).mono ?_
  rintro e wx ⟨rfl, hw4⟩
  try rw [h3] at hw4
  rw [hw4]
  clear hw4 h3 wx
  cases hh : arH x.s.size a d.size with
  | false =>
    have HR : Hid (arH (amV f g i).s.size a d.size = false ∧ arPT f g i a d = amT g i) := by refine ⟨?_, ?_⟩; (rw [HX.out]; exact hh); (unfold arPT; rw [HX.out, hh, if_neg (by simp)])
    have HZ : Hid (ViewIn q N p (arPT f g i a d) w3 ∧ Kept (fun n => n = N) w w3) := ⟨by rw [HR.out.2]; exact hv3, K3⟩
    clear hh hv3 K3 c16 hb3
    go_wp2
    exact bodyPost_ret (v := .bool false) (by simp [results, Try.results6, go_sem]) rfl ⟨by rw [HR.out.1], HZ.out⟩
  | true =>
    obtain ⟨h1, -, h3'⟩ := arH_yes hh
    obtain ⟨j, rfl⟩ : ∃ j : Nat, a = j := ⟨a.toNat, by omega⟩
    have HR : Hid (arH (amV f g i).s.size j d.size = true ∧ arPT f g i j d = vputT (amT g i) (12, i) (withS x (arOv x.s j d))) := by refine ⟨?_, ?_⟩; (rw [HX.out]; exact hh); (unfold arPT; rw [HX.out, hh, if_pos rfl, Int.toNat_natCast])
    obtain ⟨c, w4, hcv, hr4, k4, hc⟩ := bytes_of x.s w3
    obtain ⟨G, hG⟩ : ∃ G : Nat, w3.heap.size = G := ⟨_, rfl⟩
    rw [hG] at hcv hr4
    have lG : F < G := by have := lt_at hb3; omega
    clear hh ha h1
    have hv4 : ViewIn q N p (amT g i) w4 := hv3.still k4
    have K4 : Kept (fun n => n = N) w w4 := K3.trans k4 (fun _ _ e => e.elim)
    have hb4 := k4.at hb3 (fun x => x)
    have HO : Hid ((bl x.s).take j ++ bl d ++ (bl x.s).drop (j + d.size) = bl (arOv x.s j d)) := rfl
    have hds : j + d.size ≤ (bl x.s).length := by rw [bl_len]; omega
    have hdn : d.size ≤ x.s.size - j := by omega
    have t1 : (j : Int) ≤ x.s.size := by omega
    have t2 : j ≤ x.s.size := by omega
    have HS : Hid ((bl (arOv x.s j d)).length = x.s.size) := by show _ = _; rw [bl_len, arOv_size (by omega)]
    have hcc : (x.s.size : Int) ≤ c := by omega
    clear hv3 K3 k4 hb3 h3' hsz
    go_upto_region 5 with fail
    clear hcv c16
    go_cut [10] from 25 to 30 (fun v wx => v = .slice (some ⟨G, 0, none⟩) x.s.size c ∧ Hid (RowC G (bl (arOv x.s j d)) wx ∧ Kept (fun k => k = G) w4 wx))
    case first =>
      by_cases hLo : c = j
      · obtain ⟨m7, w7, hc7, hr7, k7⟩ := copy_fr hr4 3 0 (x.s.size - j) 0 d (by omega) (by omega)
        have hz : d.size = 0 := by omega
        have HR7 : Hid (RowC G (bl (arOv x.s j d)) w7 ∧ Kept (fun k => k = G) w4 w7) := by
          refine ⟨?_, k7⟩
          have e2 : bl d = [] := List.eq_nil_of_length_eq_zero (by rw [bl_len]; exact hz)
          have e3 : bl (arOv x.s j d) = List.take 0 (bl x.s) ++ bl d ++ List.drop (0 + d.size) (bl x.s) := by
            rw [← HO.out, e2, hz]; simp
          rw [e3]; exact hr7
        have hxj : x.s.size = j := by omega
        have hj0 : (x.s.size - j) = 0 := by omega
        rw [hj0] at hc7
        subst hLo
        clear hr7 k7 HO hr4 hz hds hdn hj0
        go_wp2
        go_meet
        case rel => exact ⟨rfl, HR7.out⟩
      · obtain ⟨m7, w7, hc7, hr7, k7⟩ := copy_fr hr4 3 j (x.s.size - j) (c - j) d hds hdn
        have HR7 : Hid (RowC G (bl (arOv x.s j d)) w7 ∧ Kept (fun k => k = G) w4 w7) := by
          refine ⟨?_, k7⟩
          rw [← HO.out]; exact hr7
        have hLo2 : ¬ c - j = 0 := by omega
        clear hr7 k7 HO hr4 hds hdn
        go_wp2
        go_meet
        case rel => exact ⟨rfl, HR7.out⟩
    case rest =>
      obtain ⟨rfl, HC⟩ := hcut
      obtain ⟨y, hy⟩ : ∃ y, arOv x.s j d = y := ⟨_, rfl⟩
      rw [hy] at HC HR HS
      clear hy HO hr4
      have hcv := rowc_text HC.out.1 c
      rw [bs_bl, HS.out] at hcv
      have hbF := HC.out.2.at hb4 (show ¬ F = G by omega)
      have hvc : ViewIn q N p (amT g i) wc := hv4.kept HC.out.2 (by omega) (by omega)
      have hKc : Kept (fun n => n = N) w wc := K4.trans HC.out.2 (fun k h1 h2 => by omega)
      have e16 : wc.cell? ⟨F, 16, none⟩ = some (.string x.s) := cell_at hbF rfl
      have f16 := free_at hbF 16
      obtain ⟨hb8, k8⟩ := store_s x y hbF
      have hv8 := hvc.kept k8 (by omega) (by omega)
      have hK8 : Kept (fun n => n = N) w (wc.setCell ⟨F, 16, none⟩ (.string y)) := hKc.trans k8 (fun k h1 h2 => by omega)
      clear HC hb4 hv4 K4 hbF hvc hKc k8 t1 t2 hds hdn hcc HS
      go_wp2_with fail
      clear hcv e16 f16
      generalize wc.setCell ⟨F, 16, none⟩ (.string y) = w8 at *
      have KS : ∀ w', Kept (fun n => n = N) w8 w' → True := fun _ _ => trivial
      have KV : ∀ w', Kept (fun n => n = N) w8 w' → w'.rangeAt F 0 (vc (withS x y)) := fun w' hk' => range_kept (whole_range hb8) hk' (by omega)
      refine wp_region_held_drew (S := fun w' => Kept (fun n => n = N) w8 w') (by kernel_rfl) ((Kept.refl _ _).drew) (fun hHeld => ?_)
      refine h_take 0 (some 33) (Op.move (Operand.tmp 0)) 26 ?v1 rfl rfl (by kernel_rfl) (by kernel_rfl) (by kernel_rfl) (fun _ _ _ h => h) ?hy1 hHeld ?_
      case hy1 => (intro _ _ _ w hSw; have hcs := KS _ hSw; go_simp; try with_reducible rfl)
      simp only [Act.put, List.setIfInBounds_toArray, List.set_cons_zero, List.set_cons_succ]
      refine h_take 1 (some 34) (Op.move (Operand.tmp 1)) 3 ?v2 rfl rfl (by kernel_rfl) (by kernel_rfl) (by kernel_rfl) (fun _ _ _ h => h) ?hy2 hHeld ?_
      case hy2 => (intro _ _ _ w hSw; have hcs := KS _ hSw; go_simp; try with_reducible rfl)
      simp only [Act.put, List.setIfInBounds_toArray, List.set_cons_zero, List.set_cons_succ]
      refine h_take 3 (some 36) (Op.load 41 (Operand.tmp 9)) 41 (vv (withS x y)) rfl rfl (by kernel_rfl) (by kernel_rfl) (by kernel_rfl) (fun _ _ _ h => h) (fun _ _ _ w hSw => exec_load rfl (load_wide wide_V (KV w hSw) rfl)) hHeld ?_
      simp only [Act.put, List.setIfInBounds_toArray, List.set_cons_zero, List.set_cons_succ]
      refine h_step 2 (some 35) (Op.call { callee := Callee.value (Operand.func 13), args := #[Operand.tmp 34], argTypes := #[3] }) 44 rfl rfl (by kernel_rfl) (fun _ _ _ K hK => ?_)
      go_simp
      refine (amem_w i _).mono ?_
      rintro e w5 ⟨rfl, hk5⟩
      replace hk5 : Kept (fun _ => False) w8 w5 := (Kept.refl _ w8).drew.thru hk5
      go_wp2_with fail
      refine hK.out _ _ (hk5.mono (fun _ _ e => e.elim)) (fun hHeld => ?_)
      clear hK K
      try simp only [Act.put, List.setIfInBounds_toArray, List.set_cons_zero, List.set_cons_succ]
      refine h_step 4 (some 37) (Op.call { callee := Callee.value (Operand.func 15), args := #[Operand.tmp 33, Operand.tmp 35, Operand.tmp 36], argTypes := #[26, 44, 41] }) 0 rfl rfl (by kernel_rfl) (fun _ _ _ K hK => ?_)
      go_simp
      refine (vput_w q N p (amT g i) 12 i (withS x y) w5 (hv8.still hk5)).mono ?_
      rintro e wz ⟨rfl, hvz, hkz⟩
      replace hkz : Kept (fun n => n = N) w8 wz := (hk5.mono (fun _ _ e => e.elim)).trans hkz (fun _ _ e => e)
      go_wp2_with fail
      refine hK.out _ _ (hkz) (fun hHeld => ?_)
      clear hK K
      try simp only [Act.put, List.setIfInBounds_toArray, List.set_cons_zero, List.set_cons_succ]
      refine wpAnyH_done (by kernel_rfl) ?_ _
      have hKz : Kept (fun n => n = N) w wz := hK8.trans hkz (fun _ _ e => e)
      have HZ : Hid (ViewIn q N p (arPT f g i j d) wz) := by show ViewIn _ _ _ _ _; rw [HR.out.2]; exact hvz
      clear hHeld KS KV hk5 hv8 hK8 hkz hvz hb8
      go_wp2_with fail
      exact bodyPost_ret (v := .bool true) (by simp [results, Try.results6, go_sem]) rfl ⟨by rw [HR.out.1], HZ.out, hKz⟩
end Go.Proofs.Ytigfgnaakoicjaa
