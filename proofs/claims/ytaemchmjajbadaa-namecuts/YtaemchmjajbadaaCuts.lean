/- No name that Split tells has a slash or a nought, or is too long; put together again they are no longer than the path; no conditions but those of a byte. -/
import Derived.Test.YtaemchmjajbadaaRuns
import Derived.Test.YtaemchmjajbadaaWithin
import Derived.Deep.CutBlock
namespace Go.Proofs.Ytaemchmjajbadaa
open Go.RowKit

/-- The bytes l stand at the head of block D. -/
def BytesIn (D : Nat) (l : Bs) (w : World) : Prop := D < w.heap.size ∧ ∀ i u, l[i]? = some u → w.cell? ⟨D, i, none⟩ = some (.int .u8 u.toNat)

theorem BytesIn.still {D : Nat} {l : Bs} {w w' : World} (h : BytesIn D l w) (hk : Kept (fun _ => False) w w') : BytesIn D l w' :=
  ⟨Nat.lt_of_lt_of_le h.1 hk.size, fun i u hu => hk.cell (h.2 i u hu) (fun e => e)⟩

theorem BytesIn.text {D : Nat} {l : Bs} {w : World} (h : BytesIn D l w) (c : Nat) : (convert 35 9 (.slice (some ⟨D, 0, none⟩) l.length c)).run Try.prog w = .ok (.string (bs l)) w :=
  run_convert_bytes_back (P := Try.prog) w 35 9 5 ⟨D, 0, none⟩ c l Try.underlying35 Try.underlying5 Try.underlying9 (fun j hj => by
    rw [Addr.add_lit, Nat.zero_add]
    exact h.2 j _ (List.getElem?_eq_getElem hj))

theorem BytesIn.set {D : Nat} {l : Bs} {w : World} (h : BytesIn D l w) (j : Nat) (x : Int) (h0 : 0 ≤ x) (h1 : x < 256) : BytesIn D (l.set j (UInt8.ofNat x.toNat)) (w.setCell ⟨D, j, none⟩ (.int .u8 x)) := by
  refine ⟨by simpa [World.setCell] using h.1, fun i u hu => ?_⟩
  by_cases hij : i = j
  · subst hij
    have hlt : i < l.length := by
      have := (List.getElem?_eq_some_iff.1 hu).1
      simpa using this
    rw [List.getElem?_set_self hlt] at hu
    cases hu
    have hc := h.2 i _ (List.getElem?_eq_getElem hlt)
    rw [World.cell?_setCell_same _ _ _ hc]
    rw [UInt8.toNat_ofNat']
    congr 2
    omega
  · rw [List.getElem?_set_ne (fun e => hij e.symm)] at hu
    rw [World.cell?_setCell_other _ _ _ _ (by intro e; exact hij (by simpa using e.symm))]
    exact h.2 i u hu

/-- '[]byte(s)'. -/
theorem bytes_new (s : ByteArray) (w : World) : ∃ c w', (convert 9 35 (.string s)).run Try.prog w = .ok (.slice (some ⟨w.heap.size, 0, none⟩) s.size c) w' ∧ BytesIn w.heap.size (bl s) w' ∧ Kept (fun _ => False) w w' ∧ ∀ i, i < s.size → w'.frozen? ⟨w.heap.size, i, none⟩ = false := by
  obtain ⟨c, hc⟩ : ∃ c, grownCap w s.size 0 5 = c := ⟨_, rfl⟩
  have hr := run_bytes_of_string (P := Try.prog) w 9 35 5 s Try.underlying9 Try.underlying35 Try.underlying5
  rw [hc] at hr
  have hb := alloc_at' (w := w.drew) (.cells (bytesRow s c) 5 ((bytesRow s c).size, (bytesRow s c).size + 1)) (n := w.heap.size) rfl
  have hsz : s.size ≤ (bytesRow s c).size := by
    unfold bytesRow
    simp
  refine ⟨c, _, hr, ⟨by simp, fun i u hu => ?_⟩, ((Kept.refl _ w).drew).alloc _, fun i hi => ?_⟩
  · have hlt : i < s.size := by
      have := (List.getElem?_eq_some_iff.1 hu).1
      rwa [bl_len] at this
    have hy : (bytesRow s c)[i]? = some (.int .u8 u.toNat) := by
      unfold bytesRow
      rw [Array.getElem?_append_left (by simpa using hlt)]
      rw [Array.getElem?_map, ← Array.getElem?_toList]
      show Option.map _ (bl s)[i]? = _
      rw [hu]; rfl
    simp only [World.cell?, hb]
    exact hy
  · simp only [World.frozen?, hb]
    simp
    omega

def sumF : List Bs → Nat
  | [] => 0
  | x :: xs => x.length + sumF xs
theorem sum_app (a b : List Bs) : sumF (a ++ b) = sumF a + sumF b := by
  induction a with
  | nil => simp [sumF]
  | cons x a ih => simp [sumF, ih]; omega
theorem sum_one (s : Bs) : sumF (oneF s) = s.length := by
  unfold oneF
  split <;> simp_all [sumF]
theorem sum_cut (l s : Bs) : sumF (cutF l s) + l.count 47 = l.length + s.length := by
  induction l generalizing s with
  | nil => rw [cut_nil, sum_one]; simp
  | cons x l ih =>
    by_cases h : x = 47
    · subst h
      rw [cut_slash, sum_app, sum_one]
      have := ih []
      simp at this ⊢
      omega
    · rw [cut_other h]
      have := ih (s ++ [x])
      rw [List.count_cons_of_ne h]
      simp at this ⊢
      omega
theorem sum_step {l : List Bs} {i : Nat} (h : i < l.length) : sumF (l.take (i + 1)) = sumF (l.take i) + (sd l i).length := by
  rw [List.take_add_one, sd_get h, sum_app]
  simp [sumF]
theorem sum_take (l : List Bs) (i : Nat) : sumF (l.take i) ≤ sumF l := by
  have h : sumF (l.take i ++ l.drop i) = sumF l := by rw [List.take_append_drop]
  rw [sum_app] at h
  omega
theorem count_step {l : Bs} {i : Nat} {x : UInt8} (h : l[i]? = some x) : (l.take (i + 1)).count 47 = (l.take i).count 47 + if x = 47 then 1 else 0 := by
  rw [List.take_add_one, h, List.count_append]
  simp [List.count_singleton]
theorem count_take (l : Bs) (i : Nat) : (l.take i).count 47 ≤ l.count 47 := (List.take_sublist i l).count_le 47
theorem sum_le {l : List Bs} (h : ∀ x ∈ l, rightF x = true) : sumF l ≤ 14 * l.length := by
  induction l with
  | nil => simp [sumF]
  | cons x l ih =>
    have h1 := (right_iff.1 (h x (by simp))).2.1
    have h2 := ih (fun y hy => h y (by simp [hy]))
    simp [sumF]; omega

set_option maxHeartbeats 4000000 in
theorem cuts_w (s : ByteArray) (a x : Int) (w : World) (x0 : 0 ≤ x) (x1 : x < 256) : Calls Try.prog 7 #[.string s, .int .i64 a, .int .u8 x] w fun r w' => r = .returned (.bool true) ∧ Kept (fun _ => False) w w' := by
  obtain ⟨m, hm, hm1, hm2⟩ : ∃ m : Nat, (if (64 : Int) < s.size then 64 else (s.size : Int)) = m ∧ m ≤ s.size ∧ m ≤ 64 := by
    by_cases h : (64 : Int) < s.size
    · exact ⟨64, by rw [if_pos h]; rfl, by omega, by omega⟩
    · exact ⟨s.size, by rw [if_neg h], by omega, by omega⟩
  obtain ⟨t, ht⟩ : ∃ t, s.extract 0 m = t := ⟨_, rfl⟩
  have hts : t.size ≤ 64 := by rw [← bl_len, ← ht, bl_extract, List.length_take]; omega
  have t1 : (m : Int) ≤ s.size := by omega
  obtain ⟨c, w1, hcv, hb, hk1, hf⟩ := bytes_new t w
  obtain ⟨D, hD⟩ : ∃ D, w.heap.size = D := ⟨_, rfl⟩
  rw [hD] at hcv hb hf
  have HX : Hid (0 ≤ x ∧ x < 256) := ⟨x0, x1⟩
  have HB : Hid (BytesIn D (bl t) w1 ∧ Kept (fun _ => False) w w1 ∧ (w.heap.size = D)) := ⟨hb, hk1, hD⟩
  clear hm1 hm2 hb hk1 hD x0 x1
  go_enter Try.func7, Try.ntmps7
  go_upto_if 25 with fail
  go_cut [7] from 23 to 33 (fun v wr => v = .slice (some ⟨D, 0, none⟩) t.size c ∧ ∃ L : Bs, Hid (L.length = t.size ∧ BytesIn D L wr ∧ Kept (fun _ => False) w wr))
  case first =>
    by_cases h0 : 0 < t.size
    · have t2 : (0 : Int) < t.size := by omega
      obtain ⟨j, hj⟩ : ∃ j : Nat, a % (t.size : Int) = j := ⟨(a % (t.size : Int)).toNat, by have := Int.emod_nonneg a (b := (t.size : Int)) (by omega); omega⟩
      have hjl : j < t.size := by have := Int.emod_lt_of_pos a t2; omega
      have W1 := within_any a 0 ((t.size : Int) - 1) (by omega) (by omega) (by omega)
      rw [show (0 : Int) + a % ((t.size : Int) - 1 - 0 + 1) = j by rw [show (t.size : Int) - 1 - 0 + 1 = t.size by omega, hj]; omega] at W1
      have hfj := hf j hjl
      have cj := HB.out.1.2 j _ (List.getElem?_eq_getElem (by rw [bl_len]; exact hjl))
      have HN : Hid (∃ L : Bs, Hid (L.length = t.size ∧ BytesIn D L (w1.setCell ⟨D, j, none⟩ (.int .u8 x)) ∧ Kept (fun _ => False) w (w1.setCell ⟨D, j, none⟩ (.int .u8 x)))) := by
        refine ⟨(bl t).set j (UInt8.ofNat x.toNat), by rw [List.length_set, bl_len], HB.out.1.set j x HX.out.1 HX.out.2, Kept.setCell HB.out.2.1 ?_ _⟩
        intro h
        have := HB.out.2.2
        have h2 : D < w.heap.size := h
        omega
      clear hf HB hj HX
      go_wp2_with fail
      refine (W1 _).mono ?_
      rintro r w2 ⟨rfl, hw⟩
      have hw' := hw.symm
      subst hw'
      go_wp2
      go_meet
      case rel => exact ⟨rfl, HN.out⟩
    · have t2 : ¬ (0 : Int) < t.size := by omega
      go_wp2
      go_meet
      case rel => exact ⟨rfl, bl t, bl_len t, HB.out.1, HB.out.2.1⟩
  case rest =>
    obtain ⟨rfl, L, HL⟩ := hcut
    have hLn : L.length = t.size := HL.out.1
    clear hf hcv ht hm HX HB
    generalize t.size = n at *
    subst hLn
    have hcv := HL.out.2.1.text c
    have S1 := split_w (bs L) (by rw [bs_size]; omega)
    rw [bl_bs] at S1
    cases hok : okF L with
    | false =>
      rw [hok, (names_no hok).1, (names_no hok).2] at S1
      clear hok
      go_wp2_with fail
      refine (S1 _).mono ?_
      rintro r w2 ⟨v, rfl, O⟩
      obtain ⟨ao, cv, rfl⟩ := O.form
      have HK : Hid (Kept (fun _ => False) w w2) := HL.out.2.2.thru O.kept
      clear O
      go_wp2_with fail
      refine (runs_w _).mono ?_
      rintro r w3 ⟨rfl, k3⟩
      go_wp2
      go_ret
      exact ⟨rfl, HK.out.thru k3⟩
    | true =>
      rw [hok, (names_yes hok).1, (names_yes hok).2] at S1
      obtain ⟨ns, hns⟩ : ∃ ns, cutF L [] = ns := ⟨_, rfl⟩
      have HF : Hid (sumF ns + L.count 47 = L.length ∧ (∀ y ∈ ns, rightF y = true) ∧ ns.length ≤ L.length + 1 ∧ 1 ≤ L.length) := by
        have a := sum_cut L []
        have b := ok_len hok
        have d := cut_len L []
        rw [hns] at a b d
        exact ⟨by simpa using a, b.2.2, d, b.1⟩
      rw [hns] at S1
      clear hok hns
      go_wp2_with fail
      refine (S1 _).mono ?_
      rintro r w2 ⟨v, rfl, O⟩
      have X := O.src
      have HK : Hid (Kept (fun _ => False) w w2) := HL.out.2.2.thru O.kept
      have HB : Hid (BytesIn D L w2) := HL.out.2.1.still O.kept
      obtain ⟨ao, b, o, cv, rfl, hao, hcell⟩ := X.form
      have HC : Hid _ := hcell
      clear O X hcell HL S1 hcv
      go_wp2_with fail
      have hnl : ns.length ≤ 65 := by have := HF.out.2.2.1; omega
      go_loop [11, 55] (fun x y => ∃ i : Nat, x = .int .i64 (sumF (ns.take i)) ∧ y = .int .i64 i ∧ i ≤ ns.length) (fun _ y => ns.length + 1 - (intOf y).toNat)
      case atStart => exact ⟨0, rfl, rfl, Nat.zero_le _⟩
      case round =>
        obtain ⟨i, rfl, rfl, hi⟩ := hrel
        by_cases hlt : i < ns.length
        · have t2 : (i : Int) < ns.length := by omega
          have c1 := HC.out i hlt
          obtain rfl := hao (by omega)
          have hst := sum_step hlt
          have hbd := sum_take ns (i + 1)
          obtain ⟨y, hy⟩ : ∃ y, bs (sd ns i) = y := ⟨_, rfl⟩
          have hys : (sd ns i).length = y.size := by rw [← hy, bs_size]
          have hr : rightF (bl y) = true := by rw [← hy, bl_bs]; exact HF.out.2.1 _ (List.mem_of_getElem? (sd_get hlt))
          have hr3 : (y.size : Int) ≤ 14 := by
            have := (right_iff.1 hr).2.1
            rw [bl_len] at this; omega
          have R1 := right_w y (by omega)
          rw [hr] at R1
          rw [hy] at c1
          have HN : Hid ((sumF (ns.take i) : Int) + y.size = sumF (ns.take (i + 1)) ∧ sumF (ns.take (i + 1)) ≤ 64) := ⟨by rw [hst, hys]; omega, by have := HF.out.1; omega⟩
          have hsm : (sumF (ns.take i) : Int) ≤ 64 := by have := HN.out; omega
          clear hst hbd hy hys hr
          go_wp2_with fail
          refine (R1 _).mono ?_
          rintro r w3 ⟨rfl, rfl⟩
          go_wp2
          go_round
          case rel => exact ⟨i + 1, by rw [← HN.out.1], by simp, by omega⟩
          case measure => simp [intOf]; omega
        · have t2 : ¬ (i : Int) < ns.length := by omega
          have hall : ns.take i = ns := List.take_of_length_le (by omega)
          rw [hall]
          clear hall HC hao
          obtain ⟨x0, hx0⟩ : ∃ x0, L[0]? = some x0 := ⟨_, List.getElem?_eq_getElem (by have := HF.out.2.2.2; omega)⟩
          rw [hx0]
          have HS : Hid ((sumF ns : Int) + (L.count 47 : Nat) = (L.length : Int)) := by
            have := HF.out.1
            show _ = _
            omega
          have hs64 : (sumF ns : Int) ≤ 64 := by have := HF.out.1; omega
          have hlen0 : (0 : Int) < L.length := by have := HF.out.2.2.2; omega
          clear HF
          go_wp2_with fail
          go_loop [14, 74] (fun x y => ∃ i : Nat, x = .int .i64 ((L.take i).count 47 : Nat) ∧ y = .int .i64 i ∧ i ≤ L.length) (fun _ y => L.length + 1 - (intOf y).toNat)
          case atStart => exact ⟨0, rfl, rfl, Nat.zero_le _⟩
          case round =>
            obtain ⟨i2, rfl, rfl, hi2⟩ := hrel
            by_cases hlt2 : i2 < L.length
            · have t3 : (i2 : Int) < L.length := by omega
              obtain ⟨z, hz⟩ : ∃ z, L[i2]? = some z := ⟨_, List.getElem?_eq_getElem hlt2⟩
              have c1 := HB.out.2 i2 z hz
              have hst := count_step hz
              have hbd := count_take L i2
              have hb2 := List.count_le_length (a := (47 : UInt8)) (l := L)
              have hc64 : (((L.take i2).count 47 : Nat) : Int) ≤ 64 := by omega
              have b1 := byte_eq z 47 47 rfl
              by_cases hz47 : z = 47
              · rw [if_pos hz47] at hst
                rw [decide_eq_true hz47] at b1
                have HN : Hid ((((L.take i2).count 47 : Nat) : Int) + 1 = ((L.take (i2 + 1)).count 47 : Nat)) := by show _ = _; omega
                clear hst hbd hb2 hz47 hz
                go_wp2
                go_round
                case rel => exact ⟨i2 + 1, by rw [← HN.out], by simp, by omega⟩
                case measure => simp [intOf]; omega
              · rw [if_neg hz47] at hst
                rw [decide_eq_false hz47] at b1
                have HN : Hid ((((L.take i2).count 47 : Nat) : Int) = ((L.take (i2 + 1)).count 47 : Nat)) := by show _ = _; omega
                clear hst hbd hb2 hz47 hz
                go_wp2
                go_round
                case rel => exact ⟨i2 + 1, by rw [← HN.out], by simp, by omega⟩
                case measure => simp [intOf]; omega
            · have t3 : ¬ (i2 : Int) < L.length := by omega
              have hall : L.take i2 = L := List.take_of_length_le (by omega)
              rw [hall]
              have hb2 := List.count_le_length (a := (47 : UInt8)) (l := L)
              have hc64 : ((L.count 47 : Nat) : Int) ≤ 64 := by omega
              have c1 := HB.out.2 0 x0 hx0
              have b1 := byte_eq x0 47 47 rfl
              have hsum : (((sumF ns : Int) + (L.count 47 : Nat)) == (L.length : Int)) = true := by rw [HS.out]; simp
              clear hall hx0 hb2
              generalize decide (x0 = 47) = ab at *
              go_wp2_with fail
              refine (runs_w _).mono ?_
              rintro r w3 ⟨rfl, k3⟩
              go_wp2
              go_ret
              exact ⟨rfl, HK.out.thru k3⟩
end Go.Proofs.Ytaemchmjajbadaa
