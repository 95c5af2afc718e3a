/- The statement on mail; no conditions. -/
import Derived.Test.YtckbimgoepcoaaaNests
import Derived.Deep.CutBlock
namespace Go.Proofs.Ytckbimgoepcoaaa
open Go.RowKit

theorem mleast_eq {c j : Nat} (hj : j < 8) (h1 : ∀ i, i < j → mhas c i = false) (h2 : mhas c j = true) : mleast c = j := by
  unfold mleast
  rcases (show j = 0 ∨ j = 1 ∨ j = 2 ∨ j = 3 ∨ j = 4 ∨ j = 5 ∨ j = 6 ∨ j = 7 by omega) with rfl | rfl | rfl | rfl | rfl | rfl | rfl | rfl <;> simp [h1, h2]

theorem mail_zero {c : Nat} (hc : c < 256) (h : ∀ i, i < 8 → mhas c i = false) : c = 0 := by
  apply Nat.eq_of_testBit_eq
  intro i
  by_cases hi : i < 8
  · rw [Nat.zero_testBit]; exact h i hi
  · rw [Nat.zero_testBit]
    exact Nat.testBit_lt_two_pow (Nat.lt_of_lt_of_le (show c < 2 ^ 8 from hc) (Nat.pow_le_pow_right (by omega) (by omega)))

theorem mhas_zero (i : Nat) : mhas 0 i = false := Nat.zero_testBit i

/-- A mailbox as eight bools. -/
def boxL (m : Nat) : List Value := (List.range 8).map fun i => .bool (mhas m i)

theorem boxL_get {m i : Nat} (hi : i < 8) : (boxL m)[i]? = some (.bool (mhas m i)) := by simp [boxL, hi]

theorem boxL_set {m k : Nat} : (boxL m).set k (.bool true) = boxL (mset m k) := by
  apply List.ext_getElem
  · simp [boxL]
  · intro i h1 h2
    simp only [boxL, List.getElem_set, List.getElem_map, List.getElem_range, mset_has]
    by_cases e : k = i
    · simp [e]
    · simp [e]

/-- New harts, but for one flag and one mailbox. -/
def sm (k a : Nat) (x : Bool) (c : Nat) : List H := (fresh k).set a ⟨x, 0, c⟩

theorem sm_length (k a : Nat) (x : Bool) (c : Nat) : (sm k a x c).length = k := by simp [sm, fresh_length]
theorem sm_hd {k a : Nat} (ha : a < k) (x : Bool) (c : Nat) : hd (sm k a x c) a = ⟨x, 0, c⟩ := by
  rw [sm, hd_set _ _ _ _ (by rw [fresh_length]; exact ha), if_pos rfl]
theorem sm_off {k a i : Nat} (ha : a < k) (hi : i < k) (hne : a ≠ i) (x : Bool) (c : Nat) : hd (sm k a x c) i = ⟨true, 0, 0⟩ := by
  rw [sm, hd_set _ _ _ _ (by rw [fresh_length]; exact ha), if_neg hne, hd_fresh k i hi]
theorem sm_set {k a : Nat} (x : Bool) (c d : Nat) : (sm k a x c).set a ⟨x, 0, d⟩ = sm k a x d := by simp [sm]

/-- What the statement has made: the harts, and what was posted. -/
structure MailIn (B D : Nat) (hs : List H) (m : Nat) (w0 w : World) : Prop where
  harts : HartsIn (B + 1) B hs w
  box : w.heap[D]? = some (.cells (boxL m).toArray 41 (0, 0))
  kept : Kept (fun _ => False) w0 w
  base : w0.heap.size = B
  lD : B + 1 < D

theorem MailIn.moved {B D m : Nat} {hs hs' : List H} {w0 w w' : World} (h : MailIn B D hs m w0 w) (hh : HartsIn (B + 1) B hs' w') (hk : Kept (fun k => k = B) w w') : MailIn B D hs' m w0 w' :=
  ⟨hh, hk.at h.box (by have := h.lD; omega), h.kept.trans hk (fun k hk e => by have := h.base; omega), h.base, h.lD⟩

theorem MailIn.put {B D m : Nat} {hs : List H} {w0 w : World} (h : MailIn B D hs m w0 w) (k : Nat) : MailIn B D hs (mset m k) w0 (w.setCell ⟨D, k, none⟩ (.bool true)) := by
  have kk : Kept (fun x => x = D) w (w.setCell ⟨D, k, none⟩ (.bool true)) := kept_set (X := fun x => x = D) (Kept.refl _ _) rfl _ _
  have lD := h.lD
  refine ⟨h.harts.kept kk (by omega) (by omega), (set_at h.box k _).trans ?_, h.kept.trans kk (fun k hk e => by have := h.base; omega), h.base, lD⟩
  rw [← boxL_set]; simp

theorem MailIn.cell {B D m i : Nat} {hs : List H} {w0 w : World} (h : MailIn B D hs m w0 w) (hi : i < 8) : w.cell? ⟨D, i, none⟩ = some (.bool (mhas m i)) := cell_at h.box (by simpa using boxL_get hi)

set_option maxRecDepth 100000 in
set_option maxHeartbeats 1600000 in
theorem mail_w (n h : Int) (x : Bool) (ao : Option Addr) (len cap lb off : Nat) (L : Nat → Int) (hao : 0 < len → ao = some ⟨lb, off, none⟩) (hlc : len ≤ cap) (hm : cap ≤ 9223372036854775807) (w : World)
    (hc : ∀ i, i < len → w.cell? ⟨lb, off + i, none⟩ = some (.int .i64 (L i))) :
    Calls Try.prog 6 #[.int .i64 n, .int .i64 h, .slice ao len cap, .bool x] w fun e w' => e = .returned (.bool true) ∧ Kept (fun _ => False) w w' := by
  obtain ⟨B, hB⟩ : ∃ B : Nat, w.heap.size = B := ⟨_, rfl⟩
  obtain ⟨N, hN12, hNl, hNA, hNB⟩ : ∃ N : Nat, N ≤ 12 ∧ N ≤ len ∧ (len ≤ 12 → N = len) ∧ (12 < len → N = 12) := ⟨min len 12, by omega, by omega, by omega, by omega⟩
  obtain ⟨k, hk, hk2, hk8⟩ : ∃ k : Nat, 2 + n % (8 - 2 + 1) = k ∧ 2 ≤ k ∧ k ≤ 8 := ⟨(2 + n % 7).toNat, by omega, by omega, by omega⟩
  obtain ⟨a, ha, hak⟩ : ∃ a : Nat, 0 + h % ((k : Int) - 1 - 0 + 1) = a ∧ a < k := ⟨(h % k).toNat, by rw [show (k : Int) - 1 - 0 + 1 = k by omega]; have := Int.emod_nonneg h (show (k : Int) ≠ 0 by omega); omega, by have := Int.emod_nonneg h (show (k : Int) ≠ 0 by omega); have := Int.emod_lt_of_pos h (show (0 : Int) < k by omega); omega⟩
  go_enter Try.func6, Try.ntmps6
  go_wp2_with fail
  refine (within_any n 2 8 (by decide) (by decide) (by decide) _).mono ?_
  rintro e w1 ⟨rfl, rfl⟩
  simp only [hk]
  clear hk
  go_wp2_with fail
  refine (within_any h 0 (k - 1) (by decide) (by omega) (by omega) _).mono ?_
  rintro e w2 ⟨rfl, rfl⟩
  simp only [ha]
  clear ha
  have NW := new_ok k (by omega) hk8 w2
  rw [hB] at NW
  go_wp2_with fail
  refine NW.mono ?_
  rintro e w4 ⟨rfl, hM, hk4, hs4⟩
  clear NW
  have S := set_ok _ _ _ a x (by rw [fresh_length]; exact hak) _ hM (by rw [hd_fresh k a hak])
  go_wp2_with fail
  refine S.mono ?_
  rintro e w5 ⟨rfl, h5, k5⟩
  rw [hd_fresh k a hak] at h5
  have l5 : B + 2 ≤ w5.heap.size := by have := k5.size; omega
  have HH5 : Hid (HartsIn (B + 1) B (sm k a x 0) w5) := h5
  have HK5 : Hid (Kept (fun _ => False) w2 w5) := Kept.trans hk4 k5 (fun k hk e => by omega)
  clear hM hk4 hs4 S h5 k5
  obtain ⟨D, hD⟩ : ∃ D : Nat, w5.heap.size = D := ⟨_, rfl⟩
  rw [hD] at l5
  have M0 : MailIn B D (sm k a x 0) 0 w2 (w5.alloc (.cells (boxL 0).toArray 41)) :=
    ⟨HH5.out.kept (X := fun _ => False) ((Kept.refl _ _).alloc _) (by simp) (by simp), alloc_at' _ hD, HK5.out.alloc _, hB, by omega⟩
  have HM0 : Hid _ := M0
  clear M0 HH5 HK5
  go_upto_block 0 with fail
  go_cut [13] from 36 to 61 (fun _ wr => ∃ m : Nat, m < 256 ∧ MailIn B D (sm k a x m) m w2 wr)
  case first =>
    go_wp2_with fail
    go_loopw [13] (fun i wr => ∃ (j m : Nat), j ≤ N ∧ i = .int .i64 j ∧ m < 256 ∧ MailIn B D (sm k a x m) m w2 wr)
      (fun i _ => N - (intOf i).toNat)
    case atStart => exact ⟨0, 0, by omega, rfl, by omega, HM0.out⟩
    case round =>
      obtain ⟨j, m, hj, rfl, hm256, hM⟩ := hrel
      clear HM0
      by_cases hjN : j < N
      · have hjl : (j : Int) < (len : Int) := by omega
        have hj12 : (j : Int) < 12 := by omega
        have hc1 := hc j (by omega)
        have d1 := hM.kept.cell hc1 (by simp)
        obtain rfl := hao (by omega)
        obtain ⟨i, hi, hi8⟩ : ∃ i : Nat, 0 + L j % (7 - 0 + 1) = i ∧ i < 8 := ⟨(L j % 8).toNat, by omega, by omega⟩
        have hi8' : (i : Int) < 8 := by omega
        have P := post_ok _ _ _ a i (by rw [sm_length]; exact hak) hi8 _ hM.harts (by rw [sm_hd hak]; exact hm256)
        have HM : Hid _ := hM
        clear hc hc1 hao hM
        go_wp2_with fail
        refine (within_any (L j) 0 7 (by decide) (by omega) (by omega) _).mono ?_
        rintro e w6 ⟨rfl, rfl⟩
        simp only [hi]
        go_wp2_with fail
        refine P.mono ?_
        rintro e w7 ⟨rfl, h7, k7⟩
        rw [sm_hd hak, sm_set] at h7
        have M7 := HM.out.moved h7 k7
        have c7 := M7.cell hi8
        have f7 := free_at M7.box i
        have M8 := M7.put i
        have Q := due_ok _ _ _ a (by rw [sm_length]; exact hak) _ M8.harts
        have z : (mset m i != 0) = true := by
          have : mset m i ≠ 0 := by
            intro e
            have := mset_has m i i
            rw [e, mhas_zero] at this
            simp at this
          simp [this]
        rw [sm_hd hak, show (H.mk x 0 (mset m i)).isOn = x by simp [H.isOn]] at Q
        simp only [z, Bool.and_true] at Q
        have HM8 : Hid _ := M8
        clear HM h7 k7 M7 M8 P d1 z
        go_wp2_with fail
        refine Q.mono ?_
        rintro e w8 ⟨rfl, hw8⟩
        have HM9 : Hid _ := hw8.symm ▸ HM8.out
        clear HM8 Q hw8 c7 f7
        go_wp2
        go_roundw
        case rel => exact ⟨j + 1, mset m i, by omega, by go_num, mset_lt hm256 hi8, HM9.out⟩
        case measure => simp [intOf]; omega
      · have hjj : j = N := by omega
        subst hjj
        clear hc
        have HM : Hid _ := hM
        clear hM
        rcases (show (len ≤ 12 ∧ j = len) ∨ (12 < len ∧ j = 12) by omega) with ⟨hl, hjl⟩ | ⟨hl, hjl⟩
        · have t1 : ¬ (j : Int) < (len : Int) := by omega
          clear hjl hNA hNB hl
          go_wp2
          go_meet
          case rel => exact ⟨m, hm256, HM.out⟩
        · have t1 : (j : Int) < (len : Int) := by omega
          have t2 : ¬ (j : Int) < 12 := by omega
          clear hjl hNA hNB hl
          go_wp2
          go_meet
          case rel => exact ⟨m, hm256, HM.out⟩
  case rest =>
    obtain ⟨m, hm256, hM⟩ := hcut
    clear HM0 hc
    have HM : Hid _ := hM
    clear hM
    go_wp2
    go_loopw [62] (fun i wr => ∃ (j c : Nat), j ≤ 8 ∧ i = .int .i64 j ∧ c < 256 ∧ (∀ t, t < 8 → mhas c t = (decide (j ≤ t) && mhas m t)) ∧ MailIn B D (sm k a x c) m w2 wr)
      (fun i _ => 8 - (intOf i).toNat)
    case atStart => exact ⟨0, m, by omega, rfl, hm256, by intro t _; simp, HM.out⟩
    case round =>
      obtain ⟨j, c, hj, rfl, hc256, hcm, hM⟩ := hrel
      clear HM
      by_cases hj8 : j < 8
      · have t1 : (j : Int) < 8 := by omega
        have c0 := hM.cell hj8
        cases hb : mhas m j
        · rw [hb] at c0
          have HM : Hid _ := hM
          have HC : Hid _ := hcm
          clear hM hcm
          go_wp2
          go_roundw
          case rel =>
            refine ⟨j + 1, c, by omega, by go_num, hc256, ?_, HM.out⟩
            intro t ht
            rw [HC.out t ht]
            by_cases e : j = t
            · subst e; simp [hb]
            · simp [show (j ≤ t ↔ j + 1 ≤ t) by omega]
          case measure => simp [intOf]; omega
        · rw [hb] at c0
          have hcj : mhas c j = true := by rw [hcm j hj8]; simp [hb]
          have hlow : ∀ i, i < j → mhas c i = false := by intro i hi; rw [hcm i (by omega)]; simp; omega
          have hne : c ≠ 0 := by intro e; rw [e, mhas_zero] at hcj; cases hcj
          have P := take_some _ _ _ a (by rw [sm_length]; exact hak) _ hM.harts (by rw [sm_hd hak]; exact hc256) (by rw [sm_hd hak]; exact hne)
          rw [sm_hd hak] at P
          simp only [mleast_eq hj8 hlow hcj, sm_set] at P
          have HM : Hid _ := hM
          have HC : Hid _ := hcm
          clear hM hcm hlow hne
          go_wp2_with fail
          refine P.mono ?_
          rintro e w6 ⟨rfl, h6, k6⟩
          have HM6 : Hid _ := HM.out.moved h6 k6
          clear h6 k6 HM P
          go_wp2
          go_roundw
          case rel =>
            refine ⟨j + 1, mclr c j, by omega, by go_num, mclr_lt hc256, ?_, HM6.out⟩
            intro t ht
            rw [mclr_has ht, HC.out t ht]
            by_cases e : j = t
            · subst e; simp [show ¬ (j + 1 ≤ j) by omega]
            · simp [e, show (j ≤ t ↔ j + 1 ≤ t) by omega]
          case measure => simp [intOf]; omega
      · have hj8' : j = 8 := by omega
        subst hj8'
        have hc0 : c = 0 := mail_zero hc256 (by intro t ht; rw [hcm t ht]; simp; omega)
        subst hc0
        obtain ⟨o, ho, hok, hoa⟩ : ∃ o : Nat, ((a : Int) + 1) % (k : Int) = o ∧ o < k ∧ a ≠ o := by
          by_cases e : a + 1 = k
          · exact ⟨0, by rw [show (a : Int) + 1 = k by omega]; simp, by omega, by omega⟩
          · exact ⟨a + 1, by rw [Int.emod_eq_of_lt (by omega) (by omega)]; simp, by omega, by omega⟩
        have P := take_none _ _ _ a (by rw [sm_length]; exact hak) _ hM.harts (by rw [sm_hd hak])
        have Q := take_none _ _ _ o (by rw [sm_length]; exact hok) _ hM.harts (by rw [sm_off hak hok hoa])
        have R := due_ok _ _ _ a (by rw [sm_length]; exact hak) _ hM.harts
        rw [sm_hd hak] at R
        simp only [show ((0 : Nat) != 0) = false from rfl, Bool.and_false] at R
        have HM : Hid _ := hM
        clear hM hcm
        go_wp2_with fail
        refine P.mono ?_
        rintro e w6 ⟨rfl, rfl⟩
        go_wp2_with fail
        refine Q.mono ?_
        rintro e w7 ⟨rfl, rfl⟩
        clear P Q
        go_wp2_with fail
        refine R.mono ?_
        rintro e w8 ⟨rfl, rfl⟩
        clear R
        go_wp2_with fail
        refine (runs_w _).mono ?_
        rintro e w9 ⟨rfl, k9⟩
        have HK9 : Hid _ := k9
        clear k9
        go_wp2
        go_ret
        exact ⟨rfl, HM.out.kept.trans HK9.out (fun _ _ e => e)⟩
end Go.Proofs.Ytckbimgoepcoaaa
