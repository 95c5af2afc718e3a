
/- What Read does when it is called; no conditions but a length. -/
import Derived.Test.YtkpcillgoeidaaaIno
import Derived.Test.YtkpcillgoeidaaaTxt
namespace Go.Proofs.Ytkpcillgoeidaaa
open Go.RowKit
set_option maxRecDepth 100000
set_option linter.unusedSimpArgs false

/-- Of the bytes s, n at most from off on. -/
def partF (s : ByteArray) (off n : Int) : ByteArray := if 0 ≤ off ∧ 1 ≤ n then bs (((bl s).drop off.toNat).take n.toNat) else ByteArray.empty

theorem part_no {s : ByteArray} {off n : Int} (h : off < 0 ∨ (s.size : Int) ≤ off ∨ n < 1) : partF s off n = ByteArray.empty := by
  unfold partF
  split
  · have : (bl s).drop off.toNat = [] := List.drop_eq_nil_of_le (by rw [bl_len]; omega)
    rw [this]; simp; rfl
  · rfl

theorem part_ext {s : ByteArray} {o m : Nat} {n : Int} (h1 : 1 ≤ n) (h2 : (o : Int) ≤ s.size) (h : (m : Int) = n ∨ (m = s.size - o ∧ (m : Int) ≤ n)) : (s.extract o s.size).extract 0 m = partF s o n := by
  unfold partF
  rw [if_pos ⟨by omega, h1⟩]
  apply bl_inj
  have e : List.take (s.size - o) (List.drop o (bl s)) = List.drop o (bl s) := List.take_of_length_le (by rw [List.length_drop, bl_len]; omega)
  rw [bl_extract, bl_extract, bl_bs, Int.toNat_natCast, List.drop_zero, Nat.sub_zero, e]
  rw [List.take_eq_take_iff, List.length_drop, bl_len]
  omega

set_option maxHeartbeats 1000000 in
theorem read_w (q N p B : Nat) (f : StF) (g : VwF) (i off n : Int) (w : World) (h : ViewIn q N p g w) (hs : StoreIn p B f w) (hNB : N ≠ B) (hsz : (findV f g i).s.size ≤ 1000000) : Calls Try.prog 66 #[.pointer (some ⟨q, 0, none⟩), .int .i64 i, .int .i64 off, .int .i64 n] w
    fun e w' => e = .returned (.string (partF (findV f g i).s off n)) ∧ ViewIn q N p (findT g i) w' ∧ Kept (fun n => n = N) w w' := by
  go_enter Try.func66, Try.ntmps66
  go_wp2_with fail
  refine (find_w q N p B f g i w h hs hNB).mono ?_
  rintro e w1 ⟨rfl, hv1, hk1⟩
  obtain ⟨F, hF⟩ : ∃ F : Nat, w1.heap.size = F := ⟨_, rfl⟩
  obtain ⟨x, hx⟩ : ∃ x, findV f g i = x := ⟨_, rfl⟩
  rw [hx] at hsz
  have HX : Hid (findV f g i = x) := hx
  rw [hx]
  clear hx h hs
  have c16 : (w1.alloc (.cells (vc x).toArray 64)).cell? ⟨F, 16, none⟩ = some (.string x.s) := cell_at (alloc_at' _ hF) rfl
  have hv2 : ViewIn q N p (findT g i) (w1.alloc (.cells (vc x).toArray 64)) := hv1.still ((Kept.refl _ _).alloc _)
  have k2 : Kept (fun n => n = N) w (w1.alloc (.cells (vc x).toArray 64)) := hk1.alloc _
  by_cases hb : off < 0 ∨ (x.s.size : Int) ≤ off ∨ n < 1
  · have HE : Hid (partF x.s off n = ByteArray.empty) := part_no hb
    have HZ : Hid (ViewIn q N p (findT g i) (w1.alloc (.cells (vc x).toArray 64)) ∧ Kept (fun n => n = N) w (w1.alloc (.cells (vc x).toArray 64))) := ⟨hv2, k2⟩
    clear hv2 k2 hv1 hk1
    by_cases b1 : off < 0
    · clear hb
      go_wp2_with (first | (refine list_wnew rfl wide_V _ _ rfl F rfl (vc x) rfl _ rfl hF rfl (vc_one _) ?_))
      go_ret
      exact ⟨by rw [HX.out, HE.out]; rfl, HZ.out⟩
    · by_cases b2 : (x.s.size : Int) ≤ off
      · clear hb
        go_wp2_with (first | (refine list_wnew rfl wide_V _ _ rfl F rfl (vc x) rfl _ rfl hF rfl (vc_one _) ?_))
        go_ret
        exact ⟨by rw [HX.out, HE.out]; rfl, HZ.out⟩
      · have b3 : n < 1 := by omega
        clear hb
        go_wp2_with (first | (refine list_wnew rfl wide_V _ _ rfl F rfl (vc x) rfl _ rfl hF rfl (vc_one _) ?_))
        go_ret
        exact ⟨by rw [HX.out, HE.out]; rfl, HZ.out⟩
  · have b1 : ¬ off < 0 := by omega
    have b2 : ¬ (x.s.size : Int) ≤ off := by omega
    have b3 : ¬ n < 1 := by omega
    obtain ⟨o, rfl⟩ : ∃ o : Nat, off = o := ⟨off.toNat, by omega⟩
    have b4 : (o : Int) ≤ x.s.size := by omega
    clear hb
    go_wp2_with (first | (refine list_wnew rfl wide_V _ _ rfl F rfl (vc x) rfl _ rfl hF rfl (vc_one _) ?_))
    all_goals
      refine (clone_w _ (by rw [← bl_len, bl_extract, bl_extract]; simp only [List.length_take, List.length_drop, bl_len]; omega) _).mono ?_
      rintro e w3 ⟨rfl, hk3⟩
      have HZ : Hid (ViewIn q N p (findT g i) w3 ∧ Kept (fun n => n = N) w w3) := ⟨hv2.still hk3, k2.trans hk3 (fun _ _ e => e.elim)⟩
      go_wp2_with fail
      go_ret
      exact ⟨by rw [HX.out]; exact congrArg (fun s => Ending.returned (.string s)) (part_ext (by omega) (by omega) (by omega)), HZ.out⟩
end Go.Proofs.Ytkpcillgoeidaaa
