/- Texts of numbers: what Text of the book does when it is called; no conditions but a length. -/
import Derived.Test.YtghgnapogomnlaaWrite
namespace Go.Proofs.Ytghgnapogomnlaa
open Go.RowKit
set_option maxRecDepth 100000
set_option linter.unusedSimpArgs false

theorem RowB.set {G : Nat} {l : Bs} {w : World} (h : RowB G l w) (j : Nat) {x : Int} (h0 : 0 ≤ x) (h1 : x < 256) : RowB G (l.set j (UInt8.ofNat x.toNat)) (w.setCell ⟨G, j, none⟩ (.int .u8 x)) := by
  obtain ⟨Y, t, hg, hY⟩ := h
  refine ⟨_, t, set_at hg j _, ?_⟩
  rw [Array.toList_setIfInBounds, hY]
  unfold Lib.byteCells
  rw [List.map_set]
  congr 2
  rw [UInt8.toNat_ofNat']
  omega
theorem RowB.cell {G : Nat} {l : Bs} {w : World} (h : RowB G l w) {j : Nat} (hj : j < l.length) : w.cell? ⟨G, j, none⟩ = some (.int .u8 l[j].toNat) ∧ w.frozen? ⟨G, j, none⟩ = false := by
  obtain ⟨Y, t, hg, hY⟩ := h
  refine ⟨cell_at hg ?_, free_at hg _⟩
  rw [← Array.getElem?_toList, hY]
  simp [Lib.byteCells, hj]

set_option maxHeartbeats 1000000 in
theorem text_w (n size : Int) (h0 : 0 ≤ size) (h1 : size ≤ 1000) (w : World) : Calls Try.prog 19 #[.int .i64 n, .int .i64 size] w fun e w' => ∃ t : ByteArray, e = .returned (.string t) ∧ (t.size : Int) = size ∧ Kept (fun _ => False) w w' := by
  obtain ⟨L, rfl⟩ : ∃ L : Nat, size = L := ⟨size.toNat, by omega⟩
  obtain ⟨G, hG⟩ : ∃ G : Nat, w.heap.size = G := ⟨_, rfl⟩
  obtain ⟨w1, hmk, hr, hk⟩ := make_bytes L (by omega) w
  rw [hG] at hmk hr
  have H0 : Hid (∃ l : Bs, l.length = L ∧ RowB G l w1 ∧ Kept (fun _ => False) w w1) := ⟨_, by simp, hr, hk⟩
  clear hr hk
  have hmax : (if (L : Int) < 0 then (0 : Int) else L) = L := by rw [if_neg (by omega)]
  go_enter Try.func19, Try.ntmps19
  go_wp2_with fail
  go_loopw [6, 12] (fun _ v wr => ∃ (i : Nat) (l : Bs), v = .int .i64 i ∧ i ≤ L ∧ Hid (l.length = L ∧ RowB G l wr ∧ Kept (fun _ => False) w wr)) (fun _ v _ => L - (intOf v).toNat)
  case atStart =>
    obtain ⟨l, hl⟩ := H0.out
    exact ⟨0, l, rfl, Nat.zero_le _, hl⟩
  case round =>
    obtain ⟨i, l, rfl, hi, HH⟩ := hrel
    clear H0
    by_cases hlt : i < L
    · have t1 : (i : Int) < (L : Int) := by omega
      obtain ⟨hc, hf⟩ := HH.out.2.1.cell (j := i) (by rw [HH.out.1]; exact hlt)
      have HG : Hid (w.heap.size = G) := hG
      clear hmk hG hmax
      go_wp2_with fail
      generalize wrap64 (97 + bits BinOp.and IntKind.i64 ((wrap64 (n + ↑i)).tmod 26) 31) = z
      refine ⟨⟨i + 1, l.set i (UInt8.ofNat (z % 256).toNat), by go_num, by omega, ?_⟩, by simp [intOf]; omega⟩
      refine (show _ ∧ _ ∧ _ from ⟨by rw [List.length_set]; exact HH.out.1, HH.out.2.1.set i (by omega) (by omega), ?_⟩)
      refine Kept.setCell HH.out.2.2 ?_ _
      intro hlt2
      have := HG.out
      have h3 : G < w.heap.size := hlt2
      omega
    · obtain rfl : i = L := by omega
      have hcv := row_text HH.out.2.1 i
      rw [HH.out.1] at hcv
      have HS : Hid (((bs l).size : Int) = i) := by show _ = _; rw [bs_size, HH.out.1]
      have HK : Hid (Kept (fun _ => False) w wr) := HH.out.2.2
      clear HH
      go_wp2_with fail
      go_ret
      exact ⟨_, rfl, HS.out, HK.out⟩
end Go.Proofs.Ytghgnapogomnlaa
