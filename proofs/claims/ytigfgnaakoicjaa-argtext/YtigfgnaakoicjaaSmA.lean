
/- Stores and views whose objects have few bytes; one view, two views, as a statement holds them; texts of numbers; no conditions but lengths. -/
import Derived.Test.YtigfgnaakoicjaaKeA
namespace Go.Proofs.Ytigfgnaakoicjaa
open Go.RowKit
set_option maxRecDepth 100000
set_option linter.unusedSimpArgs false

/-- No object that the store or the view has has many bytes. -/
structure Small (f : StF) (g : VwF) : Prop where
  s : ∀ k, (lookF f k).s.size ≤ 200
  v : ∀ k, (noteF g k).2.2.s.size ≤ 200

theorem zero_small : zeroV.s.size ≤ 200 := by decide
section
variable {f : StF} {g : VwF}
theorem Small.val (h : Small f g) (k : K2) : (vgetF f g k).s.size ≤ 200 := by
  unfold vgetF
  split
  · split
    · exact h.v k
    · exact h.s k
  · exact zero_small
theorem Small.get (h : Small f g) (k : K2) : Small f (vgetT g k) := by
  refine ⟨h.s, fun j => ?_⟩
  by_cases hk : 0 ≤ plc k
  · rw [note_get hk]
    split
    · exact h.v k
    · exact h.v j
  · unfold vgetT; rw [if_neg hk]; exact h.v j
theorem Small.put (h : Small f g) (k : K2) {x : V} (hx : x.s.size ≤ 200) : Small f (vputT g k x) := by
  refine ⟨h.s, fun j => ?_⟩
  by_cases hk : 0 ≤ plc k
  · rw [note_put hk]
    split
    · exact hx
    · exact h.v j
  · unfold vputT; rw [if_neg hk]; exact h.v j
theorem small_put {f : StF} {l : Ws} (hf : ∀ k, (lookF f k).s.size ≤ 200) (hl : ∀ t ∈ l, t.2.s.size ≤ 200) (k : K2) : (lookF (putAll f l) k).s.size ≤ 200 := by
  induction l generalizing f with
  | nil => exact hf k
  | cons t l ih =>
    show (lookF (putAll (putF f t.1 t.2) l) k).s.size ≤ 200
    refine ih (fun j => ?_) (fun u hu => hl u (List.mem_cons_of_mem _ hu))
    rw [look_put]
    split
    · exact hl t List.mem_cons_self
    · exact hf j
theorem Small.redo (h : Small f g) : Small (putAll f (redoF g)) (fun _ => none) := by
  refine ⟨fun k => small_put h.s (fun t ht => ?_) k, fun k => zero_small⟩
  unfold redoF at ht
  obtain ⟨j, -, rfl⟩ := List.mem_map.1 ht
  exact h.v j
theorem small_init (Q : Nat → K2 × V) (n : Nat) : Small (initF Q n) (fun _ => none) := ⟨initF_small Q n, fun _ => zero_small⟩
end

section
variable {w0 : World} {T p B q N rp rB rq R W : Nat} {f f2 : StF} {g g2 : VwF} {w : World}
/-- Another block is written. -/
theorem KeepIn.otherX {X : Nat} {c : Array Value} {t : TypeId} {w' : World} (h : KeepIn w0 T p B q N rp rB rq R W f f2 g g2 w) (hX : w.heap[X]? = some (.cells c t (0, 0))) (hk : Kept (fun n => n = X) w w') (e1 : X ≠ T) (e2 : X ≠ p) (e3 : X ≠ q) (e4 : X ≠ rp) (e5 : X ≠ rq) (e6 : w0.heap.size ≤ X) : KeepIn w0 T p B q N rp rB rq R W f f2 g g2 w' :=
  ⟨hk.at h.cell (fun e => e1 e.symm), { h.game with
    s := h.game.s.kept hk (fun e => e2 e.symm) (fun e => h.game.s.map.off hX e.symm)
    v := h.game.v.kept hk (fun e => e3 e.symm) (fun e => h.game.v.map.off hX e.symm)
    rs := h.game.rs.kept hk (fun e => e4 e.symm) (fun e => h.game.rs.map.off hX e.symm)
    rv := h.game.rv.kept hk (fun e => e5 e.symm) (fun e => h.game.rv.r.off hX e.symm) (fun e => h.game.rv.w.off hX e.symm)
    kept := h.game.kept.trans hk (fun k h1 h2 => by omega) }⟩

/-- A block of cells is none of the views' maps. -/
theorem KeepIn.off {X : Nat} {c : Array Value} {t : TypeId} (h : KeepIn w0 T p B q N rp rB rq R W f f2 g g2 w) (hX : w.heap[X]? = some (.cells c t (0, 0))) : X ≠ N ∧ ¬ RW R W X ∧ X ≠ B ∧ X ≠ rB :=
  ⟨h.game.v.map.off hX, fun e => by rcases e with e | e; exact h.game.rv.r.off hX e; exact h.game.rv.w.off hX e, h.game.s.map.off hX, h.game.rs.map.off hX⟩
end

def f0 : StF := fun _ => none
def g0 : VwF := fun _ => none

structure SideIn (w0 : World) (T p B q N : Nat) (g : VwF) (w : World) : Prop where
  v : ViewIn q N p g w
  s : StoreIn p B f0 w
  t : w.cell? ⟨T, 1, none⟩ = some (.pointer (some ⟨q, 0, none⟩))
  ne : N ≠ B
  tn : T ≠ N
  kept : Kept (fun _ => False) w0 w
  nN : w0.heap.size ≤ N
  sm : Small f0 g

section
variable {w0 : World} {T p B q N : Nat} {g g' : VwF} {w w' : World}
theorem SideIn.still (h : SideIn w0 T p B q N g w) (hk : Kept (fun _ => False) w w') : SideIn w0 T p B q N g w' := { h with v := h.v.still hk, s := h.s.still hk, t := hk.cell h.t (fun x => x), kept := h.kept.thru hk }
theorem SideIn.put (h : SideIn w0 T p B q N g w) (hv : ViewIn q N p g' w') (hm : Small f0 g') (hk : Kept (fun n => n = N) w w') : SideIn w0 T p B q N g' w' :=
  { h with v := hv, s := h.s.kept hk (fun e => h.v.map.off h.s.cell e) (fun e => h.ne e.symm), t := hk.cell h.t h.tn, kept := h.kept.trans hk (fun k h1 h2 => by have := h.nN; omega), sm := hm }

theorem KeepIn.side {rp rB rq R W : Nat} {f2 : StF} {g2 : VwF} (h : KeepIn w0 T p B q N rp rB rq R W f0 f2 g g2 w) (hm : Small f0 g) : SideIn w0 T p B q N g w :=
  ⟨h.game.v, h.game.s, h.cells.2.1, h.nB, h.game.v.map.off h.cell, h.game.kept, h.game.nN, hm⟩

theorem side_new (w : World) : Calls Try.prog 11 #[.slice none 0 0] w fun e w' => ∃ T p B q N, e = .returned (.pointer (some ⟨T, 0, none⟩)) ∧ SideIn w T p B q N g0 w' ∧ w.heap.size ≤ T := by
  refine (keepnew_w none 0 0 0 0 (fun _ => ((0, 0), zeroV)) (fun h => by omega) w (fun i hi => by omega)).mono ?_
  rintro e w1 ⟨T, p, B, q, N, rp, rB, rq, R, W, rfl, h, hT⟩
  exact ⟨T, p, B, q, N, rfl, h.side ⟨fun _ => zero_small, fun _ => zero_small⟩, hT⟩
end

theorem RowB.set {G : Nat} {l : Bs} {w : World} (h : RowB G l w) (j : Nat) {x : Int} (h0 : 0 ≤ x) (h1 : x < 256) : RowB G (l.set j (UInt8.ofNat x.toNat)) (w.setCell ⟨G, j, none⟩ (.int .u8 x)) := by
  obtain ⟨Y, t, hg, hY⟩ := h
  refine ⟨_, t, set_at hg j _, ?_⟩
  rw [Array.toList_setIfInBounds, hY]
  unfold Lib.byteCells
  rw [List.map_set]
  congr 2
  rw [UInt8.toNat_ofNat']
  omega
theorem RowB.cell {G : Nat} {l : Bs} {w : World} (h : RowB G l w) {j : Nat} (hj : j < l.length) : w.cell? ⟨G, j, none⟩ = some (.int .u8 l[j].toNat) ∧ w.frozen? ⟨G, j, none⟩ = false := by
  obtain ⟨Y, t, hg, hY⟩ := h
  refine ⟨cell_at hg ?_, free_at hg _⟩
  rw [← Array.getElem?_toList, hY]
  simp [Lib.byteCells, hj]

set_option maxHeartbeats 1000000 in
theorem text_w (n size : Int) (h0 : 0 ≤ size) (h1 : size ≤ 1000) (w : World) : Calls Try.prog 9 #[.int .i64 n, .int .i64 size] w fun e w' => ∃ t : ByteArray, e = .returned (.string t) ∧ (t.size : Int) = size ∧ Kept (fun _ => False) w w' := by
  obtain ⟨L, rfl⟩ : ∃ L : Nat, size = L := ⟨size.toNat, by omega⟩
  obtain ⟨G, hG⟩ : ∃ G : Nat, w.heap.size = G := ⟨_, rfl⟩
  obtain ⟨w1, hmk, hr, hk⟩ := make_bytes L (by omega) w
  rw [hG] at hmk hr
  have H0 : Hid (∃ l : Bs, l.length = L ∧ RowB G l w1 ∧ Kept (fun _ => False) w w1) := ⟨_, by simp, hr, hk⟩
  clear hr hk
  have hmax : (if (L : Int) < 0 then (0 : Int) else L) = L := by rw [if_neg (by omega)]
  go_enter Try.func9, Try.ntmps9
  go_wp2_with fail
  go_loopw [6, 12] (fun _ v wr => ∃ (i : Nat) (l : Bs), v = .int .i64 i ∧ i ≤ L ∧ Hid (l.length = L ∧ RowB G l wr ∧ Kept (fun _ => False) w wr)) (fun _ v _ => L - (intOf v).toNat)
  case atStart =>
    obtain ⟨l, hl⟩ := H0.out
    exact ⟨0, l, rfl, Nat.zero_le _, hl⟩
  case round =>
    obtain ⟨i, l, rfl, hi, HH⟩ := hrel
    clear H0
    by_cases hlt : i < L
    · have t1 : (i : Int) < (L : Int) := by omega
      obtain ⟨hc, hf⟩ := HH.out.2.1.cell (j := i) (by rw [HH.out.1]; exact hlt)
      have HG : Hid (w.heap.size = G) := hG
      clear hmk hG hmax
      go_wp2_with fail
      generalize wrap64 (97 + bits BinOp.and IntKind.i64 ((wrap64 (n + ↑i)).tmod 26) 31) = z
      refine ⟨⟨i + 1, l.set i (UInt8.ofNat (z % 256).toNat), by go_num, by omega, ?_⟩, by simp [intOf]; omega⟩
      refine (show _ ∧ _ ∧ _ from ⟨by rw [List.length_set]; exact HH.out.1, HH.out.2.1.set i (by omega) (by omega), ?_⟩)
      refine Kept.setCell HH.out.2.2 ?_ _
      intro hlt2
      have := HG.out
      have h3 : G < w.heap.size := hlt2
      omega
    · obtain rfl : i = L := by omega
      have hcv := row_text HH.out.2.1 i
      rw [HH.out.1] at hcv
      have HS : Hid (((bs l).size : Int) = i) := by show _ = _; rw [bs_size, HH.out.1]
      have HK : Hid (Kept (fun _ => False) w wr) := HH.out.2.2
      clear HH
      go_wp2_with fail
      go_ret
      exact ⟨_, rfl, HS.out, HK.out⟩
end Go.Proofs.Ytigfgnaakoicjaa
