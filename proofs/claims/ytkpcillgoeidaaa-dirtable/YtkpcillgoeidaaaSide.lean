
/- One view beside its store, as a statement holds it: each call's end; no conditions but lengths. -/
import Derived.Test.YtkpcillgoeidaaaFindF
import Derived.Test.YtkpcillgoeidaaaKeep3
import Derived.Test.YtkpcillgoeidaaaSmall
import Derived.Test.YtkpcillgoeidaaaNamesW
import Derived.Test.YtkpcillgoeidaaaWithin
namespace Go.Proofs.Ytkpcillgoeidaaa
open Go.RowKit
set_option maxRecDepth 100000

def f0 : StF := fun _ => none
def g0 : VwF := fun _ => none

structure SideIn (w0 : World) (T p B q N : Nat) (g : VwF) (w : World) : Prop where
  v : ViewIn q N p g w
  s : StoreIn p B f0 w
  t : w.cell? ⟨T, 1, none⟩ = some (.pointer (some ⟨q, 0, none⟩))
  ne : N ≠ B
  tn : T ≠ N
  kept : Kept (fun _ => False) w0 w
  nN : w0.heap.size ≤ N
  sm : Small f0 g

section
variable {w0 : World} {T p B q N : Nat} {g g' : VwF} {w w' : World}
theorem SideIn.still (h : SideIn w0 T p B q N g w) (hk : Kept (fun _ => False) w w') : SideIn w0 T p B q N g w' := { h with v := h.v.still hk, s := h.s.still hk, t := hk.cell h.t (fun x => x), kept := h.kept.thru hk }
theorem SideIn.put (h : SideIn w0 T p B q N g w) (hv : ViewIn q N p g' w') (hm : Small f0 g') (hk : Kept (fun n => n = N) w w') : SideIn w0 T p B q N g' w' :=
  { h with v := hv, s := h.s.kept hk (fun e => h.v.map.off h.s.cell e) (fun e => h.ne e.symm), t := hk.cell h.t h.tn, kept := h.kept.trans hk (fun k h1 h2 => by have := h.nN; omega), sm := hm }
theorem SideIn.few (h : SideIn w0 T p B q N g w) (d : Int) : (findV f0 g d).s.size ≤ 100000 := by have := h.sm.found d; omega

theorem KeepIn.side {rp rB rq R W : Nat} {f2 : StF} {g2 : VwF} (h : KeepIn w0 T p B q N rp rB rq R W f0 f2 g g2 w) (hm : Small f0 g) : SideIn w0 T p B q N g w :=
  ⟨h.game.v, h.game.s, h.cells.2.1, h.nB, h.game.v.map.off h.cell, h.game.kept, h.game.nN, hm⟩

theorem side_new (w : World) : Calls Try.prog 8 #[.slice none 0 0] w fun e w' => ∃ T p B q N, e = .returned (.pointer (some ⟨T, 0, none⟩)) ∧ SideIn w T p B q N g0 w' ∧ w.heap.size ≤ T := by
  refine (keepnew_w none 0 0 0 0 (fun _ => ((0, 0), zeroV)) (fun h => by omega) w (fun i hi => by omega)).mono ?_
  rintro e w1 ⟨T, p, B, q, N, rp, rB, rq, R, W, rfl, h, hT⟩
  exact ⟨T, p, B, q, N, rfl, h.side ⟨fun _ => zero_small, fun _ => zero_small⟩, hT⟩

theorem side_alloc (h : SideIn w0 T p B q N g w) (typ : Int) : Calls Try.prog 9 #[.pointer (some ⟨q, 0, none⟩), .int .i64 typ] w
    fun e w' => e = .returned (allocV (allocA f0 g)) ∧ SideIn w0 T p B q N (allocT f0 g typ) w' ∧ Kept (fun n => n = N) w w' := by
  refine (alloc_w q N p B f0 g typ w h.v h.s h.ne).mono ?_
  rintro e w1 ⟨rfl, hv, hk⟩
  exact ⟨rfl, h.put hv (h.sm.alloc typ) hk, hk⟩

theorem side_type (h : SideIn w0 T p B q N g w) (i : Int) : Calls Try.prog 28 #[.pointer (some ⟨q, 0, none⟩), .int .i64 i] w
    fun e w' => e = .returned (.int .i64 (findV f0 g i).n0) ∧ SideIn w0 T p B q N (findT g i) w' ∧ Kept (fun n => n = N) w w' := by
  refine (type_w q N p B f0 g i w h.v h.s h.ne).mono ?_
  rintro e w1 ⟨rfl, hv, hk⟩
  exact ⟨rfl, h.put hv (h.sm.find i) hk, hk⟩

theorem side_size (h : SideIn w0 T p B q N g w) (i : Int) : Calls Try.prog 26 #[.pointer (some ⟨q, 0, none⟩), .int .i64 i] w
    fun e w' => e = .returned (.int .i64 (findV f0 g i).s.size) ∧ SideIn w0 T p B q N (findT g i) w' ∧ Kept (fun n => n = N) w w' := by
  refine (size_w q N p B f0 g i w h.v h.s h.ne).mono ?_
  rintro e w1 ⟨rfl, hv, hk⟩
  exact ⟨rfl, h.put hv (h.sm.find i) hk, hk⟩

theorem side_dis (h : SideIn w0 T p B q N g w) (d : Int) : Calls Try.prog 19 #[.pointer (some ⟨q, 0, none⟩), .int .i64 d] w
    fun e w' => e = .returned (.bool (isDirF f0 g d)) ∧ SideIn w0 T p B q N (findT g d) w' ∧ Kept (fun n => n = N) w w' := by
  refine (dis_w q N p B f0 g d w h.v h.s h.ne).mono ?_
  rintro e w1 ⟨rfl, hv, hk⟩
  exact ⟨rfl, h.put hv (h.sm.find d) hk, hk⟩

theorem side_dfind (h : SideIn w0 T p B q N g w) (d : Int) (s : ByteArray) (hs : s.size ≤ 1000000) : Calls Try.prog 12 #[.pointer (some ⟨q, 0, none⟩), .int .i64 d, .string s] w
    fun e w' => e = .returned (foundV (foundE (dirE f0 g d) (bl s))) ∧ SideIn w0 T p B q N (findT g d) w' ∧ Kept (fun n => n = N) w w' := by
  refine (dfind_w q N p B f0 g d s hs w h.v h.s h.ne (h.few d)).mono ?_
  rintro e w1 ⟨rfl, hv, hk⟩
  exact ⟨rfl, h.put hv (h.sm.find d) hk, hk⟩

theorem side_dadd (h : SideIn w0 T p B q N g w) (d : Int) (s : ByteArray) (hs : s.size ≤ 1000000) (i : Int) : Calls Try.prog 10 #[.pointer (some ⟨q, 0, none⟩), .int .i64 d, .string s, .int .i64 i] w
    fun e w' => e = .returned (.bool (addOk f0 g d (bl s) i)) ∧ SideIn w0 T p B q N (addT f0 g d (bl s) i) w' ∧ Kept (fun n => n = N) w w' := by
  refine (dadd_w q N p B f0 g d s hs i w h.v h.s h.ne (h.few d)).mono ?_
  rintro e w1 ⟨rfl, hv, hk⟩
  exact ⟨rfl, h.put hv (h.sm.add d _ i) hk, hk⟩

theorem side_drm (h : SideIn w0 T p B q N g w) (d : Int) (s : ByteArray) (hs : s.size ≤ 1000000) : Calls Try.prog 11 #[.pointer (some ⟨q, 0, none⟩), .int .i64 d, .string s] w
    fun e w' => e = .returned (.bool (foundE (dirE f0 g d) (bl s)).isSome) ∧ SideIn w0 T p B q N (rmT f0 g d (bl s)) w' ∧ Kept (fun n => n = N) w w' := by
  refine (dremove_w q N p B f0 g d s hs w h.v h.s h.ne (h.few d)).mono ?_
  rintro e w1 ⟨rfl, hv, hk⟩
  exact ⟨rfl, h.put hv (h.sm.rm d _) hk, hk⟩

theorem side_dnames (h : SideIn w0 T p B q N g w) (d : Int) : Calls Try.prog 14 #[.pointer (some ⟨q, 0, none⟩), .int .i64 d] w
    fun e w' => ∃ v, e = .returned v ∧ Nm.SrcS v (namesE (dirE f0 g d)) w' ∧ SideIn w0 T p B q N (findT g d) w' ∧ Kept (fun n => n = N) w w' := by
  refine (dnames_w q N p B f0 g d w h.v h.s h.ne (h.few d)).mono ?_
  rintro e w1 ⟨v, rfl, ha, hv, hk⟩
  exact ⟨v, rfl, ha, h.put hv (h.sm.find d) hk, hk⟩

theorem side_dbare (h : SideIn w0 T p B q N g w) (d : Int) : Calls Try.prog 22 #[.pointer (some ⟨q, 0, none⟩), .int .i64 d] w
    fun e w' => e = .returned (.bool (bareE (dirE f0 g d))) ∧ SideIn w0 T p B q N (findT g d) w' ∧ Kept (fun n => n = N) w w' := by
  refine (dbare_w q N p B f0 g d w h.v h.s h.ne (h.few d)).mono ?_
  rintro e w1 ⟨rfl, hv, hk⟩
  exact ⟨rfl, h.put hv (h.sm.find d) hk, hk⟩

end
end Go.Proofs.Ytkpcillgoeidaaa
