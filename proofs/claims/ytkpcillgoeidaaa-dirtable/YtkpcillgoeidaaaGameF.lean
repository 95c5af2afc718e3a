
/- What the statement on any calls has in memory; no conditions. -/
import Derived.Test.YtkpcillgoeidaaaRRedo
namespace Go.Proofs.Ytkpcillgoeidaaa
open Go.RowKit
set_option maxRecDepth 100000

/-- The store and a view of it, and the reference's. -/
structure GameIn (w0 : World) (p B q N rp rB rq R W : Nat) (f f2 : StF) (g g2 : VwF) (w : World) : Prop where
  s : StoreIn p B f w
  v : ViewIn q N p g w
  rs : RStoreIn rp rB f2 w
  rv : RViewIn rq R W rp g2 w
  kept : Kept (fun _ => False) w0 w
  nB : w0.heap.size ≤ B
  nN : w0.heap.size ≤ N
  nrB : w0.heap.size ≤ rB
  nR : w0.heap.size ≤ R
  nW : w0.heap.size ≤ W
  a1 : B ≠ N
  a2 : B ≠ rB
  a3 : B ≠ R
  a4 : B ≠ W
  a5 : N ≠ rB
  a6 : N ≠ R
  a7 : N ≠ W
  a8 : rB ≠ R
  a9 : rB ≠ W

section
variable {w0 : World} {p B q N rp rB rq R W : Nat} {f f2 f' : StF} {g g2 g' : VwF} {w w' : World}

theorem GameIn.still (h : GameIn w0 p B q N rp rB rq R W f f2 g g2 w) (hk : Kept (fun _ => False) w w') : GameIn w0 p B q N rp rB rq R W f f2 g g2 w' :=
  { h with s := h.s.still hk, v := h.v.still hk, rs := h.rs.still hk, rv := h.rv.still hk, kept := h.kept.thru hk }
theorem GameIn.putS (h : GameIn w0 p B q N rp rB rq R W f f2 g g2 w) (hs : StoreIn p B f' w') (hk : Kept (fun n => n = B) w w') : GameIn w0 p B q N rp rB rq R W f' f2 g g2 w' :=
  { h with s := hs, v := h.v.kept hk (fun e => h.s.map.off h.v.cell e) (fun e => h.a1 e.symm), rs := h.rs.kept hk (fun e => h.s.map.off h.rs.cell e) (fun e => h.a2 e.symm),
           rv := h.rv.kept hk (fun e => h.s.map.off h.rv.cell e) (fun e => h.a3 e.symm) (fun e => h.a4 e.symm), kept := h.kept.trans hk (fun k h1 h2 => by have := h.nB; omega) }
theorem GameIn.putR (h : GameIn w0 p B q N rp rB rq R W f f2 g g2 w) (hs : RStoreIn rp rB f' w') (hk : Kept (fun n => n = rB) w w') : GameIn w0 p B q N rp rB rq R W f f' g g2 w' :=
  { h with rs := hs, s := h.s.kept hk (fun e => h.rs.map.off h.s.cell e) h.a2, v := h.v.kept hk (fun e => h.rs.map.off h.v.cell e) h.a5,
           rv := h.rv.kept hk (fun e => h.rs.map.off h.rv.cell e) (fun e => h.a8 e.symm) (fun e => h.a9 e.symm), kept := h.kept.trans hk (fun k h1 h2 => by have := h.nrB; omega) }
theorem GameIn.putV (h : GameIn w0 p B q N rp rB rq R W f f2 g g2 w) (hv : ViewIn q N p g' w') (hk : Kept (fun n => n = N) w w') : GameIn w0 p B q N rp rB rq R W f f2 g' g2 w' :=
  { h with v := hv, s := h.s.kept hk (fun e => h.v.map.off h.s.cell e) h.a1, rs := h.rs.kept hk (fun e => h.v.map.off h.rs.cell e) (fun e => h.a5 e.symm),
           rv := h.rv.kept hk (fun e => h.v.map.off h.rv.cell e) (fun e => h.a6 e.symm) (fun e => h.a7 e.symm), kept := h.kept.trans hk (fun k h1 h2 => by have := h.nN; omega) }
theorem GameIn.getX (h : GameIn w0 p B q N rp rB rq R W f f2 g g2 w) (hv : RViewIn rq R W rp g' w') (hk : Kept (fun n => n = R) w w') : GameIn w0 p B q N rp rB rq R W f f2 g g' w' :=
  { h with rv := hv, s := h.s.kept hk (fun e => h.rv.r.off h.s.cell e) h.a3, rs := h.rs.kept hk (fun e => h.rv.r.off h.rs.cell e) h.a8,
           v := h.v.kept hk (fun e => h.rv.r.off h.v.cell e) h.a6, kept := h.kept.trans hk (fun k h1 h2 => by have := h.nR; omega) }
theorem GameIn.putX (h : GameIn w0 p B q N rp rB rq R W f f2 g g2 w) (hv : RViewIn rq R W rp g' w') (hk : Kept (fun n => n = W) w w') : GameIn w0 p B q N rp rB rq R W f f2 g g' w' :=
  { h with rv := hv, s := h.s.kept hk (fun e => h.rv.w.off h.s.cell e) h.a4, rs := h.rs.kept hk (fun e => h.rv.w.off h.rs.cell e) h.a9,
           v := h.v.kept hk (fun e => h.rv.w.off h.v.cell e) h.a7, kept := h.kept.trans hk (fun k h1 h2 => by have := h.nW; omega) }
end

theorem redo_le (g : VwF) : (redoF g).length ≤ 55 := by rw [redo_len]; exact upto_len _ _
theorem reads_le (g : VwF) : (readsF g).length ≤ 55 := upto_len _ _
end Go.Proofs.Ytkpcillgoeidaaa
