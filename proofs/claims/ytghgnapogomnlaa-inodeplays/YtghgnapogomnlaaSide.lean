/- One view beside its store, as a statement holds it: each call's end; no conditions but lengths. -/
import Derived.Test.YtghgnapogomnlaaFindF
import Derived.Test.YtghgnapogomnlaaKeep3
import Derived.Test.YtghgnapogomnlaaRuns
import Derived.Test.YtghgnapogomnlaaWithin
import Derived.Test.YtghgnapogomnlaaText
namespace Go.Proofs.Ytghgnapogomnlaa
open Go.RowKit
set_option maxRecDepth 100000

/-- What an ask has. -/
structure Q5 where
  k : Int
  i : Int
  a : Int
  b : Int
  d : Int
def QAt (w : World) (b o : Nat) (q : Q5) : Prop := w.cell? ⟨b, o, none⟩ = some (.int .i64 q.k) ∧ w.cell? ⟨b, o + 1, none⟩ = some (.int .i64 q.i) ∧ w.cell? ⟨b, o + 2, none⟩ = some (.int .i64 q.a) ∧ w.cell? ⟨b, o + 3, none⟩ = some (.int .i64 q.b) ∧ w.cell? ⟨b, o + 4, none⟩ = some (.int .i64 q.d)
theorem QAt.still {w w' : World} {b o : Nat} {q : Q5} (h : QAt w b o q) (hk : Kept (fun _ => False) w w') : QAt w' b o q :=
  ⟨hk.cell h.1 (fun x => x), hk.cell h.2.1 (fun x => x), hk.cell h.2.2.1 (fun x => x), hk.cell h.2.2.2.1 (fun x => x), hk.cell h.2.2.2.2 (fun x => x)⟩

structure SideIn (w0 : World) (T p B q N : Nat) (g : VwF) (w : World) : Prop where
  v : ViewIn q N p g w
  s : StoreIn p B f0 w
  t : w.cell? ⟨T, 1, none⟩ = some (.pointer (some ⟨q, 0, none⟩))
  ne : N ≠ B
  tn : T ≠ N
  kept : Kept (fun _ => False) w0 w
  nN : w0.heap.size ≤ N

section
variable {w0 : World} {T p B q N : Nat} {g g' : VwF} {w w' : World}
theorem SideIn.still (h : SideIn w0 T p B q N g w) (hk : Kept (fun _ => False) w w') : SideIn w0 T p B q N g w' := { h with v := h.v.still hk, s := h.s.still hk, t := hk.cell h.t (fun x => x), kept := h.kept.thru hk }
theorem SideIn.put (h : SideIn w0 T p B q N g w) (hv : ViewIn q N p g' w') (hk : Kept (fun n => n = N) w w') : SideIn w0 T p B q N g' w' :=
  { h with v := hv, s := h.s.kept hk (fun e => h.v.map.off h.s.cell e) (fun e => h.ne e.symm), t := hk.cell h.t h.tn, kept := h.kept.trans hk (fun k h1 h2 => by have := h.nN; omega) }
/-- Another block is written. -/
theorem SideIn.putX {X : Nat} {c : Array Value} {t : TypeId} (h : SideIn w0 T p B q N g w) (hX : w.heap[X]? = some (.cells c t (0, 0))) (hk : Kept (fun n => n = X) w w') (e1 : X ≠ q) (e2 : X ≠ p) (e3 : X ≠ T) (e4 : w0.heap.size ≤ X) : SideIn w0 T p B q N g w' :=
  { h with v := h.v.kept hk (fun e => e1 e.symm) (fun e => h.v.map.off hX e.symm), s := h.s.kept hk (fun e => e2 e.symm) (fun e => h.s.map.off hX e.symm), t := hk.cell h.t (fun e => e3 e.symm), kept := h.kept.trans hk (fun k h1 h2 => by omega) }

theorem KeepIn.side {rp rB rq R W : Nat} {f2 : StF} {g2 : VwF} (h : KeepIn w0 T p B q N rp rB rq R W f0 f2 g g2 w) : SideIn w0 T p B q N g w :=
  ⟨h.game.v, h.game.s, h.cells.2.1, h.nB, h.game.v.map.off h.cell, h.game.kept, h.game.nN⟩

theorem side_new (w : World) : Calls Try.prog 15 #[.slice none 0 0] w fun e w' => ∃ T p B q N, e = .returned (.pointer (some ⟨T, 0, none⟩)) ∧ SideIn w T p B q N g0 w' ∧ w.heap.size ≤ T := by
  refine (keepnew_w none 0 0 0 0 (fun _ => ((0, 0), zeroV)) (fun h => by omega) w (fun i hi => by omega)).mono ?_
  rintro e w1 ⟨T, p, B, q, N, rp, rB, rq, R, W, rfl, h, hT⟩
  exact ⟨T, p, B, q, N, rfl, h.side, hT⟩

theorem side_alloc (h : SideIn w0 T p B q N g w) (typ : Int) : Calls Try.prog 10 #[.pointer (some ⟨q, 0, none⟩), .int .i64 typ] w
    fun e w' => e = .returned (allocV (allocA f0 g)) ∧ SideIn w0 T p B q N (allocT f0 g typ) w' ∧ Kept (fun n => n = N) w w' := by
  refine (alloc_w q N p B f0 g typ w h.v h.s h.ne).mono ?_
  rintro e w1 ⟨rfl, hv, hk⟩
  exact ⟨rfl, h.put hv hk, hk⟩

theorem side_change (h : SideIn w0 T p B q N g w) (i a b : Int) : Calls Try.prog 13 #[.pointer (some ⟨q, 0, none⟩), .int .i64 i, .int .i64 a, .int .i64 b] w
    fun e w' => e = .returned (.bool (isI f0 g i)) ∧ SideIn w0 T p B q N (changeT f0 g i a b) w' ∧ Kept (fun n => n = N) w w' := by
  refine (change_w q N p B f0 g i a b w h.v h.s h.ne).mono ?_
  rintro e w1 ⟨rfl, hv, hk⟩
  exact ⟨rfl, h.put hv hk, hk⟩

theorem side_is (h : SideIn w0 T p B q N g w) (i : Int) : Calls Try.prog 14 #[.pointer (some ⟨q, 0, none⟩), .int .i64 i] w
    fun e w' => e = .returned (.bool (isI f0 g i)) ∧ SideIn w0 T p B q N (findT g i) w' ∧ Kept (fun n => n = N) w w' := by
  refine (is_w q N p B f0 g i w h.v h.s h.ne).mono ?_
  rintro e w1 ⟨rfl, hv, hk⟩
  exact ⟨rfl, h.put hv hk, hk⟩

theorem side_type (h : SideIn w0 T p B q N g w) (i : Int) : Calls Try.prog 25 #[.pointer (some ⟨q, 0, none⟩), .int .i64 i] w
    fun e w' => e = .returned (.int .i64 (findV f0 g i).n0) ∧ SideIn w0 T p B q N (findT g i) w' ∧ Kept (fun n => n = N) w w' := by
  refine (type_w q N p B f0 g i w h.v h.s h.ne).mono ?_
  rintro e w1 ⟨rfl, hv, hk⟩
  exact ⟨rfl, h.put hv hk, hk⟩

theorem side_links (h : SideIn w0 T p B q N g w) (i : Int) : Calls Try.prog 26 #[.pointer (some ⟨q, 0, none⟩), .int .i64 i] w
    fun e w' => e = .returned (.int .i64 (findV f0 g i).n1) ∧ SideIn w0 T p B q N (findT g i) w' ∧ Kept (fun n => n = N) w w' := by
  refine (links_w q N p B f0 g i w h.v h.s h.ne).mono ?_
  rintro e w1 ⟨rfl, hv, hk⟩
  exact ⟨rfl, h.put hv hk, hk⟩

theorem side_size (h : SideIn w0 T p B q N g w) (i : Int) : Calls Try.prog 27 #[.pointer (some ⟨q, 0, none⟩), .int .i64 i] w
    fun e w' => e = .returned (.int .i64 (findV f0 g i).s.size) ∧ SideIn w0 T p B q N (findT g i) w' ∧ Kept (fun n => n = N) w w' := by
  refine (size_w q N p B f0 g i w h.v h.s h.ne).mono ?_
  rintro e w1 ⟨rfl, hv, hk⟩
  exact ⟨rfl, h.put hv hk, hk⟩

theorem side_read (h : SideIn w0 T p B q N g w) (i off n : Int) (hz : (findV f0 g i).s.size ≤ 200) : Calls Try.prog 12 #[.pointer (some ⟨q, 0, none⟩), .int .i64 i, .int .i64 off, .int .i64 n] w
    fun e w' => e = .returned (.string (partF (findV f0 g i).s off n)) ∧ SideIn w0 T p B q N (findT g i) w' ∧ Kept (fun n => n = N) w w' := by
  refine (read_w q N p B f0 g i off n w h.v h.s h.ne (by omega)).mono ?_
  rintro e w1 ⟨rfl, hv, hk⟩
  exact ⟨rfl, h.put hv hk, hk⟩

theorem side_write (h : SideIn w0 T p B q N g w) (i off : Int) (d : ByteArray) (hz : (findV f0 g i).s.size ≤ 200) : Calls Try.prog 11 #[.pointer (some ⟨q, 0, none⟩), .int .i64 i, .int .i64 off, .string d] w
    fun e w' => e = .returned (.int .i64 (writeA f0 g i off d)) ∧ SideIn w0 T p B q N (writeT f0 g i off d) w' ∧ Kept (fun n => n = N) w w' := by
  refine (write_w q N p B f0 g i off d w h.v h.s h.ne (by omega)).mono ?_
  rintro e w1 ⟨rfl, hv, hk⟩
  exact ⟨rfl, h.put hv hk, hk⟩
end
end Go.Proofs.Ytghgnapogomnlaa
