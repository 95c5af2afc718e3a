
/- Inodes: the reference's change, read and write; through one view and through two; no conditions but lengths. -/
import Derived.Test.YtdgkhfhlbjpaoaaSmA
import Derived.Test.YtdgkhfhlbjpaoaaInA
import Derived.Test.YtdgkhfhlbjpaoaaKeA
import Derived.Deep.CutBlock
namespace Go.Proofs.Ytdgkhfhlbjpaoaa
open Go.RowKit
set_option maxRecDepth 100000

section
variable {f : StF} {g : VwF}
theorem Small.found (h : Small f g) (i : Int) : (findV f g i).s.size ≤ 200 := by
  unfold findV
  split
  · split
    · exact zero_small
    · exact h.val _
  · exact zero_small
theorem Small.find (h : Small f g) (i : Int) : Small f (findT g i) := by unfold findT; split; exact h.get _; exact h
theorem Small.alloc (h : Small f g) (typ : Int) : Small f (allocT f g typ) := by
  unfold allocT
  split
  · exact ((h.get _).put (9, 0) (x := withN (vgetF f g (9, 0)) (orN (vgetF f g (9, 0)).n0 (allocA f g))) (h.val (9, 0))).put (10, allocA f g) (x := numV typ) (by show ByteArray.empty.size ≤ 200; decide)
  · exact h.get _
theorem Small.change (h : Small f g) (i a b : Int) : Small f (changeT f g i a b) := by
  unfold changeT
  split
  · split
    · exact (h.find i).put _ (h.found i)
    · have h1 : Small f (vputT (findT g i) (10, i) zeroV) := (h.find i).put _ zero_small
      exact (h1.get _).put _ (h1.val (9, 0))
  · exact h.find i
theorem Small.write (h : Small f g) (i off : Int) (d : ByteArray) : Small f (writeT f g i off d) := by
  unfold writeT
  split
  · rename_i hok
    obtain ⟨-, h1, h2, h3⟩ := wr_is hok
    have hs : (overF (findV f g i).s off.toNat (cutD d off.toNat)).size ≤ 200 := by
      rw [over_size _ _ _ (by omega), cutD_size]
      have := h.found i
      omega
    exact (h.find i).put (10, i) (x := withS (findV f g i) (overF (findV f g i).s off.toNat (cutD d off.toNat))) hs
  · exact h.find i
end
theorem find_again (g : VwF) (i : Int) : findT (findT g i) i = findT g i := by
  unfold findT
  split
  · exact (get_twice (f := fun _ => none)).2
  · rfl

end Go.Proofs.Ytdgkhfhlbjpaoaa

namespace Go.Proofs.Ytdgkhfhlbjpaoaa
open Go.RowKit
set_option maxRecDepth 100000
set_option linter.unusedSimpArgs false

theorem is_val {f : StF} {g : VwF} {i : Int} (h : isI f g i = true) : vgetF f g (10, i) = findV f g i ∧ findT g i = vgetT g (10, i) := by
  have hr := is_range h
  unfold isI findV at h
  unfold findV findT
  rw [if_pos hr] at h ⊢
  rw [if_pos hr]
  by_cases h0 : (vgetF f g (10, i)).n0 = 0
  · rw [if_pos h0] at h; simp [zeroV] at h
  · rw [if_neg h0]; exact ⟨rfl, rfl⟩

theorem not_is {f : StF} {g : VwF} {i : Int} (h : isI f g i = false) : findV f g i = zeroV := by
  unfold isI findV at h
  unfold findV
  split
  · rename_i hr
    rw [if_pos hr] at h
    split
    · rfl
    · rename_i h0; rw [if_neg h0] at h; simp at h; exact absurd h h0
  · rfl

theorem over_ext {s t : ByteArray} {o m : Nat} (hm : m = min s.size (o + t.size)) : s.extract 0 o ++ t ++ s.extract m s.size = overF s o t := by
  unfold overF
  apply bl_inj
  rw [bl_app, bl_app, bl_extract, bl_extract, bl_bs, List.drop_zero, Nat.sub_zero]
  congr 1
  have e1 : (bl s).length = s.size := bl_len s
  by_cases h : o + t.size ≤ s.size
  · have : m = o + t.size := by omega
    rw [this, List.take_of_length_le (by rw [List.length_drop]; omega)]
  · have : m = s.size := by omega
    rw [this, Nat.sub_self, List.take_zero, List.drop_eq_nil_of_le (by omega)]

end Go.Proofs.Ytdgkhfhlbjpaoaa

namespace Go.Proofs.Ytdgkhfhlbjpaoaa
open Go.RowKit
set_option maxRecDepth 100000
set_option linter.unusedSimpArgs false

theorem gone_same {f : StF} {g : VwF} {i : Int} (h : 1 ≤ i) (h' : i < 16) : goneT f g i = vputT (vputT (vgetT g (9, 0)) (9, 0) (withN (vgetF f g (9, 0)) (clrN (vgetF f g (9, 0)).n0 i))) (10, i) zeroV := by
  have hi := plc_ik h h'
  have ht := plc_tk
  have hne := ik_ne i
  unfold goneT
  rw [get_put_other hi hne]
  generalize withN (vgetF f g (9, 0)) (clrN (vgetF f g (9, 0)).n0 i) = y
  have e1 : noteF (vgetT (vputT g (10, i) zeroV) (9, 0)) (9, 0) = noteF (vgetT g (9, 0)) (9, 0) := by
    rw [note_get ht, if_pos rfl, note_get ht, if_pos rfl, note_put hi, if_neg hne]
  have e2 : noteF (vputT (vgetT g (9, 0)) (9, 0) y) (10, i) = noteF g (10, i) := by
    rw [note_put ht, if_neg (fun e => hne e.symm), note_get ht, if_neg (fun e => hne e.symm)]
  funext j
  unfold vputT at e1 e2 ⊢
  rw [if_pos ht, if_pos hi, if_pos ht] at *
  simp only [if_pos hi, if_pos ht] at *
  rw [e1, e2]
  unfold vgetT
  simp only [if_pos ht]
  unfold upd
  by_cases c1 : j = (9, 0)
  · subst c1; simp
  · by_cases c2 : j = (10, i)
    · subst c2; simp [c1]
    · simp [c1, c2]

end Go.Proofs.Ytdgkhfhlbjpaoaa

namespace Go.Proofs.Ytdgkhfhlbjpaoaa
open Go.RowKit
set_option maxRecDepth 100000

section
variable {w0 : World} {T p B q N rp rB rq R W : Nat} {f f2 : StF} {g g2 : VwF} {w : World}

theorem kv_alloc (h : KeepIn w0 T p B q N rp rB rq R W f f2 g g2 w) (typ : Int) : Calls Try.prog 8 #[.pointer (some ⟨q, 0, none⟩), .int .i64 typ] w
    fun e w' => e = .returned (allocV (allocA f g)) ∧ KeepIn w0 T p B q N rp rB rq R W f f2 (allocT f g typ) g2 w' ∧ Kept (fun n => n = N) w w' := by
  refine (alloc_w q N p B f g typ w h.game.v h.game.s h.nB).mono ?_
  rintro e w1 ⟨rfl, hv, hk⟩
  exact ⟨rfl, h.putV hv hk, hk⟩

theorem kv_change (h : KeepIn w0 T p B q N rp rB rq R W f f2 g g2 w) (i a b : Int) : Calls Try.prog 10 #[.pointer (some ⟨q, 0, none⟩), .int .i64 i, .int .i64 a, .int .i64 b] w
    fun e w' => e = .returned (.bool (isI f g i)) ∧ KeepIn w0 T p B q N rp rB rq R W f f2 (changeT f g i a b) g2 w' ∧ Kept (fun n => n = N) w w' := by
  refine (change_w q N p B f g i a b w h.game.v h.game.s h.nB).mono ?_
  rintro e w1 ⟨rfl, hv, hk⟩
  exact ⟨rfl, h.putV hv hk, hk⟩

theorem kv_is (h : KeepIn w0 T p B q N rp rB rq R W f f2 g g2 w) (i : Int) : Calls Try.prog 17 #[.pointer (some ⟨q, 0, none⟩), .int .i64 i] w
    fun e w' => e = .returned (.bool (isI f g i)) ∧ KeepIn w0 T p B q N rp rB rq R W f f2 (findT g i) g2 w' ∧ Kept (fun n => n = N) w w' := by
  refine (is_w q N p B f g i w h.game.v h.game.s h.nB).mono ?_
  rintro e w1 ⟨rfl, hv, hk⟩
  exact ⟨rfl, h.putV hv hk, hk⟩

theorem kv_type (h : KeepIn w0 T p B q N rp rB rq R W f f2 g g2 w) (i : Int) : Calls Try.prog 48 #[.pointer (some ⟨q, 0, none⟩), .int .i64 i] w
    fun e w' => e = .returned (.int .i64 (findV f g i).n0) ∧ KeepIn w0 T p B q N rp rB rq R W f f2 (findT g i) g2 w' ∧ Kept (fun n => n = N) w w' := by
  refine (type_w q N p B f g i w h.game.v h.game.s h.nB).mono ?_
  rintro e w1 ⟨rfl, hv, hk⟩
  exact ⟨rfl, h.putV hv hk, hk⟩

theorem kv_links (h : KeepIn w0 T p B q N rp rB rq R W f f2 g g2 w) (i : Int) : Calls Try.prog 18 #[.pointer (some ⟨q, 0, none⟩), .int .i64 i] w
    fun e w' => e = .returned (.int .i64 (findV f g i).n1) ∧ KeepIn w0 T p B q N rp rB rq R W f f2 (findT g i) g2 w' ∧ Kept (fun n => n = N) w w' := by
  refine (links_w q N p B f g i w h.game.v h.game.s h.nB).mono ?_
  rintro e w1 ⟨rfl, hv, hk⟩
  exact ⟨rfl, h.putV hv hk, hk⟩

theorem kv_size (h : KeepIn w0 T p B q N rp rB rq R W f f2 g g2 w) (i : Int) : Calls Try.prog 49 #[.pointer (some ⟨q, 0, none⟩), .int .i64 i] w
    fun e w' => e = .returned (.int .i64 (findV f g i).s.size) ∧ KeepIn w0 T p B q N rp rB rq R W f f2 (findT g i) g2 w' ∧ Kept (fun n => n = N) w w' := by
  refine (size_w q N p B f g i w h.game.v h.game.s h.nB).mono ?_
  rintro e w1 ⟨rfl, hv, hk⟩
  exact ⟨rfl, h.putV hv hk, hk⟩

theorem kv_read (h : KeepIn w0 T p B q N rp rB rq R W f f2 g g2 w) (i off n : Int) (hz : (findV f g i).s.size ≤ 200) : Calls Try.prog 55 #[.pointer (some ⟨q, 0, none⟩), .int .i64 i, .int .i64 off, .int .i64 n] w
    fun e w' => e = .returned (.string (partF (findV f g i).s off n)) ∧ KeepIn w0 T p B q N rp rB rq R W f f2 (findT g i) g2 w' ∧ Kept (fun n => n = N) w w' := by
  refine (read_w q N p B f g i off n w h.game.v h.game.s h.nB (by omega)).mono ?_
  rintro e w1 ⟨rfl, hv, hk⟩
  exact ⟨rfl, h.putV hv hk, hk⟩

theorem kv_write (h : KeepIn w0 T p B q N rp rB rq R W f f2 g g2 w) (i off : Int) (d : ByteArray) (hz : (findV f g i).s.size ≤ 200) : Calls Try.prog 9 #[.pointer (some ⟨q, 0, none⟩), .int .i64 i, .int .i64 off, .string d] w
    fun e w' => e = .returned (.int .i64 (writeA f g i off d)) ∧ KeepIn w0 T p B q N rp rB rq R W f f2 (writeT f g i off d) g2 w' ∧ Kept (fun n => n = N) w w' := by
  refine (write_w q N p B f g i off d w h.game.v h.game.s h.nB (by omega)).mono ?_
  rintro e w1 ⟨rfl, hv, hk⟩
  exact ⟨rfl, h.putV hv hk, hk⟩

end

section
variable {w0 : World} {T p B q N : Nat} {g g' : VwF} {w w' : World}
theorem SideIn.few (h : SideIn w0 T p B q N g w) (d : Int) : (findV f0 g d).s.size ≤ 100000 := by have := h.sm.found d; omega
theorem side_alloc (h : SideIn w0 T p B q N g w) (typ : Int) : Calls Try.prog 8 #[.pointer (some ⟨q, 0, none⟩), .int .i64 typ] w
    fun e w' => e = .returned (allocV (allocA f0 g)) ∧ SideIn w0 T p B q N (allocT f0 g typ) w' ∧ Kept (fun n => n = N) w w' := by
  refine (alloc_w q N p B f0 g typ w h.v h.s h.ne).mono ?_
  rintro e w1 ⟨rfl, hv, hk⟩
  exact ⟨rfl, h.put hv (h.sm.alloc typ) hk, hk⟩

theorem side_change (h : SideIn w0 T p B q N g w) (i a b : Int) : Calls Try.prog 10 #[.pointer (some ⟨q, 0, none⟩), .int .i64 i, .int .i64 a, .int .i64 b] w
    fun e w' => e = .returned (.bool (isI f0 g i)) ∧ SideIn w0 T p B q N (changeT f0 g i a b) w' ∧ Kept (fun n => n = N) w w' := by
  refine (change_w q N p B f0 g i a b w h.v h.s h.ne).mono ?_
  rintro e w1 ⟨rfl, hv, hk⟩
  exact ⟨rfl, h.put hv (h.sm.change i a b) hk, hk⟩

theorem side_is (h : SideIn w0 T p B q N g w) (i : Int) : Calls Try.prog 17 #[.pointer (some ⟨q, 0, none⟩), .int .i64 i] w
    fun e w' => e = .returned (.bool (isI f0 g i)) ∧ SideIn w0 T p B q N (findT g i) w' ∧ Kept (fun n => n = N) w w' := by
  refine (is_w q N p B f0 g i w h.v h.s h.ne).mono ?_
  rintro e w1 ⟨rfl, hv, hk⟩
  exact ⟨rfl, h.put hv (h.sm.find i) hk, hk⟩

theorem side_type (h : SideIn w0 T p B q N g w) (i : Int) : Calls Try.prog 48 #[.pointer (some ⟨q, 0, none⟩), .int .i64 i] w
    fun e w' => e = .returned (.int .i64 (findV f0 g i).n0) ∧ SideIn w0 T p B q N (findT g i) w' ∧ Kept (fun n => n = N) w w' := by
  refine (type_w q N p B f0 g i w h.v h.s h.ne).mono ?_
  rintro e w1 ⟨rfl, hv, hk⟩
  exact ⟨rfl, h.put hv (h.sm.find i) hk, hk⟩

theorem side_links (h : SideIn w0 T p B q N g w) (i : Int) : Calls Try.prog 18 #[.pointer (some ⟨q, 0, none⟩), .int .i64 i] w
    fun e w' => e = .returned (.int .i64 (findV f0 g i).n1) ∧ SideIn w0 T p B q N (findT g i) w' ∧ Kept (fun n => n = N) w w' := by
  refine (links_w q N p B f0 g i w h.v h.s h.ne).mono ?_
  rintro e w1 ⟨rfl, hv, hk⟩
  exact ⟨rfl, h.put hv (h.sm.find i) hk, hk⟩

theorem side_size (h : SideIn w0 T p B q N g w) (i : Int) : Calls Try.prog 49 #[.pointer (some ⟨q, 0, none⟩), .int .i64 i] w
    fun e w' => e = .returned (.int .i64 (findV f0 g i).s.size) ∧ SideIn w0 T p B q N (findT g i) w' ∧ Kept (fun n => n = N) w w' := by
  refine (size_w q N p B f0 g i w h.v h.s h.ne).mono ?_
  rintro e w1 ⟨rfl, hv, hk⟩
  exact ⟨rfl, h.put hv (h.sm.find i) hk, hk⟩

theorem side_read (h : SideIn w0 T p B q N g w) (i off n : Int) : Calls Try.prog 55 #[.pointer (some ⟨q, 0, none⟩), .int .i64 i, .int .i64 off, .int .i64 n] w
    fun e w' => e = .returned (.string (partF (findV f0 g i).s off n)) ∧ SideIn w0 T p B q N (findT g i) w' ∧ Kept (fun n => n = N) w w' := by
  refine (read_w q N p B f0 g i off n w h.v h.s h.ne (by have := h.few i; omega)).mono ?_
  rintro e w1 ⟨rfl, hv, hk⟩
  exact ⟨rfl, h.put hv (h.sm.find i) hk, hk⟩

theorem side_write (h : SideIn w0 T p B q N g w) (i off : Int) (d : ByteArray) : Calls Try.prog 9 #[.pointer (some ⟨q, 0, none⟩), .int .i64 i, .int .i64 off, .string d] w
    fun e w' => e = .returned (.int .i64 (writeA f0 g i off d)) ∧ SideIn w0 T p B q N (writeT f0 g i off d) w' ∧ Kept (fun n => n = N) w w' := by
  refine (write_w q N p B f0 g i off d w h.v h.s h.ne (by have := h.few i; omega)).mono ?_
  rintro e w1 ⟨rfl, hv, hk⟩
  exact ⟨rfl, h.put hv (h.sm.write i off d) hk, hk⟩
end
end Go.Proofs.Ytdgkhfhlbjpaoaa
