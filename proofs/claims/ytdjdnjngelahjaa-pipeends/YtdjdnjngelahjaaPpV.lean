
/- What the statements on pipes keep: plain facts; no conditions. -/
import Derived.Test.YtdjdnjngelahjaaPpK
namespace Go.Proofs.Ytdjdnjngelahjaa
open Go.RowKit
set_option maxRecDepth 100000

theorem wrap_small {x : Int} (h : -100 ≤ x) (h' : x ≤ 100) : wrap64 x = x := by unfold wrap64; omega
theorem bs_nil : bs [] = ByteArray.empty := rfl
theorem size_nil (s : ByteArray) (h : s.size = 0) : bl s = [] := List.eq_nil_of_length_eq_zero (by rw [bl_len]; exact h)

/-- Pipe 0 is there, with its two ends, and has the bytes s. -/
structure OrdF (g : VwF) (s : ByteArray) : Prop where
  is : isP f0 g 0 = true
  v : pipV f0 g 0 = withS newP s
theorem ord_new : OrdF (palT f0 g0) ByteArray.empty := ⟨by decide +kernel, by kernel_rfl⟩
section
variable {g : VwF} {s : ByteArray}
theorem OrdF.ok (h : OrdF g s) {n : Int} (hn : 0 ≤ n) : prdOk f0 g 0 n = true := by unfold prdOk; rw [h.is, decide_eq_true hn]; rfl
theorem OrdF.rdS (h : OrdF g s) {n : Int} (hn : 0 ≤ n) : prdS f0 g 0 n = bs ((bl s).take n.toNat) := by unfold prdS; rw [if_pos (h.ok hn), h.v]; rfl
theorem OrdF.rdK (h : OrdF g s) {n : Int} (hn : 1 ≤ n) : prdK f0 g 0 n = if s.size = 0 then 2 else 0 := by
  unfold prdK
  rw [if_pos (h.ok (by omega)), h.v]
  by_cases c : s.size = 0
  · rw [if_pos c, if_neg]
    show ¬ (n = 0 ∨ s.size ≠ 0 ∨ (1 : Int) ≤ 0)
    omega
  · rw [if_neg c, if_pos]
    show n = 0 ∨ s.size ≠ 0 ∨ (1 : Int) ≤ 0
    omega
theorem OrdF.rd (h : OrdF g s) {n : Int} (hn : 0 ≤ n) : OrdF (prdT f0 g 0 n) (bs ((bl s).drop n.toNat)) :=
  ⟨by rw [isP_eq (prd_tab 0 n)]; exact h.is, by rw [prd_pip, if_pos ⟨rfl, h.ok hn⟩, h.v]; rfl⟩
theorem rd_join (s : ByteArray) (n : Nat) : bs ((bl s).take n) ++ bs ((bl s).drop n) = s := by
  apply bl_inj
  rw [bl_app, bl_bs, bl_bs, List.take_append_drop]
theorem OrdF.wrA (h : OrdF g s) {d : ByteArray} (hd : d.size ≠ 0) : pwrA f0 g 0 d = ((pwrN (withS newP s) d : Nat) : Int) := by
  unfold pwrA
  have h1 : 0 < (withS newP s).n0 := show (0 : Int) < 1 by omega
  rw [if_pos h.is, h.v, if_pos h1, if_neg hd]
theorem OrdF.wrK (h : OrdF g s) {d : ByteArray} (hd : d.size ≠ 0) : pwrK f0 g 0 d = if s.size < 16 then 0 else 2 := by
  unfold pwrK
  have h1 : 0 < (withS newP s).n0 := show (0 : Int) < 1 by omega
  rw [if_pos h.is, h.v, if_pos h1]
  by_cases c : s.size < 16
  · rw [if_pos c, if_pos (show d.size = 0 ∨ (withS newP s).s.size < 16 from .inr c)]
  · rw [if_neg c, if_neg]
    show ¬ (d.size = 0 ∨ s.size < 16)
    omega
theorem OrdF.wr (h : OrdF g s) (d : ByteArray) : OrdF (pwrT f0 g 0 d) (moreS (withS newP s) d) := by
  refine ⟨by rw [isP_eq (pwr_tab 0 d)]; exact h.is, ?_⟩
  rw [pwr_pip, h.v]
  by_cases c : pwrGo (withS newP s) d = true
  · rw [if_pos ⟨rfl, h.is, c⟩]; rfl
  · rw [if_neg (fun e => c e.2.2)]
    have hc : ¬ (d.size ≠ 0 ∧ s.size < 16) := by
      intro e
      apply c
      unfold pwrGo
      simp only [Bool.and_eq_true, decide_eq_true_eq]
      exact ⟨⟨show (0 : Int) < 1 by omega, e.1⟩, e.2⟩
    have hm : moreS (withS newP s) d = s := by
      apply bl_inj
      unfold moreS pwrN
      rw [bl_bs]
      show bl s ++ List.take (min (16 - s.size) d.size) (bl d) = bl s
      have : min (16 - s.size) d.size = 0 := by omega
      rw [this, List.take_zero, List.append_nil]
    rw [hm]
theorem wr_join (o s d : ByteArray) : (o ++ s) ++ d.extract 0 (pwrN (withS newP s) d) = o ++ moreS (withS newP s) d := by
  apply bl_inj
  unfold moreS
  rw [bl_app, bl_app, bl_app, bl_bs, bl_extract, List.drop_zero, Nat.sub_zero, List.append_assoc]
  rfl
theorem head_of (o s : ByteArray) : (o ++ s).extract 0 o.size = o := by
  apply bl_inj
  rw [bl_extract, bl_app, List.drop_zero, Nat.sub_zero, ← bl_len, List.take_left]
/-- Behind the writer's going. -/
theorem OrdF.shut (h : OrdF g s) (hs : s.size ≤ 16) :
    prdS f0 (endT f0 g 0 true (-1)) 0 99 = s ∧ prdK f0 (endT f0 g 0 true (-1)) 0 99 = 0 ∧
    prdS f0 (prdT f0 (endT f0 g 0 true (-1)) 0 99) 0 99 = ByteArray.empty ∧ prdK f0 (prdT f0 (endT f0 g 0 true (-1)) 0 99) 0 99 = 0 := by
  have e0 : endV (pipV f0 g 0) true (-1) = { withS newP s with n1 := 0 } := by
    rw [h.v]
    show ({ withS newP s with n1 := wrap64 (1 + -1) } : V) = _
    rw [wrap_small (by omega) (by omega)]; rfl
  have hl : leftV (endV (pipV f0 g 0) true (-1)) := by rw [e0]; exact .inl (show (0 : Int) < 1 by omega)
  have e1 : pipV f0 (endT f0 g 0 true (-1)) 0 = { withS newP s with n1 := 0 } := by rw [end_pip, if_pos ⟨rfl, h.is⟩, if_pos hl, e0]
  have i1 : isP f0 (endT f0 g 0 true (-1)) 0 = true := by rw [isP_eq (g := g) (by rw [end_tab, if_neg (fun c => c.2 hl)])]; exact h.is
  generalize endT f0 g 0 true (-1) = g1 at *
  have k1 : prdOk f0 g1 0 99 = true := by unfold prdOk; rw [i1]; rfl
  have t1 : List.take 99 (bl s) = bl s := List.take_of_length_le (by rw [bl_len]; omega)
  have d1 : List.drop 99 (bl s) = [] := List.drop_eq_nil_of_le (by rw [bl_len]; omega)
  have i2 : isP f0 (prdT f0 g1 0 99) 0 = true := by rw [isP_eq (prd_tab 0 99)]; exact i1
  have k2 : prdOk f0 (prdT f0 g1 0 99) 0 99 = true := by unfold prdOk; rw [i2]; rfl
  have e2 : pipV f0 (prdT f0 g1 0 99) 0 = { withS newP ByteArray.empty with n1 := 0 } := by
    rw [prd_pip, if_pos ⟨rfl, k1⟩, e1]
    show ({ withS newP (bs (List.drop 99 (bl s))) with n1 := 0 } : V) = _
    rw [d1]; rfl
  refine ⟨?_, ?_, ?_, ?_⟩
  · unfold prdS
    rw [if_pos k1, e1]
    show bs (List.take 99 (bl s)) = s
    rw [t1, bs_bl]
  · unfold prdK
    rw [if_pos k1, e1, if_pos (.inr (.inr (show (0 : Int) ≤ 0 by omega)))]
  · unfold prdS
    rw [if_pos k2, e2]
    rfl
  · unfold prdK
    rw [if_pos k2, e2, if_pos (.inr (.inr (show (0 : Int) ≤ 0 by omega)))]
end

/-- What so many Allocs leave of a new store. -/
def pT : Nat → VwF
  | 0 => g0
  | n + 1 => palT f0 (pT n)
theorem pT_free : ∀ k : Fin 4, palA f0 (pT k.val) = (k.val : Int) := by decide +kernel
theorem pT_at {k : Nat} (h : k < 4) : palV (palA f0 (pT k)) = .tuple #[.int .i64 (k : Int), .bool true] := by
  rw [pT_free ⟨k, h⟩]
  unfold palV
  rw [if_pos (show ((k : Nat) : Int) < 4 by omega)]
  simp; omega
theorem pT_full : palV (palA f0 (pT 4)) = .tuple #[.int .i64 0, .bool false] := by
  have : palA f0 (pT 4) = 4 := by decide +kernel
  rw [this]; rfl

def cntV (r w : Int) : V := { newP with n0 := r, n1 := w }
/-- Pipe 2 has r readers and w writers, all others are had. -/
structure HadF (g : VwF) (r w : Int) : Prop where
  t : (tabV f0 g).n0 = 15
  v : pipV f0 g 2 = cntV r w
/-- Pipe 2 alone is gone. -/
def GoneF (g : VwF) : Prop := (tabV f0 g).n0 = 11
theorem had_new : HadF (palT f0 (pT 4)) 1 1 := ⟨by decide +kernel, by kernel_rfl⟩
theorem bit15 : hasB 15 2 = true ∧ hasB 15 1 = true ∧ clrN 15 2 = 11 ∧ hasB 11 2 = false ∧ hasB 11 1 = true ∧ freeP 11 = 2 := by decide +kernel
section
variable {g : VwF} {r w : Int}
theorem HadF.is (h : HadF g r w) : isP f0 g 2 = true := by rw [(isP_in (by omega)).1, h.t]; exact bit15.1
theorem HadF.isT (h : HadF g r w) (q : Int) : HadF (isPT g q) r w := ⟨by rw [tab_isPT]; exact h.t, by rw [pip_isPT]; exact h.v⟩
theorem HadF.wrA (h : HadF g r w) (hr : 0 ≤ r) : pwrA f0 g 2 ⟨#[]⟩ = (if r = 0 then -1 else 0) ∧ pwrK f0 g 2 ⟨#[]⟩ = if r = 0 then 1 else 0 := by
  unfold pwrA pwrK
  rw [if_pos h.is, if_pos h.is, h.v]
  show (if 0 < r then _ else _) = _ ∧ (if 0 < r then _ else _) = _
  by_cases c : r = 0
  · rw [if_pos c, if_pos c, if_neg (by omega), if_neg (by omega)]; exact ⟨rfl, rfl⟩
  · have h1 : 0 < r := by omega
    rw [if_neg c, if_neg c, if_pos h1, if_pos h1, if_pos (show (⟨#[]⟩ : ByteArray).size = 0 from rfl), if_pos (.inl (show (⟨#[]⟩ : ByteArray).size = 0 from rfl))]; exact ⟨rfl, rfl⟩
theorem HadF.wr (h : HadF g r w) : HadF (pwrT f0 g 2 ⟨#[]⟩) r w := by
  refine ⟨by rw [pwr_tab]; exact h.t, ?_⟩
  rw [pwr_pip, if_neg]
  · exact h.v
  · intro e
    have := e.2.2
    unfold pwrGo at this
    simp only [Bool.and_eq_true, decide_eq_true_eq] at this
    exact this.1.2 rfl
theorem HadF.ok (h : HadF g r w) : prdOk f0 g 2 1 = true := by unfold prdOk; rw [h.is]; rfl
theorem HadF.rdK (h : HadF g r w) : prdS f0 g 2 1 = ByteArray.empty ∧ prdK f0 g 2 1 = if w ≤ 0 then 0 else 2 := by
  unfold prdS prdK
  rw [if_pos h.ok, if_pos h.ok, h.v]
  refine ⟨rfl, ?_⟩
  by_cases c : w ≤ 0
  · rw [if_pos c, if_pos (.inr (.inr c))]
  · rw [if_neg c, if_neg]
    show ¬ ((1 : Int) = 0 ∨ (0 : Nat) ≠ 0 ∨ w ≤ 0)
    omega
theorem HadF.rd (h : HadF g r w) : HadF (prdT f0 g 2 1) r w := by
  refine ⟨by rw [prd_tab]; exact h.t, ?_⟩
  rw [prd_pip, if_pos ⟨rfl, h.ok⟩, h.v]
  rfl
theorem HadF.endR (h : HadF g r w) {b : Int} (hr : -50 ≤ r + b ∧ r + b ≤ 50) (hl : 0 < r + b ∨ 0 < w) : HadF (endT f0 g 2 false b) (r + b) w := by
  have e : endV (pipV f0 g 2) false b = cntV (r + b) w := by
    rw [h.v]
    show ({ cntV r w with n0 := wrap64 (r + b) } : V) = _
    rw [wrap_small (by omega) (by omega)]; rfl
  refine ⟨?_, ?_⟩
  · rw [end_tab, e, if_neg (fun c => c.2 hl)]; exact h.t
  · rw [end_pip, e, if_pos ⟨rfl, h.is⟩, if_pos (show leftV (cntV (r + b) w) from hl)]
theorem HadF.endW (h : HadF g r w) {b : Int} (hr : -50 ≤ w + b ∧ w + b ≤ 50) (hl : 0 < r ∨ 0 < w + b) : HadF (endT f0 g 2 true b) r (w + b) := by
  have e : endV (pipV f0 g 2) true b = cntV r (w + b) := by
    rw [h.v]
    show ({ cntV r w with n1 := wrap64 (w + b) } : V) = _
    rw [wrap_small (by omega) (by omega)]; rfl
  refine ⟨?_, ?_⟩
  · rw [end_tab, e, if_neg (fun c => c.2 hl)]; exact h.t
  · rw [end_pip, e, if_pos ⟨rfl, h.is⟩, if_pos (show leftV (cntV r (w + b)) from hl)]
theorem HadF.goneR (h : HadF g r w) (hr : r = 1) (hw : w = 0) : GoneF (endT f0 g 2 false (-1)) := by
  have e : endV (pipV f0 g 2) false (-1) = cntV 0 0 := by
    rw [h.v, hr, hw]
    show ({ cntV 1 0 with n0 := wrap64 (1 + -1) } : V) = _
    rw [wrap_small (by omega) (by omega)]; rfl
  unfold GoneF
  rw [end_tab, e, if_pos ⟨h.is, by show ¬ ((0 : Int) < 0 ∨ (0 : Int) < 0); omega⟩]
  show clrN (tabV f0 g).n0 2 = 11
  rw [h.t]; exact bit15.2.2.1
theorem HadF.goneW (h : HadF g r w) (hr : r = 0) (hw : w = 1) : GoneF (endT f0 g 2 true (-1)) := by
  have e : endV (pipV f0 g 2) true (-1) = cntV 0 0 := by
    rw [h.v, hr, hw]
    show ({ cntV 0 1 with n1 := wrap64 (1 + -1) } : V) = _
    rw [wrap_small (by omega) (by omega)]; rfl
  unfold GoneF
  rw [end_tab, e, if_pos ⟨h.is, by show ¬ ((0 : Int) < 0 ∨ (0 : Int) < 0); omega⟩]
  show clrN (tabV f0 g).n0 2 = 11
  rw [h.t]; exact bit15.2.2.1
/-- What the view is when r readers and w writers are left. -/
def LeftF (g : VwF) (r w : Int) : Prop := (0 < r + w → HadF g r w) ∧ (r + w ≤ 0 → GoneF g)
theorem HadF.lessR (h : HadF g r w) (hr : 0 < r) (hr4 : r ≤ 4) (hw : 0 ≤ w) : LeftF (endT f0 g 2 false (-1)) (r - 1) w := by
  refine ⟨fun c => ?_, fun c => h.goneR (by omega) (by omega)⟩
  have := h.endR (b := -1) (by omega) (by omega)
  rwa [show r + -1 = r - 1 by omega] at this
theorem HadF.lessW (h : HadF g r w) (hr : 0 ≤ r) (hw : 0 < w) (hw4 : w ≤ 4) : LeftF (endT f0 g 2 true (-1)) r (w - 1) := by
  refine ⟨fun c => ?_, fun c => h.goneW (by omega) (by omega)⟩
  have := h.endW (b := -1) (by omega) (by omega)
  rwa [show w + -1 = w - 1 by omega] at this
theorem GoneF.is (h : GoneF g) : isP f0 g 2 = false := by rw [(isP_in (by omega)).1, h]; exact bit15.2.2.2.1
theorem GoneF.one (h : GoneF g) : isP f0 g 1 = true := by rw [(isP_in (by omega)).1, h]; exact bit15.2.2.2.2.1
theorem GoneF.isT (h : GoneF g) (q : Int) : GoneF (isPT g q) := by unfold GoneF; rw [tab_isPT]; exact h
theorem GoneF.ends (h : GoneF g) (wr : Bool) (b : Int) : GoneF (endT f0 g 2 wr b) := by
  unfold GoneF
  rw [end_tab, if_neg (fun c => by rw [h.is] at c; exact absurd c.1 (by decide))]
  exact h
theorem GoneF.free (h : GoneF g) : palV (palA f0 g) = .tuple #[.int .i64 2, .bool true] := by
  have : palA f0 g = 2 := by unfold palA; rw [h]; exact bit15.2.2.2.2.2
  rw [this]; rfl
end

def stays : ByteArray := ⟨#[115, 116, 97, 121, 115]⟩
/-- Pipe 0 has the bytes that stay. -/
structure ApF (g : VwF) : Prop where
  t : (tabV f0 g).n0 = 3 ∨ (tabV f0 g).n0 = 1
  v : pipV f0 g 0 = withS newP stays
theorem bits3 : hasB 3 0 = true ∧ hasB 1 0 = true ∧ hasB 1 1 = false ∧ clrN 3 1 = 1 := by decide +kernel
theorem ap_new : ApF (pwrT f0 (pT 2) 0 stays) := ⟨by left; decide +kernel, by kernel_rfl⟩
theorem ap_ans : pwrV (pwrA f0 (pT 2) 0 stays) (pwrK f0 (pT 2) 0 stays) = .tuple #[.int .i64 5, .int .i64 0] := by
  have h1 : pwrA f0 (pT 2) 0 stays = 5 := by decide +kernel
  have h2 : pwrK f0 (pT 2) 0 stays = 0 := by decide +kernel
  rw [h1, h2]; rfl
section
variable {g : VwF}
theorem ApF.is (h : ApF g) : isP f0 g 0 = true := by
  rw [(isP_in (by omega)).1]
  rcases h.t with e | e <;> rw [e]
  · exact bits3.1
  · exact bits3.2.1
theorem ApF.rd (h : ApF g) {q : Int} (hq : q ≠ 0) (n : Int) : ApF (prdT f0 g q n) := ⟨by rw [prd_tab]; exact h.t, by rw [prd_pip, if_neg (fun c => hq c.1.symm)]; exact h.v⟩
theorem ApF.wr (h : ApF g) {q : Int} (hq : q ≠ 0) (d : ByteArray) : ApF (pwrT f0 g q d) := ⟨by rw [pwr_tab]; exact h.t, by rw [pwr_pip, if_neg (fun c => hq c.1.symm)]; exact h.v⟩
theorem ApF.ends (h : ApF g) (wr : Bool) (b : Int) : ApF (endT f0 g 1 wr b) := by
  refine ⟨?_, by rw [end_pip, if_neg (fun c => absurd c.1 (by decide))]; exact h.v⟩
  rw [end_tab]
  split
  · rename_i c
    right
    show clrN (tabV f0 g).n0 1 = 1
    rcases h.t with e | e
    · rw [e]; exact bits3.2.2.2
    · have := c.1
      rw [(isP_in (by omega)).1, e, bits3.2.2.1] at this
      exact absurd this (by decide)
  · exact h.t
theorem ApF.no {q : Int} (hq : ¬ (0 ≤ q ∧ q < 4)) : isP f0 g q = false := (isP_out hq).1
theorem no_read {q : Int} (hq : ¬ (0 ≤ q ∧ q < 4)) (n : Int) : prdV (prdS f0 g q n) (prdK f0 g q n) = .tuple #[.string ⟨#[]⟩, .int .i64 1] := by
  have e : ¬ prdOk f0 g q n = true := by unfold prdOk; rw [(isP_out hq).1]; simp
  unfold prdS prdK
  rw [if_neg e, if_neg e]; rfl
theorem no_write {q : Int} (hq : ¬ (0 ≤ q ∧ q < 4)) (d : ByteArray) : pwrV (pwrA f0 g q d) (pwrK f0 g q d) = .tuple #[.int .i64 (-1), .int .i64 1] := by
  have e : ¬ isP f0 g q = true := by rw [(isP_out hq).1]; simp
  unfold pwrA pwrK
  rw [if_neg e, if_neg e]; rfl
theorem neg_read {n : Int} (hn : n < 0) (q : Int) : prdV (prdS f0 g q n) (prdK f0 g q n) = .tuple #[.string ⟨#[]⟩, .int .i64 1] ∧ prdT f0 g q n = isPT g q := by
  have e : ¬ prdOk f0 g q n = true := by unfold prdOk; rw [decide_eq_false (by omega : ¬ 0 ≤ n)]; simp
  unfold prdS prdK prdT
  rw [if_neg e, if_neg e, if_neg e]; exact ⟨rfl, rfl⟩
theorem ApF.isT (h : ApF g) (q : Int) : ApF (isPT g q) := ⟨by rw [tab_isPT]; exact h.t, by rw [pip_isPT]; exact h.v⟩
theorem ApF.read (h : ApF g) : prdV (prdS f0 g 0 99) (prdK f0 g 0 99) = .tuple #[.string ⟨#[115, 116, 97, 121, 115]⟩, .int .i64 0] := by
  have k1 : prdOk f0 g 0 99 = true := by unfold prdOk; rw [h.is]; rfl
  have h1 : prdS f0 g 0 99 = ⟨#[115, 116, 97, 121, 115]⟩ := by
    unfold prdS
    rw [if_pos k1, h.v]; rfl
  have h2 : prdK f0 g 0 99 = 0 := by
    unfold prdK
    rw [if_pos k1, h.v, if_pos (.inr (.inl (show (5 : Nat) ≠ 0 by omega)))]
  rw [h1, h2]; rfl
end
end Go.Proofs.Ytdjdnjngelahjaa
