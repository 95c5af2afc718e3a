
/- Inodes, the code's side; no conditions but lengths. -/
import Derived.Test.YtdgkhfhlbjpaoaaStB
import Derived.Test.YtdgkhfhlbjpaoaaStA
import Derived.IntWalk
import Derived.Lib.Strings
import Derived.Lib.BufferWrite
import Derived.Lib.UnsafeStr
import Derived.Laws.MakeOwn
import Derived.WalkSpells
import Derived.Deep.CutBlock
namespace Go.Proofs.Ytdgkhfhlbjpaoaa
open Go.RowKit
set_option maxRecDepth 100000

def pw (i : Int) : Int := 2 ^ i.toNat
theorem below16 {i : Int} (h : 0 ≤ i) (h' : i < 16) : i = 0 ∨ i = 1 ∨ i = 2 ∨ i = 3 ∨ i = 4 ∨ i = 5 ∨ i = 6 ∨ i = 7 ∨ i = 8 ∨ i = 9 ∨ i = 10 ∨ i = 11 ∨ i = 12 ∨ i = 13 ∨ i = 14 ∨ i = 15 := by omega
theorem pw_wrap {i : Int} (h : 0 ≤ i) (h' : i < 16) : wrap64 (2 ^ i.toNat) = pw i := by
  rcases below16 h h' with rfl | rfl | rfl | rfl | rfl | rfl | rfl | rfl | rfl | rfl | rfl | rfl | rfl | rfl | rfl | rfl <;> kernel_rfl

theorem bit_w (i : Int) (w : World) (h : 0 ≤ i) (h' : i < 16) : Calls Try.prog 32 #[.int .i64 i] w fun e w' => e = .returned (.int .i64 (pw i)) ∧ w' = w := by
  have hp := pw_wrap h h'
  go_enter Try.func32, Try.ntmps32
  go_wp2
  rw [hp]
  go_ret
  exact ⟨rfl, rfl⟩

theorem wide_K : IsWide 54 2 := ⟨⟨_, Try.underlying54, rfl⟩, by kernel_rfl⟩

theorem object_w (i : Int) (w : World) : Calls Try.prog 33 #[.int .i64 i] w fun e w' => e = .returned (.agg #[.int .i64 10, .int .i64 i]) ∧ Kept (fun _ => False) w w' := by
  go_enter Try.func33, Try.ntmps33
  go_wp2
  exact bodyPost_ret (results_cell_row Try.results33 _ _ w.heap.size _ _ _ _ rfl (alloc_at _ _) Try.underlying54 rfl wide_K.size) rfl ⟨rfl, (Kept.refl _ _).alloc _⟩

theorem table_w (w : World) : Calls Try.prog 31 #[] w fun e w' => e = .returned (.agg #[.int .i64 9, .int .i64 0]) ∧ Kept (fun _ => False) w w' := by
  go_enter Try.func31, Try.ntmps31
  go_wp2
  exact bodyPost_ret (results_cell_row Try.results31 _ _ w.heap.size _ _ _ _ rfl (alloc_at _ _) Try.underlying54 rfl wide_K.size) rfl ⟨rfl, (Kept.refl _ _).alloc _⟩

/-- Is the bit i of n set? -/
def hasB (n i : Int) : Bool := decide ((n / 2 ^ i.toNat) % 2 = 1)
def orN (n i : Int) : Int := bits .or .i64 n (pw i)
def clrN (n i : Int) : Int := bits .andNot .i64 n (pw i)

theorem and_raw (n : Int) (i : Nat) (hi : i < 16) : bits .and .i64 n ((2 ^ i : Nat) : Int) = if ((n % 18446744073709551616).toNat / 2 ^ i) % 2 = 1 then ((2 ^ i : Nat) : Int) else 0 := by
  have h1 : 2 ^ i < 2 ^ 16 := Nat.pow_lt_pow_right (by omega) hi
  have h2 : ((BitVec.ofInt 64 n) &&& (BitVec.ofInt 64 ((2 ^ i : Nat) : Int))).toNat = if ((n % 18446744073709551616).toNat / 2 ^ i) % 2 = 1 then 2 ^ i else 0 := by
    rw [BitVec.ofInt_natCast, BitVec.toNat_and, BitVec.toNat_ofNat, Nat.mod_eq_of_lt (by omega : 2 ^ i < 2 ^ 64), BitVec.toNat_ofInt]
    apply Nat.eq_of_testBit_eq
    intro j
    rw [Nat.testBit_and, Nat.testBit_two_pow]
    by_cases hj : i = j
    · subst hj
      rw [show (n % ((2 ^ 64 : Nat) : Int)) = n % 18446744073709551616 from rfl, Nat.testBit_eq_decide_div_mod_eq]
      by_cases hb : (n % 18446744073709551616).toNat / 2 ^ i % 2 = 1
      · simp [hb]
      · simp [hb]
    · split
      · simp [hj]
      · simp [hj]
  show IntKind.i64.wrap (((BitVec.ofInt 64 n) &&& (BitVec.ofInt 64 ((2 ^ i : Nat) : Int))).toNat : Int) = _
  rw [h2, IntKind.wrap_i64]
  by_cases hb : (n % 18446744073709551616).toNat / 2 ^ i % 2 = 1
  · rw [if_pos hb, if_pos hb]
    clear hb h2
    generalize 2 ^ i = z at *
    omega
  · rw [if_neg hb, if_neg hb]
    rfl

theorem and_b (n i : Int) (h : 0 ≤ i) (h' : i < 16) : bits .and .i64 n (pw i) = if hasB n i = true then pw i else 0 := by
  obtain ⟨k, rfl⟩ : ∃ k : Nat, i = k := ⟨i.toNat, by omega⟩
  have e : pw (k : Int) = ((2 ^ k : Nat) : Int) := by unfold pw; simp
  rw [e, and_raw n k (by omega)]
  unfold hasB
  have : ((n % 18446744073709551616).toNat / 2 ^ k) % 2 = 1 ↔ (n / 2 ^ ((k : Nat) : Int).toNat) % 2 = 1 := by
    simp only [Int.toNat_natCast]
    rcases below16 h h' with q | q | q | q | q | q | q | q | q | q | q | q | q | q | q | q <;> (obtain rfl : k = _ := by exact_mod_cast q) <;> simp only [Nat.reducePow, Int.reducePow] <;> omega
  simp only [this, decide_eq_true_eq]
theorem and_one (m : Int) : bits .and .i64 m 1 = m % 2 := by
  have := and_raw m 0 (by omega)
  simp only [Nat.pow_zero, Nat.div_one, Int.natCast_one] at this
  rw [this]
  split <;> omega
theorem pw_pos {i : Int} (h : 0 ≤ i) (h' : i < 16) : 0 < pw i := by
  rcases below16 h h' with rfl | rfl | rfl | rfl | rfl | rfl | rfl | rfl | rfl | rfl | rfl | rfl | rfl | rfl | rfl | rfl <;> decide
end Go.Proofs.Ytdgkhfhlbjpaoaa

namespace Go.Proofs.Ytdgkhfhlbjpaoaa
open Go.RowKit
set_option maxRecDepth 100000
set_option linter.unusedSimpArgs false

def findV (f : StF) (g : VwF) (i : Int) : V := if 1 ≤ i ∧ i < 16 then (if (vgetF f g (10, i)).n0 = 0 then zeroV else vgetF f g (10, i)) else zeroV
def findT (g : VwF) (i : Int) : VwF := if 1 ≤ i ∧ i < 16 then vgetT g (10, i) else g
def isI (f : StF) (g : VwF) (i : Int) : Bool := decide ((findV f g i).n0 ≠ 0)

theorem results_two {fn : Func} {p q : Tmp} {ty : TypeId} (h : fn.results = #[.cell p ty, .tmp q]) (tmps : Array Value) (w : World) (g : Nat) (t : TypeId) (cs : List Value) (x : Value) (n : Nat) (W : IsWide ty n)
    (hp : tmps.getD p undef = .pointer (some ⟨g, 0, none⟩)) (hq : tmps.getD q undef = x) (hb : w.heap[g]? = some (.cells cs.toArray t (0, 0))) (hn : cs.length = n) :
    (results fn tmps).run Try.prog w = .ok (.tuple #[.agg cs.toArray, x]) w := by
  obtain ⟨d, hu, hd⟩ := W.desc
  have hl := run_loadVar_row (P := Try.prog) w g t ty cs.toArray (0, 0) d hb hu (by cases d <;> first | rfl | cases hd) (by rw [W.size]; simp [hn])
  have hp' : tmps[p]?.getD undef = .pointer (some ⟨g, 0, none⟩) := by simpa using hp
  have hq' : tmps[q]?.getD undef = x := by simpa using hq
  simp [results, h, hp', hq', asAddr, hl]

theorem find_w (q N p B : Nat) (f : StF) (g : VwF) (i : Int) (w : World) (h : ViewIn q N p g w) (hs : StoreIn p B f w) (hNB : N ≠ B) : Calls Try.prog 34 #[.pointer (some ⟨q, 0, none⟩), .int .i64 i] w
    fun e w' => e = .returned (.tuple #[vv (findV f g i), .bool (isI f g i)]) ∧ ViewIn q N p (findT g i) w' ∧ Kept (fun n => n = N) w w' := by
  obtain ⟨E, hE⟩ : ∃ E : Nat, w.heap.size = E := ⟨_, rfl⟩
  have hN : N < E := by have := h.map.lt; omega
  have hq : q < E := by have := lt_at h.cell; omega
  obtain ⟨wA, hA⟩ : ∃ wA, w.alloc (.cells (vc zeroV).toArray 51) = wA := ⟨_, rfl⟩
  have hkA : Kept (fun _ => False) w wA := by subst hA; exact (Kept.refl _ _).alloc _
  have hz : wA.heap[E]? = some (.cells (vc zeroV).toArray 51 (0, 0)) := by subst hA; exact alloc_at' _ hE
  rw [zero_cells] at hA
  have h1 := h.still hkA
  have hs1 := hs.still hkA
  clear h hs
  by_cases hr : 1 ≤ i ∧ i < 16
  · obtain ⟨r1, r2⟩ := hr
    have HV : Hid (findV f g i = (if (vgetF f g (10, i)).n0 = 0 then zeroV else vgetF f g (10, i)) ∧ findT g i = vgetT g (10, i)) := ⟨by unfold findV; rw [if_pos ⟨r1, r2⟩], by unfold findT; rw [if_pos ⟨r1, r2⟩]⟩
    go_enter Try.func34, Try.ntmps34
    go_wp2_with fail
    clear hA
    refine (object_w i _).mono ?_
    rintro e w1 ⟨rfl, hk1⟩
    go_wp2_with fail
    refine (vget_w q N p B f g 10 i w1 (h1.still hk1) (hs1.still hk1) hNB).mono ?_
    rintro e w2 ⟨rfl, hv2, hk2⟩
    have k2 : Kept (fun n => n = N) wA w2 := (hk1.mono (fun _ _ e => e.elim)).trans hk2 (fun _ _ e => e)
    have hz2 := k2.at hz (by omega)
    obtain ⟨F, hF⟩ : ∃ F : Nat, w2.heap.size = F := ⟨_, rfl⟩
    have lF : E < F := by have := lt_at hz2; omega
    clear hk1 hk2 h1 hs1
    generalize vgetF f g (10, i) = x at *
    have k3 : Kept (fun _ => False) w2 (w2.alloc (.cells (vc x).toArray 51)) := (Kept.refl _ _).alloc _
    have hF3 : (w2.alloc (.cells (vc x).toArray 51)).heap[F]? = some (.cells (vc x).toArray 51 (0, 0)) := alloc_at' _ hF
    have c0 : (w2.alloc (.cells (vc x).toArray 51)).cell? ⟨F, 0, none⟩ = some (.int .i64 x.n0) := cell_at hF3 rfl
    have hz3 := k3.at hz2 (fun x => x)
    by_cases h0 : x.n0 = 0
    · have hd : (x.n0 == 0) = true := by simp [h0]
      have HE : Hid (findV f g i = zeroV ∧ isI f g i = false) := by
        have : findV f g i = zeroV := by rw [HV.out.1, if_pos h0]
        exact ⟨this, by unfold isI; rw [this]; rfl⟩
      clear h0
      go_wp2_with (first | (refine list_wnew rfl wide_V _ _ rfl F rfl (vc x) rfl _ rfl hF rfl (vc_one _) ?_) | (refine list_wstore rfl wide_V _ _ rfl E rfl (vc zeroV) rfl hz3 rfl rfl (vc_one _) ?_))
      have hz6 := setRow_at hz3 (vc zeroV).toArray
      have hk6 := kept_setRow (w2.alloc (.cells (vc x).toArray 51)) E (vc zeroV).toArray
      refine bodyPost_ret (results_two Try.results34 _ _ E _ _ _ _ wide_V rfl rfl hz6 rfl) rfl ⟨by rw [HE.out.1, HE.out.2]; rfl, by rw [HV.out.2]; exact (hv2.still k3).kept hk6 (by omega) (by omega), ?_⟩
      exact ((hkA.mono (fun _ _ e => e.elim)).trans k2 (fun _ _ e => e)).trans ((k3.mono (Y := fun n => n = E) (fun _ _ e => e.elim)).trans hk6 (fun _ _ e => e)) (fun k h1 h2 => by omega)
    · have hd : (x.n0 == 0) = false := by simp [h0]
      have HE : Hid (findV f g i = x ∧ isI f g i = true) := by
        have : findV f g i = x := by rw [HV.out.1, if_neg h0]
        exact ⟨this, by unfold isI; rw [this]; simpa using h0⟩
      clear h0
      have hr := whole_range hF3
      go_wp2_with (first | (refine list_wnew rfl wide_V _ _ rfl F rfl (vc x) rfl _ rfl hF rfl (vc_one _) ?_) | (refine list_wload rfl wide_V _ rfl F 0 rfl (vc x) hr rfl ?_) | (refine list_wstore rfl wide_V _ _ rfl E rfl (vc x) rfl hz3 rfl rfl (vc_one _) ?_))
      have hz6 := setRow_at hz3 (vc x).toArray
      have hk6 := kept_setRow (w2.alloc (.cells (vc x).toArray 51)) E (vc x).toArray
      refine bodyPost_ret (results_two Try.results34 _ _ E _ _ _ _ wide_V rfl rfl hz6 rfl) rfl ⟨by rw [HE.out.1, HE.out.2]; rfl, by rw [HV.out.2]; exact (hv2.still k3).kept hk6 (by omega) (by omega), ?_⟩
      exact ((hkA.mono (fun _ _ e => e.elim)).trans k2 (fun _ _ e => e)).trans ((k3.mono (Y := fun n => n = E) (fun _ _ e => e.elim)).trans hk6 (fun _ _ e => e)) (fun k h1 h2 => by omega)
  · have HV : Hid (findV f g i = zeroV ∧ findT g i = g ∧ isI f g i = false) := by
      have h1 : findV f g i = zeroV := by unfold findV; rw [if_neg hr]
      exact ⟨h1, by unfold findT; rw [if_neg hr], by unfold isI; rw [h1]; rfl⟩
    have hz6 := setRow_at hz (vc zeroV).toArray
    have hk6 := kept_setRow wA E (vc zeroV).toArray
    by_cases hr1 : i < 1
    · clear hr
      go_enter Try.func34, Try.ntmps34
      go_wp2_with (first | (refine list_wstore rfl wide_V _ _ rfl E rfl (vc zeroV) rfl hz rfl rfl (vc_one _) ?_))
      refine bodyPost_ret (results_two Try.results34 _ _ E _ _ _ _ wide_V rfl rfl hz6 rfl) rfl ⟨by rw [HV.out.1, HV.out.2.2]; rfl, by rw [HV.out.2.1]; exact h1.kept hk6 (by omega) (by omega), ?_⟩
      exact (hkA.mono (fun _ _ e => e.elim)).trans hk6 (fun k h1 h2 => by omega)
    · have hr2 : 16 ≤ i := by omega
      clear hr
      go_enter Try.func34, Try.ntmps34
      go_wp2_with (first | (refine list_wstore rfl wide_V _ _ rfl E rfl (vc zeroV) rfl hz rfl rfl (vc_one _) ?_))
      refine bodyPost_ret (results_two Try.results34 _ _ E _ _ _ _ wide_V rfl rfl hz6 rfl) rfl ⟨by rw [HV.out.1, HV.out.2.2]; rfl, by rw [HV.out.2.1]; exact h1.kept hk6 (by omega) (by omega), ?_⟩
      exact (hkA.mono (fun _ _ e => e.elim)).trans hk6 (fun k h1 h2 => by omega)

theorem is_w (q N p B : Nat) (f : StF) (g : VwF) (i : Int) (w : World) (h : ViewIn q N p g w) (hs : StoreIn p B f w) (hNB : N ≠ B) : Calls Try.prog 17 #[.pointer (some ⟨q, 0, none⟩), .int .i64 i] w
    fun e w' => e = .returned (.bool (isI f g i)) ∧ ViewIn q N p (findT g i) w' ∧ Kept (fun n => n = N) w w' := by
  go_enter Try.func17, Try.ntmps17
  go_wp2_with fail
  refine (find_w q N p B f g i w h hs hNB).mono ?_
  rintro e w1 ⟨rfl, hv, hk⟩
  obtain ⟨F, hF⟩ : ∃ F : Nat, w1.heap.size = F := ⟨_, rfl⟩
  have hv2 : ViewIn q N p (findT g i) (w1.alloc (.cells (vc (findV f g i)).toArray 51)) := hv.still ((Kept.refl _ _).alloc _)
  have hk2 : Kept (fun n => n = N) w (w1.alloc (.cells (vc (findV f g i)).toArray 51)) := hk.alloc _
  go_wp2_with (first | (refine list_wnew rfl wide_V _ _ rfl F rfl (vc (findV f g i)) rfl _ rfl hF rfl (vc_one _) ?_))
  go_ret
  exact ⟨rfl, hv2, hk2⟩

theorem type_w (q N p B : Nat) (f : StF) (g : VwF) (i : Int) (w : World) (h : ViewIn q N p g w) (hs : StoreIn p B f w) (hNB : N ≠ B) : Calls Try.prog 48 #[.pointer (some ⟨q, 0, none⟩), .int .i64 i] w
    fun e w' => e = .returned (.int .i64 (findV f g i).n0) ∧ ViewIn q N p (findT g i) w' ∧ Kept (fun n => n = N) w w' := by
  go_enter Try.func48, Try.ntmps48
  go_wp2_with fail
  refine (find_w q N p B f g i w h hs hNB).mono ?_
  rintro e w1 ⟨rfl, hv, hk⟩
  obtain ⟨F, hF⟩ : ∃ F : Nat, w1.heap.size = F := ⟨_, rfl⟩
  have hv2 : ViewIn q N p (findT g i) (w1.alloc (.cells (vc (findV f g i)).toArray 51)) := hv.still ((Kept.refl _ _).alloc _)
  have hk2 : Kept (fun n => n = N) w (w1.alloc (.cells (vc (findV f g i)).toArray 51)) := hk.alloc _
  have c0 : (w1.alloc (.cells (vc (findV f g i)).toArray 51)).cell? ⟨F, 0, none⟩ = some (.int .i64 (findV f g i).n0) := cell_at (alloc_at' _ hF) rfl
  go_wp2_with (first | (refine list_wnew rfl wide_V _ _ rfl F rfl (vc (findV f g i)) rfl _ rfl hF rfl (vc_one _) ?_))
  go_ret
  exact ⟨rfl, hv2, hk2⟩

theorem links_w (q N p B : Nat) (f : StF) (g : VwF) (i : Int) (w : World) (h : ViewIn q N p g w) (hs : StoreIn p B f w) (hNB : N ≠ B) : Calls Try.prog 18 #[.pointer (some ⟨q, 0, none⟩), .int .i64 i] w
    fun e w' => e = .returned (.int .i64 (findV f g i).n1) ∧ ViewIn q N p (findT g i) w' ∧ Kept (fun n => n = N) w w' := by
  go_enter Try.func18, Try.ntmps18
  go_wp2_with fail
  refine (find_w q N p B f g i w h hs hNB).mono ?_
  rintro e w1 ⟨rfl, hv, hk⟩
  obtain ⟨F, hF⟩ : ∃ F : Nat, w1.heap.size = F := ⟨_, rfl⟩
  have hv2 : ViewIn q N p (findT g i) (w1.alloc (.cells (vc (findV f g i)).toArray 51)) := hv.still ((Kept.refl _ _).alloc _)
  have hk2 : Kept (fun n => n = N) w (w1.alloc (.cells (vc (findV f g i)).toArray 51)) := hk.alloc _
  have c0 : (w1.alloc (.cells (vc (findV f g i)).toArray 51)).cell? ⟨F, 1, none⟩ = some (.int .i64 (findV f g i).n1) := cell_at (alloc_at' _ hF) rfl
  go_wp2_with (first | (refine list_wnew rfl wide_V _ _ rfl F rfl (vc (findV f g i)) rfl _ rfl hF rfl (vc_one _) ?_))
  go_ret
  exact ⟨rfl, hv2, hk2⟩

theorem size_w (q N p B : Nat) (f : StF) (g : VwF) (i : Int) (w : World) (h : ViewIn q N p g w) (hs : StoreIn p B f w) (hNB : N ≠ B) : Calls Try.prog 49 #[.pointer (some ⟨q, 0, none⟩), .int .i64 i] w
    fun e w' => e = .returned (.int .i64 (findV f g i).s.size) ∧ ViewIn q N p (findT g i) w' ∧ Kept (fun n => n = N) w w' := by
  go_enter Try.func49, Try.ntmps49
  go_wp2_with fail
  refine (find_w q N p B f g i w h hs hNB).mono ?_
  rintro e w1 ⟨rfl, hv, hk⟩
  obtain ⟨F, hF⟩ : ∃ F : Nat, w1.heap.size = F := ⟨_, rfl⟩
  have hv2 : ViewIn q N p (findT g i) (w1.alloc (.cells (vc (findV f g i)).toArray 51)) := hv.still ((Kept.refl _ _).alloc _)
  have hk2 : Kept (fun n => n = N) w (w1.alloc (.cells (vc (findV f g i)).toArray 51)) := hk.alloc _
  have c0 : (w1.alloc (.cells (vc (findV f g i)).toArray 51)).cell? ⟨F, 16, none⟩ = some (.string (findV f g i).s) := cell_at (alloc_at' _ hF) rfl
  go_wp2_with (first | (refine list_wnew rfl wide_V _ _ rfl F rfl (vc (findV f g i)) rfl _ rfl hF rfl (vc_one _) ?_))
  go_ret
  exact ⟨rfl, hv2, hk2⟩

end Go.Proofs.Ytdgkhfhlbjpaoaa

namespace Go.Proofs.Ytdgkhfhlbjpaoaa
open Go.RowKit
set_option maxRecDepth 100000

abbrev Bs := List UInt8

def bl (s : ByteArray) : Bs := s.data.toList
def bs (l : Bs) : ByteArray := ⟨l.toArray⟩

theorem bl_bs (l : Bs) : bl (bs l) = l := rfl
theorem bs_bl (s : ByteArray) : bs (bl s) = s := Lib.mk_data s
theorem bl_len (s : ByteArray) : (bl s).length = s.size := (Lib.size_eq s).symm
theorem bs_size (l : Bs) : (bs l).size = l.length := by rw [← bl_len, bl_bs]
theorem toList_bl (s : ByteArray) : s.toList = bl s := Lib.toList_data s
theorem extract_bs (s : ByteArray) (a b : Nat) : s.extract a b = bs (((bl s).drop a).take (b - a)) := Lib.extract_eq s a b
theorem bl_extract (s : ByteArray) (a b : Nat) : bl (s.extract a b) = ((bl s).drop a).take (b - a) := by rw [extract_bs, bl_bs]
theorem bs_inj {a b : Bs} (h : bs a = bs b) : a = b := by rw [← bl_bs a, h, bl_bs]
theorem bl_inj {a b : ByteArray} (h : bl a = bl b) : a = b := by rw [← bs_bl a, h, bs_bl]
theorem bl_app (a b : ByteArray) : bl (a ++ b) = bl a ++ bl b := by
  obtain ⟨⟨x⟩⟩ := a
  obtain ⟨⟨y⟩⟩ := b
  rw [ByteArray.mk_append_mk]; rfl
theorem bl_at (s : ByteArray) {i : Nat} (h : i < s.size) : (bl s)[i]? = some s[i] := by
  obtain ⟨⟨l⟩⟩ := s
  have : i < l.length := h
  simp only [bl]
  rw [List.getElem?_eq_getElem this]
  rfl

theorem info_byte : (Try.prog.info? 5).map (fun i => (i.zero, i.size, i.bytes)) = some (some (.int .u8 0), 1, 1) := by kernel_rfl

theorem below_kept {w w' : World} (h : Below w.heap.size w w') : Kept (fun _ => False) w w' := ⟨h.os, h.tape, h.output, h.size, fun k hk _ => h.block k hk⟩

theorem lite_w (s : ByteArray) (hs : s.size ≤ 1000000) (w : World) :
    Calls Try.prog 60 #[.string s] w fun e w' => e = .returned (.string s) ∧ Kept (fun _ => False) w w' := by
  by_cases h0 : s.size = 0
  · have hs : s = ⟨#[]⟩ := by
      apply ByteArray.ext
      exact Array.eq_empty_of_size_eq_zero h0
    subst hs
    go_enter Try.func60, Try.ntmps60
    go_wp2
    go_ret
    exact ⟨rfl, Kept.refl _ _⟩
  · obtain ⟨i0, hi, hz0, hz1, hz2⟩ := info_parts info_byte
    have hinfo : (Try.prog.info? 5).map (·.size) = some 1 := by rw [hi]; simp [hz1]
    have hco : Try.prog.cellsOf 5 = 1 := by kernel_rfl
    obtain ⟨M, hM⟩ : ∃ M, M = madeCells (Value.int .u8 0).cells (((s.size : Nat) : Int).toNat * i0.size) := ⟨_, rfl⟩
    have hMs : M.size = s.size := by rw [hM, size_madeCells, hz1]; simp
    have hmk : ∀ W : World, (Instr.makeSlice 75 (.int .i64 (s.size : Int)) (.int .i64 (s.size : Int))).run Try.prog W = .ok (.slice (some ⟨W.heap.size, 0, none⟩) s.size s.size) (W.alloc (.cells M 5)) := fun W => by
      have h := run_make (P := Try.prog) W 75 5 i0 (.int .u8 0) Try.underlying75 hi hz0 .i64 .i64 (s.size : Int) (s.size : Int) (by omega) (by omega) (by rw [hz2]; omega) (by omega)
      rw [← hM] at h
      simpa using h
    clear hM
    have hcp := Lib.run_copy_row_string (P := Try.prog) (w.alloc (.cells M 5)) 75 9 3 5 w.heap.size 0 s.size s.size s M 5 Try.underlying75 hinfo (heap_alloc_new w _) (Nat.le_refl _) (by omega)
    obtain ⟨Y, hY⟩ : ∃ Y, Y = (M.toList.take 0 ++ Lib.byteCells s.data.toList ++ M.toList.drop (0 + s.size)).toArray := ⟨_, rfl⟩
    rw [← hY] at hcp
    have hYl : Y.toList = Lib.byteCells s.data.toList := by
      rw [hY, List.toList_toArray, List.take_zero, List.nil_append, List.drop_of_length_le (by rw [Array.length_toList]; omega), List.append_nil]
    have hYs : Y.size = s.size := by rw [← Array.length_toList, hYl, Lib.byteCells_length, ← Lib.size_eq]
    have hgY : ((w.alloc (.cells M 5)).setRow w.heap.size Y).heap[w.heap.size]? = some (.cells Y 5 (0, 0)) := setRow_heap _ _ M _ 5 (0, 0) (heap_alloc_new w _)
    have hne : s.data.toList ≠ [] := fun e => h0 (by rw [Lib.size_eq, e]; rfl)
    have hUS := Lib.run_unsafeString_row (P := Try.prog) ((w.alloc (.cells M 5)).setRow w.heap.size Y) 103 3 9 5 Try.underlying103 hco w.heap.size Y.size (by unfold World.shape?; rw [hgY]) s.data.toList hne (by rw [← Lib.size_eq]; omega) (by rw [← Lib.size_eq]; omega)
      (fun j x hx => Lib.cells_of_row hgY Y.size j _ (by rw [List.take_of_length_le (by rw [Array.length_toList]; exact Nat.le_refl _), hYl]; simp [Lib.byteCells, hx]))
    rw [← Lib.size_eq] at hUS
    clear hY
    go_enter Try.func60, Try.ntmps60
    go_wp2
    go_ret
    have hb1 : Below w.heap.size w (w.alloc (.cells M 5)) := (Below.refl _ w).alloc (Nat.le_refl _) _
    have hb2 : Below w.heap.size (w.alloc (.cells M 5)) ((w.alloc (.cells M 5)).setRow w.heap.size Y) := ⟨rfl, rfl, rfl, by simp, fun k hk => setRow_other _ _ _ _ (by omega)⟩
    exact ⟨rfl, below_kept (Lib.below_freeze (hb1.trans hb2) (p := ⟨w.heap.size, 0, none⟩) (Nat.le_refl _) _)⟩

theorem clone_w (s : ByteArray) (hs : s.size ≤ 1000000) (w : World) :
    Calls Try.prog 53 #[.string s] w fun e w' => e = .returned (.string s) ∧ Kept (fun _ => False) w w' := by
  go_enter Try.func53, Try.ntmps53
  go_wp2_with fail
  refine (lite_w s hs w).mono ?_
  rintro e w1 ⟨rfl, hk⟩
  go_wp2
  go_ret
  exact ⟨rfl, hk⟩
end Go.Proofs.Ytdgkhfhlbjpaoaa

namespace Go.Proofs.Ytdgkhfhlbjpaoaa
open Go.RowKit
set_option maxRecDepth 100000
set_option linter.unusedSimpArgs false

/-- Of the bytes s, n at most from off on. -/
def partF (s : ByteArray) (off n : Int) : ByteArray := if 0 ≤ off ∧ 1 ≤ n then bs (((bl s).drop off.toNat).take n.toNat) else ByteArray.empty

theorem part_no {s : ByteArray} {off n : Int} (h : off < 0 ∨ (s.size : Int) ≤ off ∨ n < 1) : partF s off n = ByteArray.empty := by
  unfold partF
  split
  · have : (bl s).drop off.toNat = [] := List.drop_eq_nil_of_le (by rw [bl_len]; omega)
    rw [this]; simp; rfl
  · rfl

theorem part_ext {s : ByteArray} {o m : Nat} {n : Int} (h1 : 1 ≤ n) (h2 : (o : Int) ≤ s.size) (h : (m : Int) = n ∨ (m = s.size - o ∧ (m : Int) ≤ n)) : (s.extract o s.size).extract 0 m = partF s o n := by
  unfold partF
  rw [if_pos ⟨by omega, h1⟩]
  apply bl_inj
  have e : List.take (s.size - o) (List.drop o (bl s)) = List.drop o (bl s) := List.take_of_length_le (by rw [List.length_drop, bl_len]; omega)
  rw [bl_extract, bl_extract, bl_bs, Int.toNat_natCast, List.drop_zero, Nat.sub_zero, e]
  rw [List.take_eq_take_iff, List.length_drop, bl_len]
  omega

set_option maxHeartbeats 1000000 in
theorem read_w (q N p B : Nat) (f : StF) (g : VwF) (i off n : Int) (w : World) (h : ViewIn q N p g w) (hs : StoreIn p B f w) (hNB : N ≠ B) (hsz : (findV f g i).s.size ≤ 1000000) : Calls Try.prog 55 #[.pointer (some ⟨q, 0, none⟩), .int .i64 i, .int .i64 off, .int .i64 n] w
    fun e w' => e = .returned (.string (partF (findV f g i).s off n)) ∧ ViewIn q N p (findT g i) w' ∧ Kept (fun n => n = N) w w' := by
  go_enter Try.func55, Try.ntmps55
  go_wp2_with fail
  refine (find_w q N p B f g i w h hs hNB).mono ?_
  rintro e w1 ⟨rfl, hv1, hk1⟩
  obtain ⟨F, hF⟩ : ∃ F : Nat, w1.heap.size = F := ⟨_, rfl⟩
  obtain ⟨x, hx⟩ : ∃ x, findV f g i = x := ⟨_, rfl⟩
  rw [hx] at hsz
  have HX : Hid (findV f g i = x) := hx
  rw [hx]
  clear hx h hs
  have c16 : (w1.alloc (.cells (vc x).toArray 51)).cell? ⟨F, 16, none⟩ = some (.string x.s) := cell_at (alloc_at' _ hF) rfl
  have hv2 : ViewIn q N p (findT g i) (w1.alloc (.cells (vc x).toArray 51)) := hv1.still ((Kept.refl _ _).alloc _)
  have k2 : Kept (fun n => n = N) w (w1.alloc (.cells (vc x).toArray 51)) := hk1.alloc _
  by_cases hb : off < 0 ∨ (x.s.size : Int) ≤ off ∨ n < 1
  · have HE : Hid (partF x.s off n = ByteArray.empty) := part_no hb
    have HZ : Hid (ViewIn q N p (findT g i) (w1.alloc (.cells (vc x).toArray 51)) ∧ Kept (fun n => n = N) w (w1.alloc (.cells (vc x).toArray 51))) := ⟨hv2, k2⟩
    clear hv2 k2 hv1 hk1
    by_cases b1 : off < 0
    · clear hb
      go_wp2_with (first | (refine list_wnew rfl wide_V _ _ rfl F rfl (vc x) rfl _ rfl hF rfl (vc_one _) ?_))
      go_ret
      exact ⟨by rw [HX.out, HE.out]; rfl, HZ.out⟩
    · by_cases b2 : (x.s.size : Int) ≤ off
      · clear hb
        go_wp2_with (first | (refine list_wnew rfl wide_V _ _ rfl F rfl (vc x) rfl _ rfl hF rfl (vc_one _) ?_))
        go_ret
        exact ⟨by rw [HX.out, HE.out]; rfl, HZ.out⟩
      · have b3 : n < 1 := by omega
        clear hb
        go_wp2_with (first | (refine list_wnew rfl wide_V _ _ rfl F rfl (vc x) rfl _ rfl hF rfl (vc_one _) ?_))
        go_ret
        exact ⟨by rw [HX.out, HE.out]; rfl, HZ.out⟩
  · have b1 : ¬ off < 0 := by omega
    have b2 : ¬ (x.s.size : Int) ≤ off := by omega
    have b3 : ¬ n < 1 := by omega
    obtain ⟨o, rfl⟩ : ∃ o : Nat, off = o := ⟨off.toNat, by omega⟩
    have b4 : (o : Int) ≤ x.s.size := by omega
    clear hb
    go_wp2_with (first | (refine list_wnew rfl wide_V _ _ rfl F rfl (vc x) rfl _ rfl hF rfl (vc_one _) ?_))
    all_goals
      refine (clone_w _ (by rw [← bl_len, bl_extract, bl_extract]; simp only [List.length_take, List.length_drop, bl_len]; omega) _).mono ?_
      rintro e w3 ⟨rfl, hk3⟩
      have HZ : Hid (ViewIn q N p (findT g i) w3 ∧ Kept (fun n => n = N) w w3) := ⟨hv2.still hk3, k2.trans hk3 (fun _ _ e => e.elim)⟩
      go_wp2_with fail
      go_ret
      exact ⟨by rw [HX.out]; exact congrArg (fun s => Ending.returned (.string s)) (part_ext (by omega) (by omega) (by omega)), HZ.out⟩
end Go.Proofs.Ytdgkhfhlbjpaoaa

namespace Go.Proofs.Ytdgkhfhlbjpaoaa
open Go.RowKit
set_option maxRecDepth 100000
set_option linter.unusedSimpArgs false

def numV (n : Int) : V := ⟨n, 0, 0, 0, 0, 0, 0, 0, 0, 0, 0, 0, 0, 0, 0, 0, ByteArray.empty⟩
/-- The least place whose bit is not set; 16: there is none. -/
def freeN (n : Int) : Int := ((List.range 15).find? (fun j : Nat => !hasB n ((j : Int) + 1))).elim 16 (fun j : Nat => (j : Int) + 1)
def withN (x : V) (n : Int) : V := { x with n0 := n }
def allocA (f : StF) (g : VwF) : Int := freeN (vgetF f g (9, 0)).n0
def allocT (f : StF) (g : VwF) (typ : Int) : VwF := if allocA f g < 16 then vputT (vputT (vgetT g (9, 0)) (9, 0) (withN (vgetF f g (9, 0)) (orN (vgetF f g (9, 0)).n0 (allocA f g)))) (10, allocA f g) (numV typ) else vgetT g (9, 0)
def allocV (i : Int) : Value := .tuple #[.int .i64 (if i < 16 then i else 0), .bool (decide (i < 16))]

theorem freeN_at {n i : Int} (h1 : 1 ≤ i) (h2 : i < 16) (ha : ∀ j, 1 ≤ j → j < i → hasB n j = true) (hi : hasB n i = false) : freeN n = i := by
  unfold freeN
  have : (List.range 15).find? (fun j : Nat => !hasB n ((j : Int) + 1)) = some (i - 1).toNat := by
    rw [List.find?_range_eq_some]
    refine ⟨?_, by simp; omega, fun j hj => ?_⟩
    · rw [show (((i - 1).toNat : Nat) : Int) + 1 = i by omega, hi]; rfl
    · rw [ha _ (by omega) (by omega)]; rfl
  rw [this]
  show (((i - 1).toNat : Nat) : Int) + 1 = i
  omega
theorem freeN_none {n : Int} (ha : ∀ j, 1 ≤ j → j < 16 → hasB n j = true) : freeN n = 16 := by
  unfold freeN
  have : (List.range 15).find? (fun j : Nat => !hasB n ((j : Int) + 1)) = none := by
    rw [List.find?_eq_none]
    intro j hj
    have : j < 15 := by simpa using hj
    rw [ha _ (by omega) (by omega)]; simp
  rw [this]; rfl

set_option maxHeartbeats 1000000 in
theorem alloc_w (q N p B : Nat) (f : StF) (g : VwF) (typ : Int) (w : World) (h : ViewIn q N p g w) (hs : StoreIn p B f w) (hNB : N ≠ B) : Calls Try.prog 8 #[.pointer (some ⟨q, 0, none⟩), .int .i64 typ] w
    fun e w' => e = .returned (allocV (allocA f g)) ∧ ViewIn q N p (allocT f g typ) w' ∧ Kept (fun n => n = N) w w' := by
  have hN : N < w.heap.size := h.map.lt
  have hq : q < w.heap.size := lt_at h.cell
  go_enter Try.func8, Try.ntmps8
  go_wp2_with fail
  refine (table_w w).mono ?_
  rintro e w1 ⟨rfl, hk1⟩
  go_wp2_with fail
  refine (vget_w q N p B f g 9 0 w1 (h.still hk1) (hs.still hk1) hNB).mono ?_
  rintro e w2 ⟨rfl, hv2, hk2⟩
  have k2 : Kept (fun n => n = N) w w2 := (hk1.mono (fun _ _ e => e.elim)).trans hk2 (fun _ _ e => e)
  have HA : Hid (allocA f g = freeN (vgetF f g (9, 0)).n0 ∧ allocT f g typ = if allocA f g < 16 then vputT (vputT (vgetT g (9, 0)) (9, 0) (withN (vgetF f g (9, 0)) (orN (vgetF f g (9, 0)).n0 (allocA f g)))) (10, allocA f g) (numV typ) else vgetT g (9, 0)) := ⟨rfl, rfl⟩
  generalize vgetF f g (9, 0) = x at *
  obtain ⟨F, hF⟩ : ∃ F : Nat, w2.heap.size = F := ⟨_, rfl⟩
  have lF : w.heap.size ≤ F := by have := k2.size; omega
  have hv3 : ViewIn q N p (vgetT g (9, 0)) (w2.alloc (.cells (vc x).toArray 51)) := hv2.still ((Kept.refl _ _).alloc _)
  have k3 : Kept (fun n => n = N) w (w2.alloc (.cells (vc x).toArray 51)) := k2.alloc _
  have hF3 : (w2.alloc (.cells (vc x).toArray 51)).heap[F]? = some (.cells (vc x).toArray 51 (0, 0)) := alloc_at' _ hF
  clear h hs hk1 hk2 hv2 k2
  go_wp2_with (first | (refine list_wnew rfl wide_V _ _ rfl F rfl (vc x) rfl _ rfl hF rfl (vc_one _) ?_))
  generalize w2.alloc (.cells (vc x).toArray 51) = w3 at *
  clear hF
  have H0 : Hid (Kept (fun _ => False) w3 w3) := Kept.refl _ _
  have HF : Hid (w3.heap[F]? = some (.cells (vc x).toArray 51 (0, 0))) := hF3
  have HV : Hid (ViewIn q N p (vgetT g (9, 0)) w3 ∧ Kept (fun n => n = N) w w3) := ⟨hv3, k3⟩
  clear hF3 hv3 k3
  go_loopw [7] (fun v wr => ∃ i : Int, v = .int .i64 i ∧ 1 ≤ i ∧ i ≤ 16 ∧ Hid (∀ j, 1 ≤ j → j < i → hasB x.n0 j = true) ∧ Hid (Kept (fun _ => False) w3 wr)) (fun v _ => (16 - intOf v).toNat)
  case atStart => exact ⟨1, rfl, by omega, by omega, fun j h1 h2 => by omega, H0.out⟩
  case round =>
    obtain ⟨i, rfl, hi1, hi2, HB, HK⟩ := hrel
    clear H0
    by_cases hlt : i < 16
    · have hb := and_b x.n0 i (by omega) hlt
      have hF4 := HK.out.at HF.out (fun x => x)
      have c0 := cell_at hF4 (i := 0) (v := .int .i64 x.n0) rfl
      cases hbit : hasB x.n0 i with
      | true =>
        rw [hbit, if_pos rfl] at hb
        have hz : (pw i != 0) = true := by have := pw_pos (i := i) (by omega) hlt; simp; omega
        have HB2 : Hid (∀ j, 1 ≤ j → j < i + 1 → hasB x.n0 j = true) := fun j h1 h2 => by
          by_cases e : j = i
          · rw [e]; exact hbit
          · exact HB.out j h1 (by omega)
        clear hbit
        go_wp2_with fail
        go_quiet (exact Calls.quiet_of_same (bit_w i _ (by omega) hlt))
        have HK2 : Hid (Kept (fun _ => False) w3 (wr.drewN nq)) := HK.out.trans (kept_drewN _ _) (fun _ _ e => e)
        clear hF4 c0 HK HB
        go_wp2
        go_roundw
        case rel => exact ⟨i + 1, rfl, by omega, by omega, HB2.out, HK2⟩
        case measure => simp [intOf]; omega
      | false =>
        rw [hbit] at hb
        simp only [Bool.false_eq_true, if_false] at hb
        have HE : Hid (allocA f g = i) := by show _ = _; rw [HA.out.1]; exact freeN_at hi1 hlt HB.out hbit
        clear hbit
        go_wp2_with fail
        go_quiet (exact Calls.quiet_of_same (bit_w i _ (by omega) hlt))
        have HK2 : Hid (Kept (fun _ => False) w3 (wr.drewN nq)) := HK.out.trans (kept_drewN _ _) (fun _ _ e => e)
        clear hF4 c0 HK HB
        generalize wr.drewN nq = wd at *
        have hF4 := HK2.out.at HF.out (fun x => x)
        have c0 := cell_at hF4 (i := 0) (v := .int .i64 x.n0) rfl
        have f0 := free_at hF4 0
        go_wp2_with fail
        go_cut [6] from 23 to 30 (fun v wc => v = .pointer (some ⟨F, 0, none⟩) ∧ Hid (Kept (fun n => n = F) wd wc ∧ wc.heap[F]? = some (.cells (vc (withN x (orN x.n0 i))).toArray 51 (0, 0))))
        case first =>
          go_region_with (refine (bit_w i _ (by omega) hlt).mono ?_; rintro e w4 ⟨rfl, hw4⟩; subst hw4)
          all_goals
            go_wp2
            go_meet
            case rel => exact And.intro rfl (And.intro (by refine Kept.drew (Kept.setCell (Kept.refl _ _) ?_ _); intro _; rfl) (by show (wd.setCell _ _).heap[F]? = _; rw [set_at hF4]; rfl))
        case rest =>
          obtain ⟨rfl, HC⟩ := hcut
          have hFy := HC.out.2
          have hK : Kept (fun n => n = F) w3 wc := (HK2.out.mono (fun _ _ e => e.elim)).trans HC.out.1 (fun _ _ e => e)
          have hvw : ViewIn q N p (vgetT g (9, 0)) wc := HV.out.1.kept hK (by omega) (by omega)
          have hKw : Kept (fun n => n = N) w wc := HV.out.2.trans hK (fun k h1 h2 => by omega)
          clear hF4 c0 f0 HK2 HC hK HV HF
          obtain ⟨y, hy⟩ : ∃ y, withN x (orN x.n0 i) = y := ⟨_, rfl⟩
          rw [hy] at hFy
          have HY : Hid (allocT f g typ = vputT (vputT (vgetT g (9, 0)) (9, 0) y) (10, i) (numV typ)) := by
            show _ = _
            rw [HA.out.2, HE.out, if_pos hlt, hy]
          clear hy HA
          have KS : ∀ w', Kept (fun n => n = N) wc w' → True := fun _ _ => trivial
          have KV : ∀ w', Kept (fun n => n = N) wc w' → w'.rangeAt F 0 (vc y) := fun w' hk' => range_kept (whole_range hFy) hk' (by omega)
          go_wp2_with fail
          refine wp_region_held_drew (S := fun w' => Kept (fun n => n = N) wc w') (by kernel_rfl) ((Kept.refl _ _).drew) (fun hHeld => ?_)
          refine h_take 0 (some 31) (Op.move (Operand.tmp 0)) 25 ?v1 rfl rfl (by kernel_rfl) (by kernel_rfl) (by kernel_rfl) (fun _ _ _ h => h) ?hy1 hHeld ?_
          case hy1 => (intro _ _ _ w hSw; have hcs := KS _ hSw; go_simp; try with_reducible rfl)
          simp only [Act.put, List.setIfInBounds_toArray, List.set_cons_zero, List.set_cons_succ]
          refine h_take 2 (some 33) (Op.load 51 (Operand.tmp 6)) 51 (vv y) rfl rfl (by kernel_rfl) (by kernel_rfl) (by kernel_rfl) (fun _ _ _ h => h) (fun _ _ _ w hSw => exec_load rfl (load_wide wide_V (KV w hSw) rfl)) hHeld ?_
          simp only [Act.put, List.setIfInBounds_toArray, List.set_cons_zero, List.set_cons_succ]
          refine h_step 1 (some 32) (Op.call { callee := Callee.value (Operand.func 31), args := #[], argTypes := #[] }) 54 rfl rfl (by kernel_rfl) (fun _ _ _ K hK => ?_)
          go_simp
          refine (table_w _).mono ?_
          rintro e w5 ⟨rfl, hk5⟩
          replace hk5 : Kept (fun _ => False) wc w5 := (Kept.refl _ wc).drew.thru hk5
          go_wp2_with fail
          refine hK.out _ _ (hk5.mono (fun _ _ e => e.elim)) (fun hHeld => ?_)
          clear hK K
          try simp only [Act.put, List.setIfInBounds_toArray, List.set_cons_zero, List.set_cons_succ]
          refine h_step 3 (some 34) (Op.call { callee := Callee.value (Operand.func 24), args := #[Operand.tmp 31, Operand.tmp 32, Operand.tmp 33], argTypes := #[25, 54, 51] }) 0 rfl rfl (by kernel_rfl) (fun _ _ _ K hK => ?_)
          go_simp
          refine (vput_w q N p (vgetT g (9, 0)) 9 0 y w5 (hvw.still hk5)).mono ?_
          rintro e w6 ⟨rfl, hv6, hk6⟩
          replace hk6 : Kept (fun n => n = N) wc w6 := (hk5.mono (fun _ _ e => e.elim)).trans hk6 (fun _ _ e => e)
          go_wp2_with fail
          refine hK.out _ _ (hk6) (fun hHeld => ?_)
          clear hK K
          try simp only [Act.put, List.setIfInBounds_toArray, List.set_cons_zero, List.set_cons_succ]
          refine wpAnyH_done (by kernel_rfl) ?_ _
          have hK6 : Kept (fun n => n = N) w w6 := hKw.trans hk6 (fun _ _ e => e)
          clear hHeld KS KV hk5 hvw hKw hk6 hFy
          obtain ⟨G, hG⟩ : ∃ G : Nat, w6.heap.size = G := ⟨_, rfl⟩
          have lG : N < G := by have := hK6.size; omega
          have lq : q < G := by have := hK6.size; omega
          have lw : w.heap.size ≤ G := by have := hK6.size; omega
          obtain ⟨w7, h7⟩ : ∃ w7, w6.alloc (.cells (vc zeroV).toArray 51) = w7 := ⟨_, rfl⟩
          have b7 : w7.heap[G]? = some (.cells (vc zeroV).toArray 51 (0, 0)) := by subst h7; exact alloc_at' _ hG
          have k7 : Kept (fun _ => False) w6 w7 := by subst h7; exact (Kept.refl _ _).alloc _
          have c0 : w7.cell? ⟨G, 0, none⟩ = some (.int .i64 0) := cell_at b7 rfl
          have f0 := free_at b7 0
          have b8 : (w7.setCell ⟨G, 0, none⟩ (.int .i64 typ)).heap[G]? = some (.cells (vc (numV typ)).toArray 51 (0, 0)) := by rw [set_at b7]; rfl
          have k8 : Kept (fun _ => False) w6 (w7.setCell ⟨G, 0, none⟩ (.int .i64 typ)) := Kept.setCell k7 (fun e => by simp at e; omega) _
          rw [zero_cells] at h7
          go_wp2_with fail
          generalize w7.setCell ⟨G, 0, none⟩ (.int .i64 typ) = w8 at *
          clear c0 f0 b7 k7 h7 hG
          have hv8 := hv6.still k8
          have hK8 := hK6.trans k8 (fun _ _ e => e.elim)
          clear hv6 hK6 k8
          have KS : ∀ w', Kept (fun n => n = N) w8 w' → True := fun _ _ => trivial
          have KV : ∀ w', Kept (fun n => n = N) w8 w' → w'.rangeAt G 0 (vc (numV typ)) := fun w' hk' => range_kept (whole_range b8) hk' (by omega)
          refine wp_region_held_drew (S := fun w' => Kept (fun n => n = N) w8 w') (by kernel_rfl) ((Kept.refl _ _).drew) (fun hHeld => ?_)
          refine h_take 0 (some 38) (Op.move (Operand.tmp 0)) 25 ?v2 rfl rfl (by kernel_rfl) (by kernel_rfl) (by kernel_rfl) (fun _ _ _ h => h) ?hy2 hHeld ?_
          case hy2 => (intro _ _ _ w hSw; have hcs := KS _ hSw; go_simp; try with_reducible rfl)
          simp only [Act.put, List.setIfInBounds_toArray, List.set_cons_zero, List.set_cons_succ]
          refine h_take 1 (some 39) (Op.move (Operand.tmp 7)) 3 ?v3 rfl rfl (by kernel_rfl) (by kernel_rfl) (by kernel_rfl) (fun _ _ _ h => h) ?hy3 hHeld ?_
          case hy3 => (intro _ _ _ w hSw; have hcs := KS _ hSw; go_simp; try with_reducible rfl)
          simp only [Act.put, List.setIfInBounds_toArray, List.set_cons_zero, List.set_cons_succ]
          refine h_take 3 (some 41) (Op.load 51 (Operand.tmp 8)) 51 (vv (numV typ)) rfl rfl (by kernel_rfl) (by kernel_rfl) (by kernel_rfl) (fun _ _ _ h => h) (fun _ _ _ w hSw => exec_load rfl (load_wide wide_V (KV w hSw) rfl)) hHeld ?_
          simp only [Act.put, List.setIfInBounds_toArray, List.set_cons_zero, List.set_cons_succ]
          refine h_step 2 (some 40) (Op.call { callee := Callee.value (Operand.func 33), args := #[Operand.tmp 39], argTypes := #[3] }) 54 rfl rfl (by kernel_rfl) (fun _ _ _ K hK => ?_)
          go_simp
          refine (object_w i _).mono ?_
          rintro e w9 ⟨rfl, hk9⟩
          replace hk9 : Kept (fun _ => False) w8 w9 := (Kept.refl _ w8).drew.thru hk9
          go_wp2_with fail
          refine hK.out _ _ (hk9.mono (fun _ _ e => e.elim)) (fun hHeld => ?_)
          clear hK K
          try simp only [Act.put, List.setIfInBounds_toArray, List.set_cons_zero, List.set_cons_succ]
          refine h_step 4 (some 42) (Op.call { callee := Callee.value (Operand.func 24), args := #[Operand.tmp 38, Operand.tmp 40, Operand.tmp 41], argTypes := #[25, 54, 51] }) 0 rfl rfl (by kernel_rfl) (fun _ _ _ K hK => ?_)
          go_simp
          refine (vput_w q N p _ 10 i (numV typ) w9 (hv8.still hk9)).mono ?_
          rintro e wz ⟨rfl, hvz, hkz⟩
          replace hkz : Kept (fun n => n = N) w8 wz := (hk9.mono (fun _ _ e => e.elim)).trans hkz (fun _ _ e => e)
          go_wp2_with fail
          refine hK.out _ _ (hkz) (fun hHeld => ?_)
          clear hK K
          try simp only [Act.put, List.setIfInBounds_toArray, List.set_cons_zero, List.set_cons_succ]
          refine wpAnyH_done (by kernel_rfl) ?_ _
          have hKz : Kept (fun n => n = N) w wz := hK8.trans hkz (fun _ _ e => e)
          have HZ : Hid (ViewIn q N p (allocT f g typ) wz) := by show ViewIn _ _ _ _ _; rw [HY.out]; exact hvz
          have HR : Hid (allocV (allocA f g) = .tuple #[.int .i64 i, .bool true]) := by
            show _ = _
            rw [HE.out]; unfold allocV; rw [if_pos hlt]; simp [hlt]
          clear hHeld KS KV hk9 hv8 hK8 hkz hvz b8 HE
          go_wp2_with fail
          exact bodyPost_ret (v := .tuple #[.int .i64 i, .bool true]) (by simp [results, Try.results8, go_sem]) rfl ⟨by rw [HR.out], HZ.out, hKz⟩
    · obtain rfl : i = 16 := by omega
      have HE : Hid (allocA f g = 16) := by show _ = _; rw [HA.out.1]; exact freeN_none HB.out
      have HR : Hid (allocV (allocA f g) = .tuple #[.int .i64 0, .bool false]) := by show _ = _; rw [HE.out]; rfl
      have HZ : Hid (ViewIn q N p (allocT f g typ) wr) := by
        show ViewIn _ _ _ _ _
        rw [HA.out.2, HE.out]
        exact HV.out.1.still HK.out
      have hKz : Kept (fun n => n = N) w wr := HV.out.2.trans HK.out (fun _ _ e => e.elim)
      clear HA HE HV HK HB HF
      go_wp2_with fail
      exact bodyPost_ret (v := .tuple #[.int .i64 0, .bool false]) (by simp [results, Try.results8, go_sem]) rfl ⟨by rw [HR.out], HZ.out, hKz⟩
end Go.Proofs.Ytdgkhfhlbjpaoaa

namespace Go.Proofs.Ytdgkhfhlbjpaoaa
open Go.RowKit
set_option maxRecDepth 100000
set_option linter.unusedSimpArgs false

def cutD (d : ByteArray) (o : Nat) : ByteArray := bs ((bl d).take (128 - o))
def overF (s : ByteArray) (o : Nat) (d : ByteArray) : ByteArray := bs ((bl s).take o ++ bl d ++ (bl s).drop (o + d.size))
def wrOk (f : StF) (g : VwF) (i off : Int) : Bool := isI f g i && decide (0 ≤ off) && decide (off ≤ 128) && decide (off ≤ (findV f g i).s.size)
def withS (x : V) (s : ByteArray) : V := { x with s := s }
def writeA (f : StF) (g : VwF) (i off : Int) (d : ByteArray) : Int := if wrOk f g i off = true then ((cutD d off.toNat).size : Int) else -1
def writeT (f : StF) (g : VwF) (i off : Int) (d : ByteArray) : VwF := if wrOk f g i off = true then vputT (findT g i) (10, i) (withS (findV f g i) (overF (findV f g i).s off.toNat (cutD d off.toNat))) else findT g i

theorem cutD_size (d : ByteArray) (o : Nat) : (cutD d o).size = min (128 - o) d.size := by unfold cutD; rw [bs_size, List.length_take, bl_len]
theorem cutD_ext {d : ByteArray} {o m : Nat} (h : m = min (128 - o) d.size) : d.extract 0 m = cutD d o := by
  unfold cutD
  rw [extract_bs]
  congr 1
  rw [List.drop_zero, Nat.sub_zero, List.take_eq_take_iff, bl_len]
  omega

/-- 'copy(dst, s)' from a text: as much as there is room for. -/
theorem run_copy_part {P : Program} (w : World) (dT sT ty elem : TypeId) (g o dLen dCap : Nat) (s : ByteArray) (cur : Array Value) (t : TypeId)
    (hu : P.underlying dT = some (.slice elem)) (hs : (P.info? elem).map (·.size) = some 1) (hg : w.heap[g]? = some (.cells cur t (0, 0))) (hfit : o + min s.size dLen ≤ cur.size) :
    (Builtin.copy_ #[dT, sT] ty #[.slice (some ⟨g, o, none⟩) dLen dCap, .string s]).run P w =
      .ok (goInt ((min s.size dLen : Nat) : Int)) (w.setRow g (cur.toList.take o ++ Lib.byteCells (s.data.toList.take (min s.size dLen)) ++ cur.toList.drop (o + min s.size dLen)).toArray) := by
  have hlen : (Lib.byteCells (s.data.toList.take (min s.size dLen))).length = min s.size dLen := by
    rw [Lib.byteCells_length, List.length_take, ← Lib.size_eq]; omega
  have hst := run_storeCells_at P g o t (Lib.byteCells (s.data.toList.take (min s.size dLen))) 0 cur w hg (by rw [hlen]; simpa using hfit) (Lib.byteCells_one _)
  have htk : List.take (min s.size dLen) (List.map (fun b : UInt8 => Value.int IntKind.u8 (b.toNat : Int)) s.data.toList) = Lib.byteCells (s.data.toList.take (min s.size dLen)) := by
    rw [← List.map_take]; rfl
  rw [hlen] at hst
  simp only [Nat.add_zero] at hst
  cases hq : P.info? elem with
  | none => simp [hq] at hs
  | some i =>
    simp [Builtin.copy_, run_underlying hu, Builtin.lenOf, Builtin.firstCells, sizeOf, typeInfo, hq]
    rw [htk, hst]
    simp [Result.andThen]

/-- A row of bytes. -/
def RowB (G : Nat) (l : Bs) (w : World) : Prop := ∃ Y t, w.heap[G]? = some (.cells Y t (0, 0)) ∧ Y.toList = Lib.byteCells l

theorem cells_take (l : Bs) (n : Nat) : (Lib.byteCells l).take n = Lib.byteCells (l.take n) := by unfold Lib.byteCells; rw [List.map_take]
theorem cells_drop (l : Bs) (n : Nat) : (Lib.byteCells l).drop n = Lib.byteCells (l.drop n) := by unfold Lib.byteCells; rw [List.map_drop]

theorem copy_in {w : World} {G : Nat} {l : Bs} (h : RowB G l w) (ty : TypeId) (o n c : Nat) (s : ByteArray) (hn : o + s.size ≤ l.length) (hs : s.size ≤ n) :
    ∃ m wY, (Builtin.copy_ #[75, 9] ty #[.slice (some ⟨G, o, none⟩) n c, .string s]).run Try.prog w = .ok m wY ∧ RowB G (l.take o ++ bl s ++ l.drop (o + s.size)) wY ∧ Kept (fun k => k = G) w wY := by
  obtain ⟨Y, t, hg, hY⟩ := h
  have hinfo : (Try.prog.info? 5).map (·.size) = some 1 := by kernel_rfl
  have hYs : Y.size = l.length := by rw [← Array.length_toList, hY, Lib.byteCells_length]
  have hm : min s.size n = s.size := Nat.min_eq_left hs
  refine ⟨_, _, run_copy_part (P := Try.prog) w 75 9 ty 5 G o n c s Y t Try.underlying75 hinfo hg (by omega), ⟨_, t, setRow_heap _ _ _ _ _ _ hg, ?_⟩, ⟨rfl, rfl, rfl, by simp, fun k hk hx => setRow_other _ _ _ _ hx⟩⟩
  have hall : List.take s.size s.data.toList = bl s := List.take_of_length_le (by rw [← Lib.size_eq]; exact Nat.le_refl _)
  rw [List.toList_toArray, hm, hY, cells_take, cells_drop, hall, ← Lib.byteCells_append, ← Lib.byteCells_append]

theorem row_text {G : Nat} {l : Bs} {w : World} (h : RowB G l w) (c : Nat) : (convert 75 9 (.slice (some ⟨G, 0, none⟩) l.length c)).run Try.prog w = .ok (.string (bs l)) w := by
  obtain ⟨Y, t, hg, hY⟩ := h
  refine run_convert_bytes_back (P := Try.prog) w 75 9 5 ⟨G, 0, none⟩ c l Try.underlying75 Try.underlying5 Try.underlying9 (fun j hj => ?_)
  rw [Addr.add_lit, Nat.zero_add]
  refine cell_at hg ?_
  rw [← Array.getElem?_toList, hY]
  simp [Lib.byteCells, hj]

theorem make_bytes (L : Nat) (hL : L ≤ 1000000) (w : World) : ∃ w', (Instr.makeSlice 75 (.int .i64 (L : Int)) (.int .i64 (L : Int))).run Try.prog w = .ok (.slice (some ⟨w.heap.size, 0, none⟩) L L) w' ∧ RowB w.heap.size (List.replicate L 0) w' ∧ Kept (fun _ => False) w w' := by
  obtain ⟨i0, hi, hz0, hz1, hz2⟩ := info_parts info_byte
  have h := run_make (P := Try.prog) w 75 5 i0 (.int .u8 0) Try.underlying75 hi hz0 .i64 .i64 (L : Int) (L : Int) (by omega) (by omega) (by rw [hz2]; omega) (by omega)
  refine ⟨_, by simpa using h, ⟨_, _, alloc_at _ _, ?_⟩, (Kept.refl _ _).alloc _⟩
  rw [hz1]
  simp [madeCells, Lib.byteCells, Value.cells, Nat.mod_one, Array.toList_range]
  rw [List.eq_replicate_iff]
  simp

theorem over_row {s d : ByteArray} {o L : Nat} (ho : o ≤ s.size) (hL : L = max s.size (o + d.size)) :
    ((List.replicate L (0 : UInt8)).take 0 ++ bl s ++ (List.replicate L 0).drop (0 + s.size)).length = L ∧
    (((List.replicate L (0 : UInt8)).take 0 ++ bl s ++ (List.replicate L 0).drop (0 + s.size)).take o ++ bl d ++ ((List.replicate L 0).take 0 ++ bl s ++ (List.replicate L 0).drop (0 + s.size)).drop (o + d.size)) = bl (overF s o d) ∧ (bl (overF s o d)).length = L := by
  have e1 : (bl s).length = s.size := bl_len s
  have e2 : (bl d).length = d.size := bl_len d
  have hl : ((List.replicate L (0 : UInt8)).take 0 ++ bl s ++ (List.replicate L 0).drop (0 + s.size)).length = L := by simp; omega
  have h2 : ((List.replicate L (0 : UInt8)).take 0 ++ bl s ++ (List.replicate L 0).drop (0 + s.size)).take o = (bl s).take o := by
    simp only [List.take_zero, List.nil_append]
    exact List.take_append_of_le_length (by omega)
  have h3 : ((List.replicate L (0 : UInt8)).take 0 ++ bl s ++ (List.replicate L 0).drop (0 + s.size)).drop (o + d.size) = (bl s).drop (o + d.size) := by
    simp only [List.take_zero, List.nil_append, List.drop_replicate, List.drop_append, e1]
    have : (List.replicate (L - (0 + s.size)) (0 : UInt8)).drop (o + d.size - s.size) = [] := List.drop_eq_nil_of_le (by simp; omega)
    rw [List.drop_replicate] at this
    rw [this, List.append_nil]
  refine ⟨hl, by rw [h2, h3]; rfl, ?_⟩
  unfold overF
  rw [bl_bs]
  simp [e1, e2]
  omega

set_option maxHeartbeats 2000000 in
theorem write_w (q N p B : Nat) (f : StF) (g : VwF) (i off : Int) (d : ByteArray) (w : World) (h : ViewIn q N p g w) (hs : StoreIn p B f w) (hNB : N ≠ B) (hsz : (findV f g i).s.size ≤ 100000) : Calls Try.prog 9 #[.pointer (some ⟨q, 0, none⟩), .int .i64 i, .int .i64 off, .string d] w
    fun e w' => e = .returned (.int .i64 (writeA f g i off d)) ∧ ViewIn q N p (writeT f g i off d) w' ∧ Kept (fun n => n = N) w w' := by
  have hN : N < w.heap.size := h.map.lt
  have hq : q < w.heap.size := lt_at h.cell
  go_enter Try.func9, Try.ntmps9
  go_wp2_with fail
  refine (find_w q N p B f g i w h hs hNB).mono ?_
  rintro e w1 ⟨rfl, hv1, hk1⟩
  obtain ⟨F, hF⟩ : ∃ F : Nat, w1.heap.size = F := ⟨_, rfl⟩
  have lF : w.heap.size ≤ F := by have := hk1.size; omega
  obtain ⟨x, hx⟩ : ∃ x, findV f g i = x := ⟨_, rfl⟩
  obtain ⟨ib, hib⟩ : ∃ ib, isI f g i = ib := ⟨_, rfl⟩
  obtain ⟨ok, hok⟩ : ∃ ok, wrOk f g i off = ok := ⟨_, rfl⟩
  have HA : Hid (writeA f g i off d = if ok = true then ((cutD d off.toNat).size : Int) else -1) := by show _ = _; unfold writeA; rw [hok]
  have HT : Hid (writeT f g i off d = if ok = true then vputT (findT g i) (10, i) (withS x (overF x.s off.toNat (cutD d off.toNat))) else findT g i) := by show _ = _; unfold writeT; rw [hok, hx]
  unfold wrOk at hok
  rw [hx] at hsz hok ⊢
  rw [hib] at hok ⊢
  clear hx hib h hs
  obtain ⟨w2, h2⟩ : ∃ w2, w1.alloc (.cells (vc x).toArray 51) = w2 := ⟨_, rfl⟩
  have hb2 : w2.heap[F]? = some (.cells (vc x).toArray 51 (0, 0)) := by subst h2; exact alloc_at' _ hF
  have k12 : Kept (fun _ => False) w1 w2 := by subst h2; exact (Kept.refl _ _).alloc _
  have c16 : w2.cell? ⟨F, 16, none⟩ = some (.string x.s) := cell_at hb2 rfl
  have hv2 : ViewIn q N p (findT g i) w2 := hv1.still k12
  have k2 : Kept (fun n => n = N) w w2 := hk1.trans k12 (fun _ _ e => e.elim)
  clear hv1 hk1 k12
  by_cases hno : ok = false
  · subst hno
    have HZ : Hid (writeA f g i off d = -1 ∧ ViewIn q N p (writeT f g i off d) w2 ∧ Kept (fun n => n = N) w w2) := ⟨by rw [HA.out]; rfl, by rw [HT.out, if_neg (by simp)]; exact hv2, k2⟩
    clear HA HT hv2 k2
    cases ib with
    | false =>
      clear hok
      go_wp2_with (first | (refine list_wnew rfl wide_V _ _ rfl F rfl (vc x) rfl _ rfl hF rfl (vc_one _) ?_))
      go_ret
      exact ⟨by rw [HZ.out.1]; rfl, HZ.out.2⟩
    | true =>
      by_cases b1 : off < 0
      · clear hok
        go_wp2_with (first | (refine list_wnew rfl wide_V _ _ rfl F rfl (vc x) rfl _ rfl hF rfl (vc_one _) ?_))
        go_ret
        exact ⟨by rw [HZ.out.1]; rfl, HZ.out.2⟩
      · by_cases b2 : 128 < off
        · clear hok
          go_wp2_with (first | (refine list_wnew rfl wide_V _ _ rfl F rfl (vc x) rfl _ rfl hF rfl (vc_one _) ?_))
          go_ret
          exact ⟨by rw [HZ.out.1]; rfl, HZ.out.2⟩
        · have b3 : (x.s.size : Int) < off := by simp at hok; omega
          clear hok
          go_wp2_with (first | (refine list_wnew rfl wide_V _ _ rfl F rfl (vc x) rfl _ rfl hF rfl (vc_one _) ?_))
          go_ret
          exact ⟨by rw [HZ.out.1]; rfl, HZ.out.2⟩
  · obtain rfl : ok = true := by simpa using hno
    clear hno
    simp only [Bool.and_eq_true, decide_eq_true_eq] at hok
    obtain ⟨⟨⟨rfl, b1⟩, b2⟩, b3⟩ := hok
    obtain ⟨o, rfl⟩ : ∃ o : Nat, off = o := ⟨off.toNat, by omega⟩
    obtain ⟨t, ht⟩ : ∃ t, cutD d o = t := ⟨_, rfl⟩
    have hts : t.size = min (128 - o) d.size := by rw [← ht, cutD_size]
    have hext : ∀ m : Nat, m = min (128 - o) d.size → d.extract 0 m = t := fun m hm => by rw [cutD_ext hm, ht]
    have HA2 : Hid (writeA f g i o d = t.size) := by show _ = _; rw [HA.out, if_pos rfl, Int.toNat_natCast, ht]
    have HT2 : Hid (writeT f g i o d = vputT (findT g i) (10, i) (withS x (overF x.s o t))) := by show _ = _; rw [HT.out, if_pos rfl, Int.toNat_natCast, ht]
    clear HA HT ht
    have hts2 : t.size ≤ 128 := by omega
    have HX : Hid (∀ m : Nat, m = min (128 - o) d.size → d.extract 0 m = t) := hext
    have HTS : Hid (t.size = min (128 - o) d.size) := hts
    clear hext hts
    go_upto_region 4 with (first | (refine list_wnew rfl wide_V _ _ rfl F rfl (vc x) rfl _ rfl hF rfl (vc_one _) ?_))
    try rw [h2]
    go_cut [3] from 18 to 41 (fun v wx => v = .string t ∧ wx = w2)
    case first =>
      by_cases hm : (128 : Int) - o < d.size
      · have e1 := HX.out (128 - o) (by omega)
        have e2 : ((128 : Int) - (o : Int)).toNat = 128 - o := by omega
        go_wp2
        go_meet
        case rel => exact ⟨rfl, rfl⟩
      · have e1 := HX.out d.size (by omega)
        go_wp2
        go_meet
        case rel => exact ⟨rfl, rfl⟩
    case rest =>
      obtain ⟨rfl, hwc⟩ := hcut
      subst hwc
      clear h2 HX HTS b1
      obtain ⟨L, hL⟩ : ∃ L : Nat, L = max x.s.size (o + t.size) := ⟨_, rfl⟩
      obtain ⟨G, hG⟩ : ∃ G : Nat, wc.heap.size = G := ⟨_, rfl⟩
      have lG : F < G := by have := lt_at hb2; omega
      obtain ⟨w3, hmk, hr3, k3⟩ := make_bytes L (by omega) wc
      rw [hG] at hmk hr3
      obtain ⟨hl1, hl2, hl3⟩ := over_row (s := x.s) (d := t) (o := o) (L := L) (by omega) hL
      have hb3 := k3.at hb2 (fun x => x)
      have c163 : w3.cell? ⟨F, 16, none⟩ = some (.string x.s) := cell_at hb3 rfl
      obtain ⟨m4, w4, hc4, hr4, k4⟩ := copy_in hr3 3 0 L L x.s (by rw [List.length_replicate]; omega) (by omega)
      generalize (List.replicate L (0 : UInt8)).take 0 ++ bl x.s ++ (List.replicate L 0).drop (0 + x.s.size) = l1 at *
      have HO : Hid (l1.length = L ∧ l1.take o ++ bl t ++ l1.drop (o + t.size) = bl (overF x.s o t) ∧ (bl (overF x.s o t)).length = L ∧ RowB G l1 w4) := ⟨hl1, hl2, hl3, hr4⟩
      have hv4 : ViewIn q N p (findT g i) w4 := (hv2.still k3).kept k4 (by omega) (by omega)
      have hK4 : Kept (fun n => n = N) w w4 := (k2.trans k3 (fun _ _ e => e.elim)).trans k4 (fun k h1 h2 => by omega)
      have hb4 := k4.at hb3 (show ¬ F = G by omega)
      have hLL : Hid (L = max x.s.size (o + t.size)) := hL
      clear hl1 hl2 hl3 hr3 hr4 k3 k4 hb2 hb3 hv2 k2
      go_upto_region 5 with fail
      go_cut [11] from 42 to 50 (fun v wx => v = .slice (some ⟨G, 0, none⟩) L L ∧ wx = w3)
      case first =>
        by_cases hmx : (x.s.size : Int) < (o : Int) + t.size
        · obtain rfl : L = o + t.size := by omega
          simp only [Int.natCast_add] at hmk
          clear hL
          go_wp2
          go_meet
          case rel => exact ⟨rfl, rfl⟩
        · obtain rfl : L = x.s.size := by omega
          clear hL
          go_wp2
          go_meet
          case rel => exact ⟨rfl, rfl⟩
      case rest =>
        obtain ⟨rfl, hwc⟩ := hcut
        subst hwc
        clear hL c16 hmk
        have hoL : o ≤ L := by have := hLL.out; omega
        have t1 : (o : Int) ≤ L := by omega
        go_upto_region 7 with fail
        go_cut [11] from 42 to 59 (fun v wx => v = .slice (some ⟨G, 0, none⟩) L L ∧ Hid (RowB G (bl (overF x.s o t)) wx ∧ Kept (fun k => k = G) w4 wx))
        case first =>
          by_cases hLo : L = o
          · have ht0 : t.size = 0 := by have := hLL.out; omega
            obtain ⟨m7, w7, hc7, hr7, k7⟩ := copy_in HO.out.2.2.2 3 0 0 0 t (by omega) (by omega)
            have HR : Hid (RowB G (bl (overF x.s o t)) w7 ∧ Kept (fun k => k = G) w4 w7) := by
              refine ⟨?_, k7⟩
              have e2 : bl t = [] := List.eq_nil_of_length_eq_zero (by rw [bl_len]; exact ht0)
              have e3 : bl (overF x.s o t) = List.take 0 l1 ++ bl t ++ List.drop (0 + t.size) l1 := by
                rw [← HO.out.2.1, e2, ht0]; simp
              rw [e3]; exact hr7
            subst hLo
            clear ht0 hr7 k7 HO hLL hc4 t1
            go_wp2
            go_meet
            case rel => exact ⟨rfl, HR.out⟩
          · obtain ⟨m7, w7, hc7, hr7, k7⟩ := copy_in HO.out.2.2.2 3 o (L - o) (L - o) t (by have := HO.out.1; have := hLL.out; omega) (by have := hLL.out; omega)
            have HR : Hid (RowB G (bl (overF x.s o t)) w7 ∧ Kept (fun k => k = G) w4 w7) := by
              refine ⟨?_, k7⟩
              rw [← HO.out.2.1]; exact hr7
            have hLo2 : ¬ L - o = 0 := by omega
            clear hr7 k7 HO hLL hc4
            go_wp2
            go_meet
            case rel => exact ⟨rfl, HR.out⟩
        case rest =>
          obtain ⟨rfl, HC⟩ := hcut
          obtain ⟨y, hy⟩ : ∃ y, overF x.s o t = y := ⟨_, rfl⟩
          rw [hy] at HC HT2
          have hyl : (bl y).length = L := by rw [← hy]; exact HO.out.2.2.1
          have hcv := row_text HC.out.1 L
          rw [bs_bl, hyl] at hcv
          have hbF := HC.out.2.at hb4 (show ¬ F = G by omega)
          have hvc : ViewIn q N p (findT g i) wc := hv4.kept HC.out.2 (by omega) (by omega)
          have hKc : Kept (fun n => n = N) w wc := hK4.trans HC.out.2 (fun k h1 h2 => by omega)
          have e16 : wc.cell? ⟨F, 16, none⟩ = some (.string x.s) := cell_at hbF rfl
          have f16 := free_at hbF 16
          have hb8 : (wc.setCell ⟨F, 16, none⟩ (.string y)).heap[F]? = some (.cells (vc (withS x y)).toArray 51 (0, 0)) := by rw [set_at hbF]; rfl
          have k8 : Kept (fun n => n = F) wc (wc.setCell ⟨F, 16, none⟩ (.string y)) := by refine Kept.setCell (Kept.refl _ _) ?_ _; intro _; rfl
          have hv8 := hvc.kept k8 (by omega) (by omega)
          have hK8 : Kept (fun n => n = N) w (wc.setCell ⟨F, 16, none⟩ (.string y)) := hKc.trans k8 (fun k h1 h2 => by omega)
          clear hy hyl HC hb4 hv4 hK4 hbF hvc hKc k8 HO hLL hc4 c163 t1
          go_wp2_with fail
          clear hcv e16 f16
          generalize wc.setCell ⟨F, 16, none⟩ (.string y) = w8 at *
          have KS : ∀ w', Kept (fun n => n = N) w8 w' → True := fun _ _ => trivial
          have KV : ∀ w', Kept (fun n => n = N) w8 w' → w'.rangeAt F 0 (vc (withS x y)) := fun w' hk' => range_kept (whole_range hb8) hk' (by omega)
          refine wp_region_held_drew (S := fun w' => Kept (fun n => n = N) w8 w') (by kernel_rfl) ((Kept.refl _ _).drew) (fun hHeld => ?_)
          refine h_take 0 (some 63) (Op.move (Operand.tmp 0)) 25 ?v4 rfl rfl (by kernel_rfl) (by kernel_rfl) (by kernel_rfl) (fun _ _ _ h => h) ?hy4 hHeld ?_
          case hy4 => (intro _ _ _ w hSw; have hcs := KS _ hSw; go_simp; try with_reducible rfl)
          simp only [Act.put, List.setIfInBounds_toArray, List.set_cons_zero, List.set_cons_succ]
          refine h_take 1 (some 64) (Op.move (Operand.tmp 1)) 3 ?v5 rfl rfl (by kernel_rfl) (by kernel_rfl) (by kernel_rfl) (fun _ _ _ h => h) ?hy5 hHeld ?_
          case hy5 => (intro _ _ _ w hSw; have hcs := KS _ hSw; go_simp; try with_reducible rfl)
          simp only [Act.put, List.setIfInBounds_toArray, List.set_cons_zero, List.set_cons_succ]
          refine h_take 3 (some 66) (Op.load 51 (Operand.tmp 9)) 51 (vv (withS x y)) rfl rfl (by kernel_rfl) (by kernel_rfl) (by kernel_rfl) (fun _ _ _ h => h) (fun _ _ _ w hSw => exec_load rfl (load_wide wide_V (KV w hSw) rfl)) hHeld ?_
          simp only [Act.put, List.setIfInBounds_toArray, List.set_cons_zero, List.set_cons_succ]
          refine h_step 2 (some 65) (Op.call { callee := Callee.value (Operand.func 33), args := #[Operand.tmp 64], argTypes := #[3] }) 54 rfl rfl (by kernel_rfl) (fun _ _ _ K hK => ?_)
          go_simp
          refine (object_w i _).mono ?_
          rintro e w5 ⟨rfl, hk5⟩
          replace hk5 : Kept (fun _ => False) w8 w5 := (Kept.refl _ w8).drew.thru hk5
          go_wp2_with fail
          refine hK.out _ _ (hk5.mono (fun _ _ e => e.elim)) (fun hHeld => ?_)
          clear hK K
          try simp only [Act.put, List.setIfInBounds_toArray, List.set_cons_zero, List.set_cons_succ]
          refine h_step 4 (some 67) (Op.call { callee := Callee.value (Operand.func 24), args := #[Operand.tmp 63, Operand.tmp 65, Operand.tmp 66], argTypes := #[25, 54, 51] }) 0 rfl rfl (by kernel_rfl) (fun _ _ _ K hK => ?_)
          go_simp
          refine (vput_w q N p (findT g i) 10 i (withS x y) w5 (hv8.still hk5)).mono ?_
          rintro e wz ⟨rfl, hvz, hkz⟩
          replace hkz : Kept (fun n => n = N) w8 wz := (hk5.mono (fun _ _ e => e.elim)).trans hkz (fun _ _ e => e)
          go_wp2_with fail
          refine hK.out _ _ (hkz) (fun hHeld => ?_)
          clear hK K
          try simp only [Act.put, List.setIfInBounds_toArray, List.set_cons_zero, List.set_cons_succ]
          refine wpAnyH_done (by kernel_rfl) ?_ _
          have hKz : Kept (fun n => n = N) w wz := hK8.trans hkz (fun _ _ e => e)
          have HZ : Hid (ViewIn q N p (writeT f g i o d) wz) := by show ViewIn _ _ _ _ _; rw [HT2.out]; exact hvz
          clear hHeld KS KV hk5 hv8 hK8 hkz hvz hb8 HT2
          go_wp2_with fail
          go_ret
          exact ⟨by rw [HA2.out]; rfl, HZ.out, hKz⟩
end Go.Proofs.Ytdgkhfhlbjpaoaa

namespace Go.Proofs.Ytdgkhfhlbjpaoaa
open Go.RowKit
set_option maxRecDepth 100000
set_option linter.unusedSimpArgs false

def chgV (x : V) (a b : Int) : V := { x with n1 := wrap64 (x.n1 + a), n2 := wrap64 (x.n2 + b) }
/-- What is left when inode i goes. -/
def goneT (f : StF) (g : VwF) (i : Int) : VwF := vputT (vgetT (vputT g (10, i) zeroV) (9, 0)) (9, 0) (withN (vgetF f (vputT g (10, i) zeroV) (9, 0)) (clrN (vgetF f (vputT g (10, i) zeroV) (9, 0)).n0 i))
def changeT (f : StF) (g : VwF) (i a b : Int) : VwF :=
  if isI f g i = true then (if 0 < (chgV (findV f g i) a b).n1 ∨ 0 < (chgV (findV f g i) a b).n2 then vputT (findT g i) (10, i) (chgV (findV f g i) a b) else goneT f (findT g i) i) else findT g i

theorem is_range {f : StF} {g : VwF} {i : Int} (h : isI f g i = true) : 1 ≤ i ∧ i < 16 := by
  unfold isI findV at h
  split at h
  · assumption
  · simp [zeroV] at h

set_option maxHeartbeats 1000000 in
theorem change_w (q N p B : Nat) (f : StF) (g : VwF) (i a b : Int) (w : World) (h : ViewIn q N p g w) (hs : StoreIn p B f w) (hNB : N ≠ B) : Calls Try.prog 10 #[.pointer (some ⟨q, 0, none⟩), .int .i64 i, .int .i64 a, .int .i64 b] w
    fun e w' => e = .returned (.bool (isI f g i)) ∧ ViewIn q N p (changeT f g i a b) w' ∧ Kept (fun n => n = N) w w' := by
  have hN : N < w.heap.size := h.map.lt
  have hq : q < w.heap.size := lt_at h.cell
  have hp : p < w.heap.size := lt_at hs.cell
  have hB : B < w.heap.size := hs.map.lt
  have hpN : p ≠ N := h.map.off hs.cell
  have hsk : ∀ w', Kept (fun n => n = N) w w' → StoreIn p B f w' := fun w' hk => hs.kept hk hpN (fun e => hNB e.symm)
  go_enter Try.func10, Try.ntmps10
  go_wp2_with fail
  refine (find_w q N p B f g i w h hs hNB).mono ?_
  rintro e w1 ⟨rfl, hv1, hk1⟩
  obtain ⟨F, hF⟩ : ∃ F : Nat, w1.heap.size = F := ⟨_, rfl⟩
  have lF : w.heap.size ≤ F := by have := hk1.size; omega
  obtain ⟨x, hx⟩ : ∃ x, findV f g i = x := ⟨_, rfl⟩
  have HT : Hid (changeT f g i a b = if isI f g i = true then (if 0 < (chgV x a b).n1 ∨ 0 < (chgV x a b).n2 then vputT (findT g i) (10, i) (chgV x a b) else goneT f (findT g i) i) else findT g i) := by show _ = _; unfold changeT; rw [hx]
  have hr := is_range (f := f) (g := g) (i := i)
  rw [hx]
  clear hx h hs
  obtain ⟨ib, hib⟩ : ∃ ib, isI f g i = ib := ⟨_, rfl⟩
  have HI : Hid (isI f g i = ib) := hib
  rw [hib] at HT hr ⊢
  clear hib
  cases ib with
  | false =>
    have hv2 : ViewIn q N p (findT g i) (w1.alloc (.cells (vc x).toArray 51)) := hv1.still ((Kept.refl _ _).alloc _)
    have HZ : Hid (ViewIn q N p (changeT f g i a b) (w1.alloc (.cells (vc x).toArray 51))) := by show ViewIn _ _ _ _ _; rw [HT.out, if_neg (by simp)]; exact hv2
    have hK : Kept (fun n => n = N) w (w1.alloc (.cells (vc x).toArray 51)) := hk1.alloc _
    clear HT hr hv2 hv1
    go_wp2_with (first | (refine list_wnew rfl wide_V _ _ rfl F rfl (vc x) rfl _ rfl hF rfl (vc_one _) ?_))
    exact bodyPost_ret (v := .bool false) (by simp [results, Try.results10, go_sem]) rfl ⟨by rw [HI.out], HZ.out, hK⟩
  | true =>
    obtain ⟨hi1, hi2⟩ := hr rfl
    have HT1 : Hid (changeT f g i a b = if 0 < (chgV x a b).n1 ∨ 0 < (chgV x a b).n2 then vputT (findT g i) (10, i) (chgV x a b) else goneT f (findT g i) i) := by show _ = _; rw [HT.out, if_pos rfl]
    clear HT
    clear hr
    have hb1 : (w1.alloc (.cells (vc x).toArray 51)).heap[F]? = some (.cells (vc x).toArray 51 (0, 0)) := alloc_at' _ hF
    obtain ⟨w2, h2⟩ : ∃ w2, w1.alloc (.cells (vc x).toArray 51) = w2 := ⟨_, rfl⟩
    have k2 : Kept (fun n => n = N) w w2 := by subst h2; exact hk1.alloc _
    have k12 : Kept (fun _ => False) w1 w2 := by subst h2; exact (Kept.refl _ _).alloc _
    rw [h2] at hb1
    obtain ⟨y1, hy1⟩ : ∃ y1, wrap64 (x.n1 + a) = y1 := ⟨_, rfl⟩
    obtain ⟨y2, hy2⟩ : ∃ y2, wrap64 (x.n2 + b) = y2 := ⟨_, rfl⟩
    obtain ⟨y, hy⟩ : ∃ y, chgV x a b = y := ⟨_, rfl⟩
    have hyy : y = { x with n1 := y1, n2 := y2 } := by rw [← hy, ← hy1, ← hy2]; rfl
    have hyn1 : y.n1 = y1 := by rw [hyy]
    have hyn2 : y.n2 = y2 := by rw [hyy]
    have c1 : w2.cell? ⟨F, 1, none⟩ = some (.int .i64 x.n1) := cell_at hb1 rfl
    have f1 := free_at hb1 1
    have hb2 := set_at hb1 1 (.int .i64 y1)
    have c2 : (w2.setCell ⟨F, 1, none⟩ (.int .i64 y1)).cell? ⟨F, 2, none⟩ = some (.int .i64 x.n2) := cell_at hb2 rfl
    have f2 := free_at hb2 2
    have hb4 : ((w2.setCell ⟨F, 1, none⟩ (.int .i64 y1)).setCell ⟨F, 2, none⟩ (.int .i64 y2)).heap[F]? = some (.cells (vc y).toArray 51 (0, 0)) := by rw [set_at hb2, hyy]; rfl
    have hk24 : Kept (fun n => n = F) w2 ((w2.setCell ⟨F, 1, none⟩ (.int .i64 y1)).setCell ⟨F, 2, none⟩ (.int .i64 y2)) := by
      refine Kept.setCell (Kept.setCell (Kept.refl _ _) ?_ _) ?_ _ <;> (intro _; rfl)
    have e1 : ((w2.setCell ⟨F, 1, none⟩ (.int .i64 y1)).setCell ⟨F, 2, none⟩ (.int .i64 y2)).cell? ⟨F, 1, none⟩ = some (.int .i64 y1) := by have := cell_at hb4 (i := 1) (v := .int .i64 y.n1) rfl; rwa [hyn1] at this
    have e2 : ((w2.setCell ⟨F, 1, none⟩ (.int .i64 y1)).setCell ⟨F, 2, none⟩ (.int .i64 y2)).cell? ⟨F, 2, none⟩ = some (.int .i64 y2) := by have := cell_at hb4 (i := 2) (v := .int .i64 y.n2) rfl; rwa [hyn2] at this
    have k4 : Kept (fun n => n = N) w ((w2.setCell ⟨F, 1, none⟩ (.int .i64 y1)).setCell ⟨F, 2, none⟩ (.int .i64 y2)) := k2.trans hk24 (fun k h1 h2 => by omega)
    have hv4 : ViewIn q N p (findT g i) ((w2.setCell ⟨F, 1, none⟩ (.int .i64 y1)).setCell ⟨F, 2, none⟩ (.int .i64 y2)) := (hv1.still k12).kept hk24 (by omega) (by omega)
    clear hb1 hb2 k12 hyy
    by_cases p1 : 0 < y1
    · have HS : Hid (0 < y.n1 ∨ 0 < y.n2) := .inl (by omega)
      clear hyn1 hyn2
      go_wp2_with (first | (refine list_wnew rfl wide_V _ _ rfl F rfl (vc x) rfl _ rfl hF rfl (vc_one _) ?_))
      clear f1 f2 c1 c2 e1 e2
      generalize (w2.setCell ⟨F, 1, none⟩ (.int .i64 y1)).setCell ⟨F, 2, none⟩ (.int .i64 y2) = w4 at *
      have KS : ∀ w', Kept (fun n => n = N) w4 w' → True := fun _ _ => trivial
      have KV : ∀ w', Kept (fun n => n = N) w4 w' → w'.rangeAt F 0 (vc y) := fun w' hk' => range_kept (whole_range hb4) hk' (by omega)
      refine wp_region_held_drew (S := fun w' => Kept (fun n => n = N) w4 w') (by kernel_rfl) ((Kept.refl _ _).drew) (fun hHeld => ?_)
      refine h_take 0 (some 44) (Op.move (Operand.tmp 0)) 25 ?v6 rfl rfl (by kernel_rfl) (by kernel_rfl) (by kernel_rfl) (fun _ _ _ h => h) ?hy6 hHeld ?_
      case hy6 => (intro _ _ _ w hSw; have hcs := KS _ hSw; go_simp; try with_reducible rfl)
      simp only [Act.put, List.setIfInBounds_toArray, List.set_cons_zero, List.set_cons_succ]
      refine h_take 1 (some 45) (Op.move (Operand.tmp 1)) 3 ?v7 rfl rfl (by kernel_rfl) (by kernel_rfl) (by kernel_rfl) (fun _ _ _ h => h) ?hy7 hHeld ?_
      case hy7 => (intro _ _ _ w hSw; have hcs := KS _ hSw; go_simp; try with_reducible rfl)
      simp only [Act.put, List.setIfInBounds_toArray, List.set_cons_zero, List.set_cons_succ]
      refine h_take 3 (some 47) (Op.load 51 (Operand.tmp 9)) 51 (vv y) rfl rfl (by kernel_rfl) (by kernel_rfl) (by kernel_rfl) (fun _ _ _ h => h) (fun _ _ _ w hSw => exec_load rfl (load_wide wide_V (KV w hSw) rfl)) hHeld ?_
      simp only [Act.put, List.setIfInBounds_toArray, List.set_cons_zero, List.set_cons_succ]
      refine h_step 2 (some 46) (Op.call { callee := Callee.value (Operand.func 33), args := #[Operand.tmp 45], argTypes := #[3] }) 54 rfl rfl (by kernel_rfl) (fun _ _ _ K hK => ?_)
      go_simp
      refine (object_w i _).mono ?_
      rintro e w5 ⟨rfl, hk5⟩
      replace hk5 : Kept (fun _ => False) w4 w5 := (Kept.refl _ w4).drew.thru hk5
      go_wp2_with fail
      refine hK.out _ _ (hk5.mono (fun _ _ e => e.elim)) (fun hHeld => ?_)
      clear hK K
      try simp only [Act.put, List.setIfInBounds_toArray, List.set_cons_zero, List.set_cons_succ]
      refine h_step 4 (some 48) (Op.call { callee := Callee.value (Operand.func 24), args := #[Operand.tmp 44, Operand.tmp 46, Operand.tmp 47], argTypes := #[25, 54, 51] }) 0 rfl rfl (by kernel_rfl) (fun _ _ _ K hK => ?_)
      go_simp
      refine (vput_w q N p (findT g i) 10 i y w5 (hv4.still hk5)).mono ?_
      rintro e w6 ⟨rfl, hv6, hk6⟩
      replace hk6 : Kept (fun n => n = N) w4 w6 := (hk5.mono (fun _ _ e => e.elim)).trans hk6 (fun _ _ e => e)
      go_wp2_with fail
      refine hK.out _ _ (hk6) (fun hHeld => ?_)
      clear hK K
      try simp only [Act.put, List.setIfInBounds_toArray, List.set_cons_zero, List.set_cons_succ]
      refine wpAnyH_done (by kernel_rfl) ?_ _
      have hK6 : Kept (fun n => n = N) w w6 := k4.trans hk6 (fun _ _ e => e)
      have HZ : Hid (ViewIn q N p (changeT f g i a b) w6) := by show ViewIn _ _ _ _ _; rw [HT1.out, hy, if_pos HS.out]; exact hv6
      clear hHeld KS KV hk5 hv4 hk6 hv6 hb4 k4 hk24
      go_wp2_with fail
      exact bodyPost_ret (v := .bool true) (by simp [results, Try.results10, go_sem]) rfl ⟨by rw [HI.out], HZ.out, hK6⟩
    by_cases p2 : 0 < y2
    · have HS : Hid (0 < y.n1 ∨ 0 < y.n2) := .inr (by omega)
      clear hyn1 hyn2
      go_wp2_with (first | (refine list_wnew rfl wide_V _ _ rfl F rfl (vc x) rfl _ rfl hF rfl (vc_one _) ?_))
      clear f1 f2 c1 c2 e1 e2
      generalize (w2.setCell ⟨F, 1, none⟩ (.int .i64 y1)).setCell ⟨F, 2, none⟩ (.int .i64 y2) = w4 at *
      have KS : ∀ w', Kept (fun n => n = N) w4 w' → True := fun _ _ => trivial
      have KV : ∀ w', Kept (fun n => n = N) w4 w' → w'.rangeAt F 0 (vc y) := fun w' hk' => range_kept (whole_range hb4) hk' (by omega)
      refine wp_region_held_drew (S := fun w' => Kept (fun n => n = N) w4 w') (by kernel_rfl) ((Kept.refl _ _).drew) (fun hHeld => ?_)
      refine h_take 0 (some 44) (Op.move (Operand.tmp 0)) 25 ?v8 rfl rfl (by kernel_rfl) (by kernel_rfl) (by kernel_rfl) (fun _ _ _ h => h) ?hy8 hHeld ?_
      case hy8 => (intro _ _ _ w hSw; have hcs := KS _ hSw; go_simp; try with_reducible rfl)
      simp only [Act.put, List.setIfInBounds_toArray, List.set_cons_zero, List.set_cons_succ]
      refine h_take 1 (some 45) (Op.move (Operand.tmp 1)) 3 ?v9 rfl rfl (by kernel_rfl) (by kernel_rfl) (by kernel_rfl) (fun _ _ _ h => h) ?hy9 hHeld ?_
      case hy9 => (intro _ _ _ w hSw; have hcs := KS _ hSw; go_simp; try with_reducible rfl)
      simp only [Act.put, List.setIfInBounds_toArray, List.set_cons_zero, List.set_cons_succ]
      refine h_take 3 (some 47) (Op.load 51 (Operand.tmp 9)) 51 (vv y) rfl rfl (by kernel_rfl) (by kernel_rfl) (by kernel_rfl) (fun _ _ _ h => h) (fun _ _ _ w hSw => exec_load rfl (load_wide wide_V (KV w hSw) rfl)) hHeld ?_
      simp only [Act.put, List.setIfInBounds_toArray, List.set_cons_zero, List.set_cons_succ]
      refine h_step 2 (some 46) (Op.call { callee := Callee.value (Operand.func 33), args := #[Operand.tmp 45], argTypes := #[3] }) 54 rfl rfl (by kernel_rfl) (fun _ _ _ K hK => ?_)
      go_simp
      refine (object_w i _).mono ?_
      rintro e w5 ⟨rfl, hk5⟩
      replace hk5 : Kept (fun _ => False) w4 w5 := (Kept.refl _ w4).drew.thru hk5
      go_wp2_with fail
      refine hK.out _ _ (hk5.mono (fun _ _ e => e.elim)) (fun hHeld => ?_)
      clear hK K
      try simp only [Act.put, List.setIfInBounds_toArray, List.set_cons_zero, List.set_cons_succ]
      refine h_step 4 (some 48) (Op.call { callee := Callee.value (Operand.func 24), args := #[Operand.tmp 44, Operand.tmp 46, Operand.tmp 47], argTypes := #[25, 54, 51] }) 0 rfl rfl (by kernel_rfl) (fun _ _ _ K hK => ?_)
      go_simp
      refine (vput_w q N p (findT g i) 10 i y w5 (hv4.still hk5)).mono ?_
      rintro e w6 ⟨rfl, hv6, hk6⟩
      replace hk6 : Kept (fun n => n = N) w4 w6 := (hk5.mono (fun _ _ e => e.elim)).trans hk6 (fun _ _ e => e)
      go_wp2_with fail
      refine hK.out _ _ (hk6) (fun hHeld => ?_)
      clear hK K
      try simp only [Act.put, List.setIfInBounds_toArray, List.set_cons_zero, List.set_cons_succ]
      refine wpAnyH_done (by kernel_rfl) ?_ _
      have hK6 : Kept (fun n => n = N) w w6 := k4.trans hk6 (fun _ _ e => e)
      have HZ : Hid (ViewIn q N p (changeT f g i a b) w6) := by show ViewIn _ _ _ _ _; rw [HT1.out, hy, if_pos HS.out]; exact hv6
      clear hHeld KS KV hk5 hv4 hk6 hv6 hb4 k4 hk24
      go_wp2_with fail
      exact bodyPost_ret (v := .bool true) (by simp [results, Try.results10, go_sem]) rfl ⟨by rw [HI.out], HZ.out, hK6⟩
    · have HS : Hid (¬ (0 < y.n1 ∨ 0 < y.n2)) := by show ¬ _; omega
      clear hyn1 hyn2
      go_wp2_with (first | (refine list_wnew rfl wide_V _ _ rfl F rfl (vc x) rfl _ rfl hF rfl (vc_one _) ?_))
      clear f1 f2 c1 c2 e1 e2
      generalize (w2.setCell ⟨F, 1, none⟩ (.int .i64 y1)).setCell ⟨F, 2, none⟩ (.int .i64 y2) = w4 at *
      have HT2 : Hid (changeT f g i a b = goneT f (findT g i) i) := by show _ = _; rw [HT1.out, hy, if_neg HS.out]
      clear HT1 HS hb4 hk24
      refine (object_w i _).mono ?_
      rintro e w5 ⟨rfl, hk5⟩
      go_wp2_with fail
      refine (vput_w q N p (findT g i) 10 i zeroV w5 (hv4.still hk5)).mono ?_
      rintro e w6 ⟨rfl, hv6, hk6⟩
      have K6 : Kept (fun n => n = N) w w6 := (k4.trans hk5 (fun _ _ e => e.elim)).trans hk6 (fun _ _ e => e)
      clear hk5 hk6 hv4 k4
      go_wp2_with fail
      refine (table_w _).mono ?_
      rintro e w7 ⟨rfl, hk7⟩
      go_wp2_with fail
      have K7 := K6.trans hk7 (fun _ _ e => e.elim)
      refine (vget_w q N p B f _ 9 0 w7 (hv6.still hk7) (hsk _ K7) hNB).mono ?_
      rintro e w8 ⟨rfl, hv8, hk8⟩
      have K8 : Kept (fun n => n = N) w w8 := K7.trans hk8 (fun _ _ e => e)
      clear hk7 hk8 hv6 K6 K7
      have HG : Hid (goneT f (findT g i) i = vputT (vgetT (vputT (findT g i) (10, i) zeroV) (9, 0)) (9, 0) (withN (vgetF f (vputT (findT g i) (10, i) zeroV) (9, 0)) (clrN (vgetF f (vputT (findT g i) (10, i) zeroV) (9, 0)).n0 i))) := rfl
      obtain ⟨z, hz⟩ : ∃ z, vgetF f (vputT (findT g i) (10, i) zeroV) (9, 0) = z := ⟨_, rfl⟩
      rw [hz] at HG ⊢
      clear hz
      obtain ⟨G, hG⟩ : ∃ G : Nat, w8.heap.size = G := ⟨_, rfl⟩
      have lG : w.heap.size ≤ G := by have := K8.size; omega
      have hz9 : (w8.alloc (.cells (vc z).toArray 51)).heap[G]? = some (.cells (vc z).toArray 51 (0, 0)) := alloc_at' _ hG
      have hv9 := hv8.still ((Kept.refl _ w8).alloc (.cells (vc z).toArray 51))
      have K9 : Kept (fun n => n = N) w (w8.alloc (.cells (vc z).toArray 51)) := K8.alloc _
      clear hv8 K8
      go_wp2_with (first | (refine list_wnew rfl wide_V _ _ rfl G rfl (vc z) rfl _ rfl hG rfl (vc_one _) ?_))
      generalize w8.alloc (.cells (vc z).toArray 51) = w9 at *
      have c0 : w9.cell? ⟨G, 0, none⟩ = some (.int .i64 z.n0) := cell_at hz9 rfl
      have f0 := free_at hz9 0
      go_wp2_with fail
      simp only [Act.put]
      go_cut [11] from 57 to 64 (fun v wc => v = .pointer (some ⟨G, 0, none⟩) ∧ Hid (Kept (fun n => n = G) w9 wc ∧ wc.heap[G]? = some (.cells (vc (withN z (clrN z.n0 i))).toArray 51 (0, 0))))
      case first =>
        go_region_with (refine (bit_w i _ (by omega) hi2).mono ?_; rintro e wd ⟨rfl, hwd⟩; subst hwd)
        all_goals
          go_wp2
          go_meet
          case rel => exact And.intro rfl (And.intro (by refine Kept.drew (Kept.setCell (Kept.refl _ _) ?_ _); intro _; rfl) (by show (w9.setCell _ _).heap[G]? = _; rw [set_at hz9]; rfl))
      case rest =>
        obtain ⟨rfl, HC⟩ := hcut
        have hFy := HC.out.2
        have hvw : ViewIn q N p _ wc := hv9.kept HC.out.1 (by omega) (by omega)
        have hKw : Kept (fun n => n = N) w wc := K9.trans HC.out.1 (fun k h1 h2 => by omega)
        clear c0 f0 HC K9 hv9 hz9
        obtain ⟨y0, hy0⟩ : ∃ y0, withN z (clrN z.n0 i) = y0 := ⟨_, rfl⟩
        rw [hy0] at hFy HG
        clear hy0
        have KS : ∀ w', Kept (fun n => n = N) wc w' → True := fun _ _ => trivial
        have KV : ∀ w', Kept (fun n => n = N) wc w' → w'.rangeAt G 0 (vc y0) := fun w' hk' => range_kept (whole_range hFy) hk' (by omega)
        go_wp2_with fail
        refine wp_region_held_drew (S := fun w' => Kept (fun n => n = N) wc w') (by kernel_rfl) ((Kept.refl _ _).drew) (fun hHeld => ?_)
        refine h_take 0 (some 65) (Op.move (Operand.tmp 0)) 25 ?v10 rfl rfl (by kernel_rfl) (by kernel_rfl) (by kernel_rfl) (fun _ _ _ h => h) ?hy10 hHeld ?_
        case hy10 => (intro _ _ _ w hSw; have hcs := KS _ hSw; go_simp; try with_reducible rfl)
        simp only [Act.put, List.setIfInBounds_toArray, List.set_cons_zero, List.set_cons_succ]
        refine h_take 2 (some 67) (Op.load 51 (Operand.tmp 11)) 51 (vv y0) rfl rfl (by kernel_rfl) (by kernel_rfl) (by kernel_rfl) (fun _ _ _ h => h) (fun _ _ _ w hSw => exec_load rfl (load_wide wide_V (KV w hSw) rfl)) hHeld ?_
        simp only [Act.put, List.setIfInBounds_toArray, List.set_cons_zero, List.set_cons_succ]
        refine h_step 1 (some 66) (Op.call { callee := Callee.value (Operand.func 31), args := #[], argTypes := #[] }) 54 rfl rfl (by kernel_rfl) (fun _ _ _ K hK => ?_)
        go_simp
        refine (table_w _).mono ?_
        rintro e w5 ⟨rfl, hk5⟩
        replace hk5 : Kept (fun _ => False) wc w5 := (Kept.refl _ wc).drew.thru hk5
        go_wp2_with fail
        refine hK.out _ _ (hk5.mono (fun _ _ e => e.elim)) (fun hHeld => ?_)
        clear hK K
        try simp only [Act.put, List.setIfInBounds_toArray, List.set_cons_zero, List.set_cons_succ]
        refine h_step 3 (some 68) (Op.call { callee := Callee.value (Operand.func 24), args := #[Operand.tmp 65, Operand.tmp 66, Operand.tmp 67], argTypes := #[25, 54, 51] }) 0 rfl rfl (by kernel_rfl) (fun _ _ _ K hK => ?_)
        go_simp
        refine (vput_w q N p _ 9 0 y0 w5 (hvw.still hk5)).mono ?_
        rintro e wz ⟨rfl, hvz, hkz⟩
        replace hkz : Kept (fun n => n = N) wc wz := (hk5.mono (fun _ _ e => e.elim)).trans hkz (fun _ _ e => e)
        go_wp2_with fail
        refine hK.out _ _ (hkz) (fun hHeld => ?_)
        clear hK K
        try simp only [Act.put, List.setIfInBounds_toArray, List.set_cons_zero, List.set_cons_succ]
        refine wpAnyH_done (by kernel_rfl) ?_ _
        have hKz : Kept (fun n => n = N) w wz := hKw.trans hkz (fun _ _ e => e)
        have HZ : Hid (ViewIn q N p (changeT f g i a b) wz) := by show ViewIn _ _ _ _ _; rw [HT2.out, HG.out]; exact hvz
        clear hHeld KS KV hk5 hvw hKw hkz hvz hFy
        go_wp2_with fail
        exact bodyPost_ret (v := .bool true) (by simp [results, Try.results10, go_sem]) rfl ⟨by rw [HI.out], HZ.out, hKz⟩
end Go.Proofs.Ytdgkhfhlbjpaoaa

namespace Go.Proofs.Ytdgkhfhlbjpaoaa
open Go.RowKit

theorem plc_ik {i : Int} (h : 1 ≤ i) (h' : i < 16) : 0 ≤ plc (10, i) := by
  rcases below16 (by omega : 0 ≤ i) h' with rfl | rfl | rfl | rfl | rfl | rfl | rfl | rfl | rfl | rfl | rfl | rfl | rfl | rfl | rfl | rfl <;> decide
theorem plc_tk : 0 ≤ plc (9, 0) := by decide
theorem ik_ne (i : Int) : ((9, 0) : K2) ≠ (10, i) := by intro e; injection e with e1 _; omega

theorem nt_upd (g : VwF) (k j : K2) (t : Bool × Bool × V) : noteF (upd g k t) j = if j = k then t else noteF g j := by
  unfold noteF upd; split <;> rfl
theorem note_put {g : VwF} {k j : K2} {x : V} (h : 0 ≤ plc k) : noteF (vputT g k x) j = if j = k then ((noteF g k).1, true, x) else noteF g j := by
  unfold vputT; rw [if_pos h, nt_upd]
theorem note_get {g : VwF} {k j : K2} (h : 0 ≤ plc k) : noteF (vgetT g k) j = if j = k then (true, (noteF g k).2) else noteF g j := by
  unfold vgetT; rw [if_pos h, nt_upd]
theorem get_put_other {f : StF} {g : VwF} {k j : K2} {x : V} (hk : 0 ≤ plc k) (hne : j ≠ k) : vgetF f (vputT g k x) j = vgetF f g j := by
  unfold vgetF; rw [note_put hk, if_neg hne]
theorem get_get {f : StF} {g : VwF} {k j : K2} : vgetF f (vgetT g k) j = vgetF f g j := by
  by_cases hk : 0 ≤ plc k
  · unfold vgetF
    rw [note_get hk]
    by_cases e : j = k
    · subst e; rw [if_pos rfl]
    · rw [if_neg e]
  · unfold vgetT; rw [if_neg hk]
theorem get_put {f : StF} {g : VwF} {k : K2} {x : V} (hk : 0 ≤ plc k) : vgetF f (vputT g k x) k = x := by
  unfold vgetF; rw [if_pos hk, note_put hk, if_pos rfl]; rfl

theorem find_eq {f f' : StF} {g g' : VwF} {j : Int} (h : vgetF f' g' (10, j) = vgetF f g (10, j)) : findV f' g' j = findV f g j := by unfold findV; rw [h]
theorem is_eq {f f' : StF} {g g' : VwF} {j : Int} (h : findV f' g' j = findV f g j) : isI f' g' j = isI f g j := by unfold isI; rw [h]
theorem find_find (f : StF) (g : VwF) (i j : Int) : findV f (findT g i) j = findV f g j := by
  refine find_eq ?_
  unfold findT
  split
  · exact get_get
  · rfl
theorem find_getT (f : StF) (g : VwF) (j : Int) : findV f (vgetT g (9, 0)) j = findV f g j := find_eq get_get
theorem find_putT (f : StF) (g : VwF) (y : V) (j : Int) : findV f (vputT g (9, 0) y) j = findV f g j := find_eq (get_put_other plc_tk (fun e => ik_ne j e.symm))
theorem find_putI {f : StF} {g : VwF} {i : Int} (h1 : 1 ≤ i) (h2 : i < 16) (x : V) (j : Int) : findV f (vputT g (10, i) x) j = if j = i then (if x.n0 = 0 then zeroV else x) else findV f g j := by
  by_cases e : j = i
  · subst e
    rw [if_pos rfl]
    unfold findV
    rw [if_pos ⟨h1, h2⟩, get_put (plc_ik h1 h2)]
  · rw [if_neg e]
    exact find_eq (get_put_other (plc_ik h1 h2) (fun q => e (by injection q)))

def tblF (f : StF) (g : VwF) : V := vgetF f g (9, 0)
theorem tbl_find (f : StF) (g : VwF) (i : Int) : tblF f (findT g i) = tblF f g := by
  unfold tblF findT
  split
  · exact get_get
  · rfl
theorem tbl_getT (f : StF) (g : VwF) : tblF f (vgetT g (9, 0)) = tblF f g := get_get
theorem tbl_putT (f : StF) (g : VwF) (y : V) : tblF f (vputT g (9, 0) y) = y := get_put plc_tk
theorem tbl_putI {f : StF} {g : VwF} {i : Int} (h1 : 1 ≤ i) (h2 : i < 16) (x : V) : tblF f (vputT g (10, i) x) = tblF f g := get_put_other (plc_ik h1 h2) (ik_ne i)

theorem is_n0 {f : StF} {g : VwF} {i : Int} (h : isI f g i = true) : (findV f g i).n0 ≠ 0 := by simpa [isI] using h

/-- What Change leaves. -/
theorem change_find {f : StF} {g : VwF} {i : Int} (a b : Int) (h : isI f g i = true) (j : Int) :
    findV f (changeT f g i a b) j = if j = i then (if 0 < (chgV (findV f g i) a b).n1 ∨ 0 < (chgV (findV f g i) a b).n2 then chgV (findV f g i) a b else zeroV) else findV f g j := by
  obtain ⟨h1, h2⟩ := is_range h
  have hn := is_n0 h
  unfold changeT
  rw [if_pos h]
  by_cases hs : 0 < (chgV (findV f g i) a b).n1 ∨ 0 < (chgV (findV f g i) a b).n2
  · rw [if_pos hs, if_pos hs, find_putI h1 h2, find_find, if_neg (show ¬ (chgV (findV f g i) a b).n0 = 0 from hn)]
  · rw [if_neg hs, if_neg hs]
    unfold goneT
    rw [find_putT, find_getT, find_putI h1 h2, find_find]
    rfl
theorem change_no {f : StF} {g : VwF} {i : Int} (a b : Int) (h : isI f g i = false) : changeT f g i a b = findT g i := by
  unfold changeT; rw [if_neg (by simp [h])]
theorem change_other {f : StF} {g : VwF} {i : Int} (a b : Int) {j : Int} (h : j ≠ i) : findV f (changeT f g i a b) j = findV f g j := by
  cases hi : isI f g i with
  | true => rw [change_find a b hi, if_neg h]
  | false => rw [change_no a b hi, find_find]
theorem change_tbl {f : StF} {g : VwF} {i : Int} (a b : Int) (h : isI f g i = true) :
    tblF f (changeT f g i a b) = if 0 < (chgV (findV f g i) a b).n1 ∨ 0 < (chgV (findV f g i) a b).n2 then tblF f g else withN (tblF f g) (clrN (tblF f g).n0 i) := by
  obtain ⟨h1, h2⟩ := is_range h
  unfold changeT
  rw [if_pos h]
  split
  · rw [tbl_putI h1 h2, tbl_find]
  · unfold goneT
    rw [tbl_putT]
    have := tbl_putI (f := f) (g := findT g i) h1 h2 zeroV
    rw [tbl_find] at this
    unfold tblF at this ⊢
    rw [this]
theorem change_size {f : StF} {g : VwF} {n : Nat} (i a b : Int) (h : ∀ j, (findV f g j).s.size ≤ n) (j : Int) : (findV f (changeT f g i a b) j).s.size ≤ n := by
  by_cases e : j = i
  · cases hi : isI f g i with
    | true =>
      rw [change_find a b hi, if_pos e]
      split
      · exact h i
      · exact Nat.zero_le _
    | false => rw [change_no a b hi, find_find]; exact h j
  · rw [change_other a b e]; exact h j

/-- What Write leaves. -/
theorem wr_is {f : StF} {g : VwF} {i off : Int} (h : wrOk f g i off = true) : isI f g i = true ∧ 0 ≤ off ∧ off ≤ 128 ∧ off ≤ (findV f g i).s.size := by
  unfold wrOk at h
  simp only [Bool.and_eq_true, decide_eq_true_eq] at h
  exact ⟨h.1.1.1, h.1.1.2, h.1.2, h.2⟩
theorem write_find {f : StF} {g : VwF} {i off : Int} (d : ByteArray) (h : wrOk f g i off = true) (j : Int) :
    findV f (writeT f g i off d) j = if j = i then withS (findV f g i) (overF (findV f g i).s off.toNat (cutD d off.toNat)) else findV f g j := by
  have hi := (wr_is h).1
  obtain ⟨h1, h2⟩ := is_range hi
  have hn := is_n0 hi
  unfold writeT
  rw [if_pos h, find_putI h1 h2, find_find, if_neg (show ¬ (withS (findV f g i) (overF (findV f g i).s off.toNat (cutD d off.toNat))).n0 = 0 from hn)]
theorem write_no {f : StF} {g : VwF} {i off : Int} (d : ByteArray) (h : wrOk f g i off = false) : writeT f g i off d = findT g i ∧ writeA f g i off d = -1 := by
  unfold writeT writeA; rw [if_neg (by simp [h]), if_neg (by simp [h])]; exact ⟨rfl, rfl⟩
theorem write_other {f : StF} {g : VwF} {i off : Int} (d : ByteArray) {j : Int} (h : j ≠ i) : findV f (writeT f g i off d) j = findV f g j := by
  cases hi : wrOk f g i off with
  | true => rw [write_find d hi, if_neg h]
  | false => rw [(write_no d hi).1, find_find]
theorem over_size (s d : ByteArray) (o : Nat) (ho : o ≤ s.size) : (overF s o d).size = max s.size (o + d.size) := by
  unfold overF
  rw [bs_size]
  simp [bl_len]
  omega
theorem write_size {f : StF} {g : VwF} {n : Nat} (hn : 128 ≤ n) (i off : Int) (d : ByteArray) (h : ∀ j, (findV f g j).s.size ≤ n) (j : Int) : (findV f (writeT f g i off d) j).s.size ≤ n := by
  by_cases e : j = i
  · cases hi : wrOk f g i off with
    | true =>
      obtain ⟨-, h1, h2, h3⟩ := wr_is hi
      rw [write_find d hi, if_pos e]
      show (overF _ _ _).size ≤ n
      rw [over_size _ _ _ (by omega), cutD_size]
      have := h i
      omega
    | false => rw [(write_no d hi).1, find_find]; exact h j
  · rw [write_other d e]; exact h j
theorem write_tbl {f : StF} {g : VwF} (i off : Int) (d : ByteArray) : tblF f (writeT f g i off d) = tblF f g := by
  cases hi : wrOk f g i off with
  | true =>
    obtain ⟨h1, h2⟩ := is_range (wr_is hi).1
    unfold writeT
    rw [if_pos hi, tbl_putI h1 h2, tbl_find]
  | false => rw [(write_no d hi).1, tbl_find]

/-- What Alloc leaves. -/
theorem freeN_pos (n : Int) : 1 ≤ freeN n := by
  unfold freeN
  cases (List.range 15).find? (fun j : Nat => !hasB n ((j : Int) + 1)) with
  | none => show (1 : Int) ≤ 16; omega
  | some j => show (1 : Int) ≤ (j : Int) + 1; omega
theorem alloc_find {f : StF} {g : VwF} {typ : Int} (ht : typ ≠ 0) (h : allocA f g < 16) (j : Int) : findV f (allocT f g typ) j = if j = allocA f g then numV typ else findV f g j := by
  have h1 : 1 ≤ allocA f g := freeN_pos _
  unfold allocT
  rw [if_pos h, find_putI h1 h, find_putT, find_getT, if_neg (show ¬ (numV typ).n0 = 0 from ht)]
theorem alloc_tbl {f : StF} {g : VwF} (typ : Int) (h : allocA f g < 16) : tblF f (allocT f g typ) = withN (tblF f g) (orN (tblF f g).n0 (allocA f g)) := by
  have h1 : 1 ≤ allocA f g := freeN_pos _
  unfold allocT
  rw [if_pos h, tbl_putI h1 h, tbl_putT]
  rfl
theorem alloc_is (f : StF) (g : VwF) : allocA f g = freeN (tblF f g).n0 := rfl
theorem alloc_full {f : StF} {g : VwF} (typ : Int) (h : ¬ allocA f g < 16) : allocT f g typ = vgetT g (9, 0) := by unfold allocT; rw [if_neg h]
end Go.Proofs.Ytdgkhfhlbjpaoaa
