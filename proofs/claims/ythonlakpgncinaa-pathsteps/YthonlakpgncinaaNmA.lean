
/- Names, both sides; no conditions but lengths. -/
import Derived.Test.YthonlakpgncinaaInA
import Derived.Lib.Strings
import Derived.BigQuiet
import Derived.Deep.QuietTactic
import Derived.Deep.RegionHeld3
import Derived.Lib.BufferWrite
import Derived.Lib.UnsafeStr
import Derived.Laws.MakeOwn
import Derived.WalkSpells
import Derived.Laws.OwnMore
import Derived.Deep.AppendLies
import Derived.Deep.RegionLaw
import Derived.OwnWalk
import Derived.Lib.SmallJoins
import Derived.Deep.SlicePairs
import Derived.Laws.IdiomStrings
import Derived.IntWalk
namespace Go.Proofs.Ythonlakpgncinaa.Nm
open Go.RowKit
set_option maxRecDepth 100000

/-- How many bytes of l stand ahead of its first b. -/
def ahd (l : Bs) (b : UInt8) : Nat := (l.takeWhile (· != b)).length

theorem ahd_le (l : Bs) (b : UInt8) : ahd l b ≤ l.length := (List.takeWhile_sublist _).length_le
theorem ahd_nil (b : UInt8) : ahd [] b = 0 := rfl
theorem ahd_cons (x : UInt8) (l : Bs) (b : UInt8) : ahd (x :: l) b = if x = b then 0 else ahd l b + 1 := by
  unfold ahd
  by_cases h : x = b <;> simp [h]

theorem ahd_stop {l : Bs} {b : UInt8} {i : Nat} (h : l[i]? = some b) : ahd l b ≤ i := by
  induction l generalizing i with
  | nil => simp at h
  | cons x l ih =>
    rw [ahd_cons]
    split
    · omega
    · cases i with
      | zero => simp at h; contradiction
      | succ i => have := ih (i := i) (by simpa using h); omega

theorem ahd_go {l : Bs} {b c : UInt8} {i : Nat} (h : i ≤ ahd l b) (hc : l[i]? = some c) (hne : c ≠ b) : i + 1 ≤ ahd l b := by
  induction l generalizing i with
  | nil => simp at hc
  | cons x l ih =>
    rw [ahd_cons] at h ⊢
    cases i with
    | zero =>
      simp at hc
      subst hc
      rw [if_neg hne]; omega
    | succ i =>
      split at h
      · omega
      · rename_i hx
        rw [if_neg hx]
        have := ih (i := i) (by omega) (by simpa using hc)
        omega

theorem ahd_full {l : Bs} {b : UInt8} : ahd l b = l.length ↔ b ∉ l := by
  induction l with
  | nil => simp [ahd_nil]
  | cons x l ih =>
    rw [ahd_cons]
    by_cases h : x = b
    · simp [h]
    · rw [if_neg h]
      simp only [List.length_cons, Nat.add_right_cancel_iff, ih, List.mem_cons, not_or]
      exact ⟨fun e => ⟨fun q => h q.symm, e⟩, fun e => e.2⟩

theorem take_ahd (l : Bs) (b : UInt8) : l.take (ahd l b) = l.takeWhile (· != b) := by
  induction l with
  | nil => rfl
  | cons x l ih =>
    rw [ahd_cons]
    by_cases h : x = b
    · simp [h]
    · rw [if_neg h]
      simp [h, ih]

theorem not_mem_take {l : Bs} {b : UInt8} : b ∉ l.take (ahd l b) := by
  induction l with
  | nil => simp
  | cons x l ih =>
    rw [ahd_cons]
    by_cases h : x = b
    · simp [h]
    · rw [if_neg h]
      simp only [List.take_succ_cons, List.mem_cons, not_or]
      exact ⟨fun e => h e.symm, ih⟩

/-- Is l a right name? -/
def rightF (l : Bs) : Bool := decide (1 ≤ l.length) && decide (l.length ≤ 14) && decide (ahd l 47 = l.length) && decide (ahd l 0 = l.length)

theorem right_iff {l : Bs} : rightF l = true ↔ 1 ≤ l.length ∧ l.length ≤ 14 ∧ (47 : UInt8) ∉ l ∧ (0 : UInt8) ∉ l := by
  unfold rightF
  simp only [Bool.and_eq_true, decide_eq_true_eq, ahd_full, and_assoc]

/-- What stands between slashes; s is what was met since the last one. -/
def cutF : Bs → Bs → List Bs
  | [], s => if s = [] then [] else [s]
  | x :: l, s => if x = 47 then (if s = [] then cutF l [] else s :: cutF l []) else cutF l (s ++ [x])

def oneF (s : Bs) : List Bs := if s = [] then [] else [s]

theorem cut_nil (s : Bs) : cutF [] s = oneF s := rfl
theorem cut_slash (l s : Bs) : cutF (47 :: l) s = oneF s ++ cutF l [] := by
  unfold oneF
  rw [cutF, if_pos rfl]
  split <;> simp_all
theorem cut_other {x : UInt8} (h : x ≠ 47) (l s : Bs) : cutF (x :: l) s = cutF l (s ++ [x]) := by
  rw [cutF, if_neg h]

theorem cut_ahead (l s : Bs) : cutF l s = oneF (s ++ l.take (ahd l 47)) ++ cutF (l.drop (ahd l 47 + 1)) [] := by
  induction l generalizing s with
  | nil => simp [cut_nil, ahd_nil]; rfl
  | cons x l ih =>
    rw [ahd_cons]
    by_cases h : x = 47
    · subst h
      rw [cut_slash, if_pos rfl]
      simp
    · rw [cut_other h, if_neg h, ih]
      simp

/-- Does l lead anywhere? -/
def okF (l : Bs) : Bool := decide (1 ≤ l.length) && decide (l.length ≤ 60) && (cutF l []).all rightF
def namesF (l : Bs) : List Bs := if okF l = true then cutF l [] else []
def absF (l : Bs) : Bool := okF l && decide (l[0]? = some 47)

theorem ok_no {l : Bs} (h : ¬ (1 ≤ l.length ∧ l.length ≤ 60)) : okF l = false := by
  unfold okF
  rw [Bool.and_eq_false_iff]; left
  rw [Bool.and_eq_false_iff, decide_eq_false_iff_not, decide_eq_false_iff_not]
  omega
theorem ok_yes {l : Bs} (h : 1 ≤ l.length ∧ l.length ≤ 60) (ha : ∀ x ∈ cutF l [], rightF x = true) : okF l = true := by
  unfold okF
  simp [h.1, h.2]
  exact ha
theorem ok_bad {l x : Bs} (hx : x ∈ cutF l []) (h : rightF x = false) : okF l = false := by
  unfold okF
  rw [Bool.and_eq_false_iff]; right
  rw [List.all_eq_false]
  exact ⟨x, hx, by simp [h]⟩
theorem ok_len {l : Bs} (h : okF l = true) : 1 ≤ l.length ∧ l.length ≤ 60 ∧ ∀ x ∈ cutF l [], rightF x = true := by
  unfold okF at h
  simp only [Bool.and_eq_true, decide_eq_true_eq, List.all_eq_true] at h
  exact ⟨h.1.1, h.1.2, h.2⟩

/-- As many names as bytes at most. -/
theorem cut_len (l s : Bs) : (cutF l s).length ≤ l.length + 1 := by
  induction l generalizing s with
  | nil => rw [cut_nil]; unfold oneF; split <;> simp
  | cons x l ih =>
    by_cases h : x = 47
    · subst h
      rw [cut_slash]
      have := ih []
      have h1 : (oneF s).length ≤ 1 := by unfold oneF; split <;> simp
      simp; omega
    · rw [cut_other h]
      have := ih (s ++ [x])
      simp; omega

/-- A number's lowest two bytes. -/
def loF (n : Int) : UInt8 := UInt8.ofNat (n % 256).toNat
def hiF (n : Int) : UInt8 := UInt8.ofNat (n / 256 % 256).toNat
theorem lo_nat (n : Int) : ((loF n).toNat : Int) = n % 256 := by
  unfold loF
  rw [UInt8.toNat_ofNat']
  omega
theorem hi_nat (n : Int) : ((hiF n).toNat : Int) = n / 256 % 256 := by
  unfold hiF
  rw [UInt8.toNat_ofNat']
  omega

def packF (l : Bs) (n : Int) : Bs := l.take 14 ++ List.replicate (14 - min 14 l.length) 0 ++ [loF n, hiF n]
theorem pack_len (l : Bs) (n : Int) : (packF l n).length = 16 := by
  unfold packF
  simp
  omega

def numF (e : Bs) : Int := (e.getD 14 0).toNat + (e.getD 15 0).toNat * 256
def nameF (e : Bs) : Bs := if e.length = 16 then e.take (ahd (e.take 14) 0) else []
def ptrF (e : Bs) : Int := if e.length = 16 then numF e else 0

theorem byte_lt (x : UInt8) : x.toNat < 256 := x.toNat_lt
theorem num_pack (l : Bs) (n : Int) : numF (packF l n) = n % 65536 := by
  have e14 : (packF l n).getD 14 0 = loF n := by
    unfold packF
    rw [List.getD, List.getElem?_append_right (by simp; omega)]
    have : 14 - (l.take 14 ++ List.replicate (14 - min 14 l.length) (0 : UInt8)).length = 0 := by simp; omega
    rw [this]; rfl
  have e15 : (packF l n).getD 15 0 = hiF n := by
    unfold packF
    rw [List.getD, List.getElem?_append_right (by simp; omega)]
    have : 15 - (l.take 14 ++ List.replicate (14 - min 14 l.length) (0 : UInt8)).length = 1 := by simp; omega
    rw [this]; rfl
  unfold numF
  rw [e14, e15, lo_nat, hi_nat]
  omega

theorem name_pack (l : Bs) (n : Int) : nameF (packF l n) = (l.take 14).takeWhile (· != 0) := by
  unfold nameF
  rw [if_pos (pack_len l n)]
  have h14 : (packF l n).take 14 = l.take 14 ++ List.replicate (14 - min 14 l.length) 0 := by
    unfold packF
    rw [List.take_append_of_le_length (by simp; omega), List.take_of_length_le (by simp; omega)]
  have hle := ahd_le ((packF l n).take 14) 0
  have e : (packF l n).take (ahd ((packF l n).take 14) 0) = ((packF l n).take 14).take (ahd ((packF l n).take 14) 0) := by
    rw [List.take_take, Nat.min_eq_left]
    rw [List.length_take] at hle
    omega
  rw [e, take_ahd, h14]
  generalize l.take 14 = m
  generalize 14 - min 14 l.length = k
  induction m with
  | nil => cases k <;> simp [List.replicate_succ]
  | cons x m ih => by_cases h : x = 0 <;> simp [h, ih]
end Go.Proofs.Ythonlakpgncinaa.Nm

namespace Go.Proofs.Ythonlakpgncinaa.Nm
set_option maxRecDepth 100000
open Go.RowKit

theorem ret_int {k : IntKind} {a b : Int} (h : a = b) : Ending.returned (.int k a) = .returned (.int k b) := by rw [h]
theorem ret_bool {a b : Bool} (h : a = b) : Ending.returned (.bool a) = .returned (.bool b) := by rw [h]

theorem ahead_w (s : ByteArray) (b : UInt8) (c : Int) (hc : (b.toNat : Int) = c) (hs : s.size ≤ 1000000) (w : World) :
    Calls Try.prog 57 #[.string s, .int .u8 c] w fun e w' => e = .returned (.int .i64 (ahd (bl s) b)) ∧ w' = w := by
  have hle := ahd_le (bl s) b
  rw [bl_len] at hle
  have HC : Hid ((b.toNat : Int) = c) := hc
  clear hc
  go_enter Try.func57, Try.ntmps57
  go_wp2
  go_loop [8] (fun x => ∃ i : Nat, x = .int .i64 i ∧ i ≤ ahd (bl s) b) (fun x => s.size - (intOf x).toNat)
  case atStart => exact ⟨0, rfl, Nat.zero_le _⟩
  case round =>
    obtain ⟨i, rfl, hi⟩ := hrel
    by_cases hlt : i < s.size
    · have hat := bl_at s hlt
      have t1 : (i : Int) < s.size := by omega
      obtain ⟨x, hx⟩ : ∃ x : UInt8, s[i] = x := ⟨_, rfl⟩
      rw [hx] at hat
      by_cases he : x = b
      · subst he
        have hq : ((x.toNat : Int) == c) = true := by rw [HC.out]; simp
        have hst := ahd_stop hat
        go_wp2
        go_ret
        exact ⟨ret_int (by omega), rfl⟩
      · have hq : ((x.toNat : Int) == c) = false := by
          rw [← HC.out, beq_eq_false_iff_ne]
          intro e
          exact he (UInt8.toNat_inj.1 (by omega))
        have hgo := ahd_go hi hat he
        go_wp2
        go_round
        case rel => exact ⟨i + 1, by simp, hgo⟩
        case measure => simp [intOf]; omega
    · have t1 : ¬ (i : Int) < s.size := by omega
      go_wp2
      go_ret
      exact ⟨ret_int (by omega), rfl⟩

theorem nat_eq {a b : Nat} (h : a = b) : (((a : Int)) == (b : Int)) = true := by simp [h]
theorem nat_ne {a b : Nat} (h : ¬ a = b) : (((a : Int)) == (b : Int)) = false := by
  rw [beq_eq_false_iff_ne]; omega

theorem right_w (s : ByteArray) (hs : s.size ≤ 1000000) (w : World) :
    Calls Try.prog 53 #[.string s] w fun e w' => e = .returned (.bool (rightF (bl s))) ∧ w' = w := by
  have A := ahead_w s 47 47 rfl hs
  have B := ahead_w s 0 0 rfl hs
  unfold rightF
  rw [bl_len]
  generalize ahd (bl s) 47 = a at *
  generalize ahd (bl s) 0 = b at *
  by_cases h1 : 1 ≤ s.size
  · have t1 : (1 : Int) ≤ s.size := by omega
    have d1 : decide (1 ≤ s.size) = true := by simpa using h1
    rw [d1]
    by_cases h2 : s.size ≤ 14
    · have t2 : (s.size : Int) ≤ 14 := by omega
      have d2 : decide (s.size ≤ 14) = true := by simpa using h2
      rw [d2]
      by_cases h3 : a = s.size
      · have d3 : decide (a = s.size) = true := by simpa using h3
        have q3 := nat_eq h3
        rw [d3]
        clear h3 d3
        go_enter Try.func53, Try.ntmps53
        go_wp2_with fail
        refine (A _).mono ?_
        rintro e w1 ⟨rfl, rfl⟩
        go_wp2_with fail
        refine (B _).mono ?_
        rintro e w2 ⟨rfl, rfl⟩
        go_wp2
        go_ret
        refine ⟨ret_bool ?_, rfl⟩
        rw [Bool.eq_iff_iff]
        simp
        omega
      · have d3 : decide (a = s.size) = false := by simpa using h3
        have q3 := nat_ne h3
        rw [d3]
        clear h3 d3
        go_enter Try.func53, Try.ntmps53
        go_wp2_with fail
        refine (A _).mono ?_
        rintro e w1 ⟨rfl, rfl⟩
        go_wp2
        go_ret
        exact ⟨rfl, rfl⟩
    · have t2 : ¬ (s.size : Int) ≤ 14 := by omega
      have d2 : decide (s.size ≤ 14) = false := by simpa using h2
      rw [d2]
      go_enter Try.func53, Try.ntmps53
      go_wp2
      go_ret
      exact ⟨rfl, rfl⟩
  · have t1 : ¬ (1 : Int) ≤ s.size := by omega
    have d1 : decide (1 ≤ s.size) = false := by simpa using h1
    rw [d1]
    go_enter Try.func53, Try.ntmps53
    go_wp2
    go_ret
    exact ⟨rfl, rfl⟩

end Go.Proofs.Ythonlakpgncinaa.Nm

namespace Go.Proofs.Ythonlakpgncinaa.Nm
set_option maxRecDepth 100000
open Go.RowKit

def strs (xs : List Bs) : List Value := xs.map fun x => .string (bs x)
def sd (xs : List Bs) (i : Nat) : Bs := xs.getD i []

theorem strs_app (a b : List Bs) : strs (a ++ b) = strs a ++ strs b := by simp [strs]
theorem strs_len (a : List Bs) : (strs a).length = a.length := by simp [strs]
theorem sd_get {l : List Bs} {i : Nat} (h : i < l.length) : l[i]? = some (sd l i) := by simp [sd, List.getD, h]

theorem info_string : (Try.prog.info? 9).map (fun i => (i.zero, i.size, i.bytes)) = some (some (.string ⟨#[]⟩), 1, 16) := by kernel_rfl

/-- What x has. -/
def SrcS (x : Value) (xs : List Bs) (w : World) : Prop :=
  (∃ b o c, x = .slice (some ⟨b, o, none⟩) xs.length c ∧ b < w.heap.size ∧ ∀ j u, xs[j]? = some u → w.cell? ⟨b, o + j, none⟩ = some (.string (bs u))) ∨ (x = .slice none 0 0 ∧ xs = [])

theorem SrcS.kept {x : Value} {xs : List Bs} {w w' : World} {X : Nat → Prop} (h : SrcS x xs w) (hk : Kept X w w') (hX : ∀ k, x.ownBlock = some k → ¬ X k) : SrcS x xs w' := by
  rcases h with ⟨b, o, c, rfl, hb, hc⟩ | h
  · exact .inl ⟨b, o, c, rfl, Nat.lt_of_lt_of_le hb hk.size, fun j u hu => hk.cell (hc j u hu) (hX b rfl)⟩
  · exact .inr h

theorem SrcS.still {x : Value} {xs : List Bs} {w w' : World} (h : SrcS x xs w) (hk : Kept (fun _ => False) w w') : SrcS x xs w' := h.kept hk (fun _ _ e => e)

theorem own_src {w : World} {base n : Nat} {v : Value} {l : List Bs} (h : w.ownsRow base 9 1 v n (strs l)) : SrcS v l w := by
  have hl : l.length = n := by have := h.1; rw [strs_len] at this; omega
  rcases h.2 with ⟨rfl, h0⟩ | ⟨g, cap, cur, rfl, hb, hg, hnc, hcm, hcs, htake⟩
  · exact .inr ⟨rfl, List.eq_nil_of_length_eq_zero (by omega)⟩
  · refine .inl ⟨g, 0, cap, by rw [hl], lt_at hg, fun j u hu => ?_⟩
    have hc := h.cells (g := g) rfl j (.string (bs u)) (by simp [strs, hu])
    rw [Addr.add_lit] at hc
    exact hc

theorem SrcS.cell {b o n c : Nat} {l : List Bs} {w : World} (h : SrcS (.slice (some ⟨b, o, none⟩) n c) l w) {j : Nat} (hj : j < l.length) : w.cell? ⟨b, o + j, none⟩ = some (.string (bs (sd l j))) := by
  rcases h with ⟨b', o', c', e, _, hc⟩ | ⟨e, _⟩
  · cases e; exact hc j _ (sd_get hj)
  · cases e

theorem SrcS.form {x : Value} {l : List Bs} {w : World} (h : SrcS x l w) : ∃ ao b o c, x = .slice ao l.length c ∧ (0 < l.length → ao = some ⟨b, o, none⟩) ∧ ∀ j, j < l.length → w.cell? ⟨b, o + j, none⟩ = some (.string (bs (sd l j))) := by
  rcases h with ⟨b, o, c, rfl, _, hc⟩ | ⟨rfl, rfl⟩
  · exact ⟨_, b, o, c, rfl, fun _ => rfl, fun j hj => hc j _ (sd_get hj)⟩
  · exact ⟨none, 0, 0, 0, rfl, fun h => absurd h (by simp), fun j hj => absurd hj (by simp)⟩

theorem SrcS.row {w : World} {E : Nat} {cs : Array Value} {t : TypeId} {l : List Bs} (h : w.heap[E]? = some (.cells cs t (0, 0))) (hc : cs.toList = strs l) (c : Nat) : SrcS (.slice (some ⟨E, 0, none⟩) l.length c) l w := by
  refine .inl ⟨E, 0, c, rfl, lt_at h, fun j u hu => ?_⟩
  refine cell_at h ?_
  rw [← Array.getElem?_toList, hc]
  simp [strs, hu]

/-- v has the texts xs, in a block that is younger than the world w0. -/
structure OwnS (w0 : World) (v : Value) (xs : List Bs) (w : World) : Prop where
  kept : Kept (fun _ => False) w0 w
  own : w.ownsRow w0.heap.size 9 1 v xs.length (strs xs)

theorem OwnS.nil (w : World) : OwnS w (.slice none 0 0) [] w := ⟨Kept.refl _ _, World.ownsRow_nil _ _ _ _⟩
theorem OwnS.none {w0 w : World} (h : Kept (fun _ => False) w0 w) : OwnS w0 (.slice Option.none 0 0) [] w := ⟨h, World.ownsRow_nil _ _ _ _⟩
theorem OwnS.src {w0 w : World} {v : Value} {l : List Bs} (h : OwnS w0 v l w) : SrcS v l w := own_src h.own
theorem OwnS.alloc {w0 w : World} {v : Value} {xs : List Bs} (h : OwnS w0 v xs w) (o : Obj) : OwnS w0 v xs (w.alloc o) := ⟨h.kept.alloc o, h.own.alloc o⟩

theorem own_kept {X : Nat → Prop} {w w' : World} {base : Nat} {e : TypeId} {size : Nat} {v : Value} {n : Nat} {xs : List Value} (h : w.ownsRow base e size v n xs) (hk : Kept X w w') (hx : ∀ k, v.ownBlock = some k → ¬ X k) : w'.ownsRow base e size v n xs := by
  refine ⟨h.1, ?_⟩
  rcases h.2 with hn | ⟨g, cap, cur, rfl, hb, hgg, rest⟩
  · exact .inl hn
  · exact .inr ⟨g, cap, cur, rfl, hb, hk.at hgg (hx g rfl), rest⟩

theorem OwnS.still {w0 w w' : World} {v : Value} {l : List Bs} (h : OwnS w0 v l w) (hk : Kept (fun _ => False) w w') : OwnS w0 v l w' :=
  ⟨h.kept.trans hk (fun _ _ e => e), own_kept h.own hk (fun _ _ x => x)⟩

theorem OwnS.form {w0 w : World} {v : Value} {l : List Bs} (h : OwnS w0 v l w) : ∃ ao c, v = .slice ao l.length c := by
  rcases h.own.2 with ⟨rfl, h0⟩ | ⟨g, cap, cur, rfl, hb, hg, hnc, rest⟩
  · exact ⟨Option.none, 0, by rw [h0]⟩
  · exact ⟨_, cap, rfl⟩

theorem run_app (ty : TypeId) (w0 : World) (v : Value) (xs : List Bs) (w : World) (h : OwnS w0 v xs w) (x : Value) (news : List Bs) (hx : SrcS x news w) (hlen : xs.length + news.length ≤ 1000000) :
    ∃ v' w', (Builtin.append_ #[36, 36] ty #[v, x]).run Try.prog w = .ok v' w' ∧ OwnS w0 v' (xs ++ news) w' ∧ w.grownBy w' v.ownBlock := by
  obtain ⟨i0, hi, hz0, hz1, hz2⟩ := info_parts info_string
  rcases hx with ⟨b, o, c, rfl, hb, hc⟩ | ⟨rfl, rfl⟩
  · obtain ⟨v', w', hr, h2, h3, _, _⟩ := run_append_own_at (P := Try.prog) w w0.heap.size 36 ty 9 i0 (.string ⟨#[]⟩) 1 16 Try.underlying36 hi hz0 hz1 hz2 rfl (by decide) v xs.length (strs xs) h.own ⟨b, o, none⟩ news.length c (strs news) (by simp [strs])
      (fun j u hu => by
        rw [Addr.add_lit]
        simp only [strs, List.getElem?_map, Option.map_eq_some_iff] at hu
        obtain ⟨y, hy, rfl⟩ := hu
        exact hc j y hy)
      (fun u hu => by
        simp only [strs, List.mem_map] at hu
        obtain ⟨y, _, rfl⟩ := hu
        rfl) (by unfold maxLen; omega) (by omega) h.kept.size
    refine ⟨v', w', hr, ⟨Kept.trans h.kept (Kept.grown (X := fun k => w0.heap.size ≤ k) (Kept.refl _ w) h3 (fun k e _ => (h.own.lt k e).1)) (fun k hk e => by omega), ?_⟩, h3⟩
    rw [strs_app, List.length_append]
    exact h2
  · refine ⟨v, w, ?_, by simpa using h, ⟨rfl, rfl, rfl, Nat.le_refl _, fun _ _ _ => rfl⟩⟩
    rcases h.own.2 with ⟨rfl, h0⟩ | ⟨g, cap, cur, rfl, hb, hg, hnc, hcm, hcs, htake⟩
    · simp [Builtin.append_, run_underlying Try.underlying36, sizeOf, typeInfo, hi, Builtin.lenOf, Builtin.firstCells]
    · simp [Builtin.append_, run_underlying Try.underlying36, sizeOf, typeInfo, hi, Builtin.lenOf, Builtin.firstCells, hnc, storeCells]

/-- append, at the operation. -/
theorem wp_app {o : Oper} {a : Act} {w : World} {K : Act → World → Prop} {Q : Exit → Act → World → Prop}
    (s x : Operand) (hop : o.op = Op.call { callee := Callee.builtin Builtin.append, args := #[s, x], argTypes := #[36, 36] })
    (w0 : World) (xs news : List Bs) (h : OwnS w0 (a.eval s) xs w) (hx : SrcS (a.eval x) news w) (hlen : xs.length + news.length ≤ 1000000)
    (hK : ∀ v' w', OwnS w0 v' (xs ++ news) w' → w.grownBy w' (a.eval s).ownBlock → K (a.put o.dst v') w') : o.wp Try.prog a w K Q := by
  obtain ⟨v', w', hr, h2, h3⟩ := run_app o.type w0 _ xs w h _ news hx hlen
  unfold Oper.wp execOp
  simp only [hop, resolve, invoke, builtin, Sem.run_bind, Sem.run_pure, Result.andThen_ok, List.map_toArray, List.map_cons, List.map_nil, hr]
  exact hK v' w' h2 h3

/-- append, at the list of a plain region's operations. -/
theorem list_app {ops : Array Oper} {rest : List Oper} {o : Oper} {a : Act} {w : World} {Q : Exit → Act → World → Prop}
    (hg : o.guard = none) (s x : Operand) (hop : o.op = Op.call { callee := Callee.builtin Builtin.append, args := #[s, x], argTypes := #[36, 36] })
    (w0 : World) (xs news : List Bs) (h : OwnS w0 (a.eval s) xs w) (hx : SrcS (a.eval x) news w) (hlen : xs.length + news.length ≤ 1000000)
    (hK : ∀ v' w', OwnS w0 v' (xs ++ news) w' → w.grownBy w' (a.eval s).ownBlock → wpList Try.prog ops Q rest (a.put o.dst v') w') : wpList Try.prog ops Q (o :: rest) a w :=
  wpList_plain hg fun _ hK' => wp_app s x hop w0 xs news h hx hlen fun v' w' h2 h3 => hK' _ _ (hK v' w' h2 h3)

theorem str_eq (a b : Bs) : ((bs a).toList == (bs b).toList) = decide (a = b) := by
  rw [toList_bl, toList_bl, bl_bs, bl_bs]
  by_cases h : a = b <;> simp [h]

theorem take_next {a b : List Bs} {i : Nat} (ha : i < a.length) (hb : i < b.length) (h : a.take i = b.take i) (he : sd a i = sd b i) : a.take (i + 1) = b.take (i + 1) := by
  rw [List.take_add_one, List.take_add_one, h, sd_get ha, sd_get hb, he]

theorem kept_drewN (w : World) (m : Nat) : Kept (fun _ => False) w (w.drewN m) := ⟨rfl, rfl, rfl, Nat.le_refl _, fun _ _ _ => rfl⟩

end Go.Proofs.Ythonlakpgncinaa.Nm

namespace Go.Proofs.Ythonlakpgncinaa.Nm
set_option maxRecDepth 100000
open Go.RowKit

/-- 'copy(dst, s)' from a text: as much as there is room for. -/
theorem run_copy_part {P : Program} (w : World) (dT sT ty elem : TypeId) (g o dLen dCap : Nat) (s : ByteArray) (cur : Array Value) (t : TypeId)
    (hu : P.underlying dT = some (.slice elem)) (hs : (P.info? elem).map (·.size) = some 1) (hg : w.heap[g]? = some (.cells cur t (0, 0))) (hfit : o + min s.size dLen ≤ cur.size) :
    (Builtin.copy_ #[dT, sT] ty #[.slice (some ⟨g, o, none⟩) dLen dCap, .string s]).run P w =
      .ok (goInt ((min s.size dLen : Nat) : Int)) (w.setRow g (cur.toList.take o ++ Lib.byteCells (s.data.toList.take (min s.size dLen)) ++ cur.toList.drop (o + min s.size dLen)).toArray) := by
  have hlen : (Lib.byteCells (s.data.toList.take (min s.size dLen))).length = min s.size dLen := by
    rw [Lib.byteCells_length, List.length_take, ← Lib.size_eq]; omega
  have hst := run_storeCells_at P g o t (Lib.byteCells (s.data.toList.take (min s.size dLen))) 0 cur w hg (by rw [hlen]; simpa using hfit) (Lib.byteCells_one _)
  have htk : List.take (min s.size dLen) (List.map (fun b : UInt8 => Value.int IntKind.u8 (b.toNat : Int)) s.data.toList) = Lib.byteCells (s.data.toList.take (min s.size dLen)) := by
    rw [← List.map_take]; rfl
  rw [hlen] at hst
  simp only [Nat.add_zero] at hst
  cases hq : P.info? elem with
  | none => simp [hq] at hs
  | some i =>
    simp [Builtin.copy_, run_underlying hu, Builtin.lenOf, Builtin.firstCells, sizeOf, typeInfo, hq]
    rw [htk, hst]
    simp [Result.andThen]

def zero16 : Array Value := #[.int .u8 0, .int .u8 0, .int .u8 0, .int .u8 0, .int .u8 0, .int .u8 0, .int .u8 0, .int .u8 0, .int .u8 0, .int .u8 0, .int .u8 0, .int .u8 0, .int .u8 0, .int .u8 0, .int .u8 0, .int .u8 0]

theorem zero16_list : zero16.toList = Lib.byteCells (List.replicate 16 0) := rfl

/-- The sixteen bytes when the name is in. -/
def halfF (l : Bs) : Bs := l.take 14 ++ List.replicate (16 - min 14 l.length) 0
theorem half_len (l : Bs) : (halfF l).length = 16 := by unfold halfF; simp; omega
theorem half_pack (l : Bs) (n : Int) : packF l n = (halfF l).take 14 ++ [loF n, hiF n] := by
  unfold packF halfF
  congr 1
  rw [List.take_append, List.take_replicate, List.take_take, Nat.min_self, List.length_take]
  congr 2
  omega

theorem copy_in (w : World) (g : Nat) (t ty : TypeId) (s : ByteArray) (hg : w.heap[g]? = some (.cells zero16 t (0, 0))) :
    ∃ m Y wY, (Builtin.copy_ #[46, 9] ty #[.slice (some ⟨g, 0, none⟩) 14 16, .string s]).run Try.prog w = .ok m wY ∧ wY.heap[g]? = some (.cells Y t (0, 0)) ∧ Y.toList = Lib.byteCells (halfF (bl s)) ∧ Kept (fun k => k = g) w wY := by
  have hinfo : (Try.prog.info? 5).map (·.size) = some 1 := by kernel_rfl
  refine ⟨_, _, _, run_copy_part (P := Try.prog) w 46 9 ty 5 g 0 14 16 s zero16 t Try.underlying46 hinfo hg (by show 0 + min s.size 14 ≤ 16; omega), setRow_heap _ _ _ _ _ _ hg, ?_, ?_⟩
  · rw [List.toList_toArray, List.take_zero, List.nil_append, zero16_list]
    have : List.drop (0 + min s.size 14) (Lib.byteCells (List.replicate 16 0)) = Lib.byteCells (List.replicate (16 - min 14 s.size) 0) := by
      unfold Lib.byteCells
      rw [← List.map_drop, List.drop_replicate]
      congr 2
      omega
    rw [this, ← Lib.byteCells_append]
    unfold halfF
    rw [bl_len]
    congr 2
    show List.take (min s.size 14) (bl s) = _
    rw [List.take_eq_take_iff, bl_len]
    omega
  · exact ⟨rfl, rfl, rfl, by simp, fun k hk hx => setRow_other _ _ _ _ hx⟩

theorem list_at {l : Bs} {Y : Array Value} (h : Y.toList = Lib.byteCells l) {i : Nat} {x : UInt8} (hi : l[i]? = some x) : Y[i]? = some (.int .u8 x.toNat) := by
  rw [← Array.getElem?_toList, h]
  simp [Lib.byteCells, hi]

/-- What the sixteen bytes are as a text when the number is in. -/
theorem pack_out (w : World) (g : Nat) (t : TypeId) (Y : Array Value) (l : Bs) (n a b : Int) (hg : w.heap[g]? = some (.cells Y t (0, 0))) (hY : Y.toList = Lib.byteCells (halfF l)) (ha : a = n % 256) (hb : b = n / 256 % 256) :
    (convert 46 9 (.slice (some ⟨g, 0, none⟩) 16 16)).run Try.prog ((w.setCell ⟨g, 14, none⟩ (.int .u8 a)).setCell ⟨g, 15, none⟩ (.int .u8 b)) = .ok (.string (bs (packF l n))) ((w.setCell ⟨g, 14, none⟩ (.int .u8 a)).setCell ⟨g, 15, none⟩ (.int .u8 b)) := by
  have h := run_convert_bytes_back (P := Try.prog) ((w.setCell ⟨g, 14, none⟩ (.int .u8 a)).setCell ⟨g, 15, none⟩ (.int .u8 b)) 46 9 5 ⟨g, 0, none⟩ 16 (packF l n) Try.underlying46 Try.underlying5 Try.underlying9 ?_
  · rw [pack_len] at h
    exact h
  · intro j hj
    rw [pack_len] at hj
    have h2 := set_at (set_at hg 14 (.int .u8 a)) 15 (.int .u8 b)
    have hx : (packF l n)[j]? = some ((packF l n)[j]'(by rw [pack_len]; exact hj)) := List.getElem?_eq_getElem _
    generalize (packF l n)[j]'(by rw [pack_len]; exact hj) = x at hx ⊢
    rw [Addr.add_lit, Nat.zero_add]
    refine cell_at h2 ?_
    have hYs : Y.size = 16 := by rw [← Array.length_toList, hY, Lib.byteCells_length, half_len]
    rw [half_pack] at hx
    by_cases h15 : j = 15
    · subst h15
      rw [List.getElem?_append_right (by simp [half_len])] at hx
      have : 15 - (List.take 14 (halfF l)).length = 1 := by simp [half_len]
      rw [this] at hx
      simp at hx
      subst hx
      rw [hi_nat, ← hb]
      simp [hYs]
    · by_cases h14 : j = 14
      · subst h14
        rw [List.getElem?_append_right (by simp [half_len])] at hx
        have : 14 - (List.take 14 (halfF l)).length = 0 := by simp [half_len]
        rw [this] at hx
        simp at hx
        subst hx
        rw [lo_nat, ← ha]
        simp [hYs]
      · rw [List.getElem?_append_left (by simp [half_len]; omega)] at hx
        rw [List.getElem?_take, if_pos (by omega)] at hx
        have := list_at hY hx
        rw [Array.getElem?_setIfInBounds_ne (by omega), Array.getElem?_setIfInBounds_ne (by omega)]
        exact this

set_option maxHeartbeats 1000000 in
theorem pack_w (s : ByteArray) (n : Int) (w : World) :
    Calls Try.prog 77 #[.string s, .int .i64 n] w fun e w' => e = .returned (.string (bs (packF (bl s) n))) ∧ Kept (fun _ => False) w w' := by
  obtain ⟨m, Y, wY, hcp, hgY, hY, hk⟩ := copy_in (w.alloc (.cells zero16 130)) w.heap.size 130 3 s (heap_alloc_new w _)
  have hK : Kept (fun _ => False) w wY := ((Kept.refl (fun _ => False) w).alloc _).trans hk (fun k hk e => by subst e; simp at hk)
  unfold zero16 at hcp
  have c14 := cell_at hgY (i := 14) (list_at hY (x := (halfF (bl s))[14]'(by rw [half_len]; decide)) (List.getElem?_eq_getElem _))
  have c15 := cell_at hgY (i := 15) (list_at hY (x := (halfF (bl s))[15]'(by rw [half_len]; decide)) (List.getElem?_eq_getElem _))
  have f14 := free_at hgY 14
  have f15 := free_at hgY 15
  have ho := fun a b ha hb => pack_out wY w.heap.size 130 Y (bl s) n a b hgY hY ha hb
  generalize (halfF (bl s))[14]'(by rw [half_len]; decide) = x14 at c14
  generalize (halfF (bl s))[15]'(by rw [half_len]; decide) = x15 at c15
  clear hgY hY hk
  go_enter Try.func77, Try.ntmps77
  go_wp2
  go_ret
  refine ⟨rfl, Kept.setCell (Kept.setCell hK ?_ _) ?_ _⟩
  · intro h; exact absurd h (Nat.lt_irrefl _)
  · intro h; exact absurd h (Nat.lt_irrefl _)
end Go.Proofs.Ythonlakpgncinaa.Nm

namespace Go.Proofs.Ythonlakpgncinaa.Nm
set_option maxRecDepth 100000
open Go.RowKit

theorem or16 (x y : UInt8) : bits .or .i64 (IntKind.i64.wrap x.toNat) (IntKind.i64.wrap (IntKind.i64.wrap y.toNat * 256)) = (x.toNat : Int) + y.toNat * 256 := by
  have hx := byte_lt x
  have hy := byte_lt y
  generalize x.toNat = m at *
  generalize y.toNat = k at *
  have e1 : IntKind.i64.wrap (m : Int) = m := by rw [IntKind.wrap_i64]; omega
  have e2 : IntKind.i64.wrap (k : Int) = k := by rw [IntKind.wrap_i64]; omega
  have e3 : IntKind.i64.wrap ((k : Int) * 256) = ((k * 256 : Nat) : Int) := by rw [IntKind.wrap_i64]; omega
  rw [e1, e2, e3]
  show IntKind.i64.wrap ((BitVec.ofInt 64 (m : Int) ||| BitVec.ofInt 64 ((k * 256 : Nat) : Int)).toNat : Int) = _
  rw [BitVec.ofInt_natCast, BitVec.ofInt_natCast, BitVec.toNat_or, BitVec.toNat_ofNat, BitVec.toNat_ofNat, Nat.mod_eq_of_lt (by omega), Nat.mod_eq_of_lt (by omega)]
  have h := Nat.two_pow_add_eq_or_of_lt (i := 8) (b := m) (by omega) k
  rw [Nat.or_comm, Nat.mul_comm k 256, show (256 : Nat) = 2 ^ 8 from rfl, ← h, IntKind.wrap_i64]
  omega

theorem or16w (x y : UInt8) : bits .or .i64 (wrap64 x.toNat) (wrap64 (wrap64 y.toNat * 256)) = (x.toNat : Int) + y.toNat * 256 := by
  rw [← Go.IntWalk.i64_left, ← Go.IntWalk.i64_left, ← Go.IntWalk.i64_left]
  exact or16 x y

theorem ret_si {s : ByteArray} {a b : Int} (h : a = b) : Ending.returned (.tuple #[.string s, .int .i64 a]) = .returned (.tuple #[.string s, .int .i64 b]) := by rw [h]

set_option maxHeartbeats 1000000 in
theorem unpack_w (s : ByteArray) (w : World) :
    Calls Try.prog 72 #[.string s] w fun e w' => e = .returned (.tuple #[.string (bs (nameF (bl s))), .int .i64 (ptrF (bl s))]) ∧ Kept (fun _ => False) w w' := by
  by_cases h : s.size = 16
  · have hl : (bl s).length = 16 := by rw [bl_len]; exact h
    have q : ((s.size : Int) != 16) = false := by rw [h]; rfl
    obtain ⟨t, ht⟩ : ∃ t, s.extract 0 14 = t := ⟨_, rfl⟩
    have htl : bl t = (bl s).take 14 := by rw [← ht, bl_extract]; rfl
    have hts : t.size = 14 := by rw [← bl_len, htl, List.length_take, hl]; rfl
    have A := ahead_w t 0 0 rfl (by omega)
    obtain ⟨a, ha⟩ : ∃ a, ahd (bl t) 0 = a := ⟨_, rfl⟩
    have hle := ahd_le (bl t) 0
    rw [bl_len, ha] at hle
    rw [ha] at A
    obtain ⟨u, hu⟩ : ∃ u, s.extract 0 a = u := ⟨_, rfl⟩
    have hul : bl u = (bl s).take a := by rw [← hu, bl_extract]; rfl
    have hn : nameF (bl s) = bl u := by
      unfold nameF
      rw [if_pos hl, ← htl, ha, hul]
    have C := clone_w u (by rw [← bl_len, hul, List.length_take]; omega)
    have b14 := bl_at s (i := 14) (by omega)
    have b15 := bl_at s (i := 15) (by omega)
    obtain ⟨x14, h14⟩ : ∃ x : UInt8, s[14] = x := ⟨_, rfl⟩
    obtain ⟨x15, h15⟩ : ∃ x : UInt8, s[15] = x := ⟨_, rfl⟩
    rw [h14] at b14
    rw [h15] at b15
    have hp : ptrF (bl s) = x14.toNat + x15.toNat * 256 := by
      unfold ptrF numF
      rw [if_pos hl, List.getD, b14, List.getD, b15]; rfl
    rw [hn, bs_bl, hp]
    have t1 : (14 : Int) < s.size := by omega
    have t2 : (15 : Int) < s.size := by omega
    have t3 : (14 : Int) ≤ s.size := by omega
    have t4 : (a : Int) ≤ s.size := by omega
    clear htl ha hul hn b14 b15 hp hl
    go_enter Try.func72, Try.ntmps72
    go_wp2_with fail
    refine (A _).mono ?_
    rintro e w1 ⟨rfl, hw⟩
    have hw' := hw.symm
    subst hw'
    clear hw
    go_wp2_with fail
    go_region_held3 (fun w' => Kept (fun _ => False) w w') (first | exact (Kept.refl _ _).drew | exact hk2) (first | (go_at_call 58; refine (C _).mono ?_; rintro e w2 ⟨rfl, hk⟩; have hk2 := Kept.thru (by assumption) hk))
    all_goals
      go_wp2
      exact bodyPost_ret (by simp [results, Try.results72, go_sem]) rfl ⟨ret_si (or16 x14 x15), by assumption⟩
  · have hl : ¬ (bl s).length = 16 := by rw [bl_len]; exact h
    have q : ((s.size : Int) != 16) = true := by simp; omega
    have hn : nameF (bl s) = [] := by unfold nameF; rw [if_neg hl]
    have hp : ptrF (bl s) = 0 := by unfold ptrF; rw [if_neg hl]
    rw [hn, hp]
    clear h hl hn hp
    go_enter Try.func72, Try.ntmps72
    go_wp2
    exact bodyPost_ret (by simp [results, Try.results72, go_sem]; rfl) rfl ⟨rfl, Kept.refl _ _⟩

theorem nought_iff (l : Bs) (n : Nat) (x : UInt8) (h : l[n]? = some x) (hn : n ≤ ahd l 0) : x = 0 ↔ ahd l 0 = n := by
  constructor
  · rintro rfl
    have := ahd_stop h
    omega
  · intro e
    rcases Classical.em (x = 0) with h0 | h0
    · exact h0
    · have := ahd_go (Nat.le_of_eq e.symm) h h0
      omega

set_option maxHeartbeats 1000000 in
theorem unpack_r (s : ByteArray) (w : World) :
    Calls Try.prog 81 #[.string s] w fun e w' => e = .returned (.tuple #[.string (bs (nameF (bl s))), .int .i64 (ptrF (bl s))]) ∧ Kept (fun _ => False) w w' := by
  by_cases h : s.size = 16
  · have hl : (bl s).length = 16 := by rw [bl_len]; exact h
    have q : ((s.size : Int) != 16) = false := by rw [h]; rfl
    obtain ⟨t, ht⟩ : ∃ t, (bl s).take 14 = t := ⟨_, rfl⟩
    have htl : t.length = 14 := by rw [← ht, List.length_take, hl]; rfl
    obtain ⟨a, ha⟩ : ∃ a, ahd t 0 = a := ⟨_, rfl⟩
    have hle := ahd_le t 0
    rw [ha, htl] at hle
    obtain ⟨u, hu⟩ : ∃ u, s.extract 0 a = u := ⟨_, rfl⟩
    have hul : bl u = (bl s).take a := by rw [← hu, bl_extract]; rfl
    have hn : nameF (bl s) = bl u := by
      unfold nameF
      rw [if_pos hl, ht, ha, hul]
    have b14 := bl_at s (i := 14) (by omega)
    have b15 := bl_at s (i := 15) (by omega)
    obtain ⟨x14, h14⟩ : ∃ x : UInt8, s[14] = x := ⟨_, rfl⟩
    obtain ⟨x15, h15⟩ : ∃ x : UInt8, s[15] = x := ⟨_, rfl⟩
    rw [h14] at b14
    rw [h15] at b15
    have hp : ptrF (bl s) = x14.toNat + x15.toNat * 256 := by
      unfold ptrF numF
      rw [if_pos hl, List.getD, b14, List.getD, b15]; rfl
    rw [hn, bs_bl, hp]
    have t1 : (14 : Int) < s.size := by omega
    have t2 : (15 : Int) < s.size := by omega
    have t4 : (a : Int) ≤ s.size := by omega
    have HT : Hid ((bl s).take 14 = t ∧ ahd t 0 = a) := ⟨ht, ha⟩
    clear ht ha hul hn b14 b15 hp hl
    go_enter Try.func81, Try.ntmps81
    go_wp2
    go_loop [4] (fun x => ∃ i : Nat, x = .int .i64 i ∧ i ≤ a) (fun x => 20 - (intOf x).toNat)
    case atStart => exact ⟨0, rfl, Nat.zero_le _⟩
    case round =>
      obtain ⟨i, rfl, hi⟩ := hrel
      have hti : ∀ hh : i < s.size, i < 14 → t[i]? = some (s[i]'hh) := fun hh h14 => by
        rw [← HT.out.1, List.getElem?_take, if_pos h14]
        exact bl_at s hh
      by_cases hlt : i < a
      · have t5 : (i : Int) < 14 := by omega
        have t6 : (i : Int) < s.size := by omega
        have hat := hti (by omega) (by omega)
        obtain ⟨x, hx⟩ : ∃ x : UInt8, s[i] = x := ⟨_, rfl⟩
        rw [hx] at hat
        have hne : x ≠ 0 := fun e => by
          have := ahd_stop (b := 0) (e ▸ hat)
          have := HT.out.2
          omega
        have q2 : ((x.toNat : Int) != 0) = true := by
          rw [bne_iff_ne]
          intro e
          exact hne (UInt8.toNat_inj.1 (by rw [show UInt8.toNat 0 = 0 from rfl]; omega))
        clear hti
        go_wp2
        go_round
        case rel => exact ⟨i + 1, by simp, by omega⟩
        case measure => simp [intOf]; omega
      · obtain rfl : i = a := by omega
        by_cases h14 : i = 14
        · have t5 : ¬ (i : Int) < 14 := by omega
          clear hti h14
          go_wp2_with fail
          go_quiet (fail)
          go_wp2
          exact bodyPost_ret (by simp [results, Try.results81, go_sem]) rfl ⟨ret_si (or16w x14 x15), kept_drewN _ _⟩
        · have t5 : (i : Int) < 14 := by omega
          have t6 : (i : Int) < s.size := by omega
          have hat := hti (by omega) (by omega)
          obtain ⟨x, hx⟩ : ∃ x : UInt8, s[i] = x := ⟨_, rfl⟩
          rw [hx] at hat
          have hz : x = 0 := (nought_iff t i x hat (by have := HT.out.2; omega)).2 HT.out.2
          subst hz
          clear hti h14
          go_wp2_with fail
          go_quiet (fail)
          go_wp2
          exact bodyPost_ret (by simp [results, Try.results81, go_sem]) rfl ⟨ret_si (or16w x14 x15), kept_drewN _ _⟩
  · have hl : ¬ (bl s).length = 16 := by rw [bl_len]; exact h
    have q : ((s.size : Int) != 16) = true := by simp; omega
    have hn : nameF (bl s) = [] := by unfold nameF; rw [if_neg hl]
    have hp : ptrF (bl s) = 0 := by unfold ptrF; rw [if_neg hl]
    rw [hn, hp]
    clear h hl hn hp
    go_enter Try.func81, Try.ntmps81
    go_wp2
    exact bodyPost_ret (by simp [results, Try.results81, go_sem]; rfl) rfl ⟨rfl, Kept.refl _ _⟩
end Go.Proofs.Ythonlakpgncinaa.Nm

namespace Go.Proofs.Ythonlakpgncinaa.Nm
set_option maxRecDepth 100000
open Go.RowKit

theorem right_no {l : Bs} {i : Nat} {x : UInt8} (h : l[i]? = some x) (hx : x = 47 ∨ x = 0) : rightF l = false := by
  cases hr : rightF l with
  | false => rfl
  | true =>
    have := right_iff.1 hr
    have hm : x ∈ l := List.mem_of_getElem? h
    rcases hx with rfl | rfl
    · exact absurd hm this.2.2.1
    · exact absurd hm this.2.2.2

theorem right_all {l : Bs} (h1 : l.length ≤ ahd l 47) (h2 : l.length ≤ ahd l 0) : rightF l = (decide (1 ≤ l.length) && decide (l.length ≤ 14)) := by
  have e1 : ahd l 47 = l.length := Nat.le_antisymm (ahd_le _ _) h1
  have e2 : ahd l 0 = l.length := Nat.le_antisymm (ahd_le _ _) h2
  unfold rightF
  simp [e1, e2]

theorem byte_eq (x y : UInt8) (c : Int) (hc : (y.toNat : Int) = c) : (((x.toNat : Int)) == c) = decide (x = y) := by
  rw [← hc, Bool.eq_iff_iff, beq_iff_eq, decide_eq_true_eq]
  constructor
  · intro h; exact UInt8.toNat_inj.1 (by omega)
  · rintro rfl; rfl
theorem byte_ne (x y : UInt8) (c : Int) (hc : (y.toNat : Int) = c) : (((x.toNat : Int)) != c) = !decide (x = y) := by
  rw [bne, byte_eq x y c hc]

theorem right_r (s : ByteArray) (hs : s.size ≤ 1000000) (w : World) :
    Calls Try.prog 61 #[.string s] w fun e w' => e = .returned (.bool (rightF (bl s))) ∧ w' = w := by
  go_enter Try.func61, Try.ntmps61
  go_wp2
  go_loop [3] (fun x => ∃ i : Nat, x = .int .i64 i ∧ i ≤ s.size ∧ Hid (i ≤ ahd (bl s) 47 ∧ i ≤ ahd (bl s) 0)) (fun x => s.size + 1 - (intOf x).toNat)
  case atStart => exact ⟨0, rfl, Nat.zero_le _, Nat.zero_le _, Nat.zero_le _⟩
  case round =>
    obtain ⟨i, rfl, hi, HA⟩ := hrel
    by_cases hlt : i < s.size
    · have t1 : (i : Int) < s.size := by omega
      have hat := bl_at s hlt
      obtain ⟨x, hx⟩ : ∃ x : UInt8, s[i] = x := ⟨_, rfl⟩
      rw [hx] at hat
      have b1 := byte_eq x 47 47 rfl
      have b2 := byte_eq x 0 0 rfl
      by_cases h1 : x = 47
      · have hr := right_no hat (.inl h1)
        rw [decide_eq_true h1] at b1
        clear b2 h1
        go_wp2
        go_ret
        exact ⟨rfl, rfl⟩
      · rw [decide_eq_false h1] at b1
        by_cases h2 : x = 0
        · have hr := right_no hat (.inr h2)
          rw [decide_eq_true h2] at b2
          clear h1 h2
          go_wp2
          go_ret
          exact ⟨rfl, rfl⟩
        · rw [decide_eq_false h2] at b2
          have HN : Hid (i + 1 ≤ ahd (bl s) 47 ∧ i + 1 ≤ ahd (bl s) 0) := ⟨ahd_go HA.out.1 hat h1, ahd_go HA.out.2 hat h2⟩
          clear h1 h2 HA
          go_wp2
          go_round
          case rel => exact ⟨i + 1, by simp, by omega, HN.out⟩
          case measure => simp [intOf]; omega
    · have t1 : ¬ (i : Int) < s.size := by omega
      have hr := right_all (l := bl s) (by rw [bl_len]; have := HA.out.1; omega) (by rw [bl_len]; have := HA.out.2; omega)
      rw [bl_len] at hr
      have HR : Hid (rightF (bl s) = (decide (1 ≤ s.size) && decide (s.size ≤ 14))) := hr
      clear hr HA
      by_cases h1 : 1 ≤ s.size
      · have t2 : (1 : Int) ≤ s.size := by omega
        by_cases h2 : s.size ≤ 14
        · have t3 : (s.size : Int) ≤ 14 := by omega
          go_wp2
          go_ret
          refine ⟨ret_bool ?_, rfl⟩
          rw [HR.out]; simp [h1, h2]
        · have t3 : ¬ (s.size : Int) ≤ 14 := by omega
          go_wp2
          go_ret
          refine ⟨ret_bool ?_, rfl⟩
          rw [HR.out]; simp [h2]
      · have t2 : ¬ (1 : Int) ≤ s.size := by omega
        go_wp2
        go_ret
        refine ⟨ret_bool ?_, rfl⟩
        rw [HR.out]; simp [h1]

end Go.Proofs.Ythonlakpgncinaa.Nm
