
/- What the code's pages do when they are called, as one hypothesis; no conditions but lengths. -/
import Derived.Test.YtbhpkjedkccdpaaDoorSgA
namespace Go.Proofs.YtbhpkjedkccdpaaDoor
open Go.RowKit
set_option maxRecDepth 100000
set_option linter.unusedSimpArgs false

/-- A slice's numbers have room. -/
def CapI (v : Value) : Prop := ∀ a n c, v = .slice a n c → n ≤ c
/-- Space's calls, through one view. -/
structure SpaceDoes : Prop where
  grow : ∀ {f : StF} {w0 : World} {T p B q N : Nat} {g : VwF} {w : World}, SideG f w0 T p B q N g w → ∀ i n : Int, (meV f g i).s.size ≤ 104 → (prV f g i).s.size ≤ 194 →
    Calls Tryd.prog 9 #[.pointer (some ⟨q, 0, none⟩), .int .i64 i, .int .i64 n] w fun e w' => e = .returned (.bool (grOk f g i n)) ∧ SideG f w0 T p B q N (grT f g i n) w' ∧ Kept (fun n => n = N) w w'
  shrink : ∀ {f : StF} {w0 : World} {T p B q N : Nat} {g : VwF} {w : World}, SideG f w0 T p B q N g w → ∀ i n : Int, n ≤ 9223372036854775807 →
    Calls Tryd.prog 11 #[.pointer (some ⟨q, 0, none⟩), .int .i64 i, .int .i64 n] w fun e w' => ∃ v, e = .returned (.tuple #[v, .bool (shOk f g i n)]) ∧ SrcI v (shL f g i n) w' ∧ (∀ b, v.ownBlock = some b → w.heap.size ≤ b) ∧ SideG f w0 T p B q N (shT f g i n) w' ∧ Kept (fun n => n = N) w w'
  back : ∀ {f : StF} {w0 : World} {T p B q N : Nat} {g : VwF} {w : World}, SideG f w0 T p B q N g w → ∀ (v : Value) (l : List Int), l.length ≤ 1000000 → SrcI v l w → (∀ b, v.ownBlock = some b → b < w.heap.size ∧ b ≠ N) →
    Calls Tryd.prog 13 #[.pointer (some ⟨q, 0, none⟩), v] w fun e w' => e = .returned (.tuple #[]) ∧ SideG f w0 T p B q N (baT f g l) w' ∧ Kept (fun n => n = N) w w'
  pagesC : ∀ {f : StF} {w0 : World} {T p B q N : Nat} {g : VwF} {w : World}, SideG f w0 T p B q N g w → ∀ i : Int,
    Calls Tryd.prog 10 #[.pointer (some ⟨q, 0, none⟩), .int .i64 i] w fun e w' => ∃ v, e = .returned v ∧ CapI v ∧ SrcI v (pgL f g i) w' ∧ (∀ b, v.ownBlock = some b → w.heap.size ≤ b) ∧ SideG f w0 T p B q N (pgT f g i) w' ∧ Kept (fun n => n = N) w w'
  free : ∀ {f : StF} {w0 : World} {T p B q N : Nat} {g : VwF} {w : World}, SideG f w0 T p B q N g w →
    Calls Tryd.prog 12 #[.pointer (some ⟨q, 0, none⟩)] w fun e w' => e = .returned (.int .i64 (cntB (poV f g).n0 : Nat)) ∧ SideG f w0 T p B q N (vgetT g (2, 0)) w' ∧ Kept (fun n => n = N) w w'

theorem SpaceDoes.pages (S : SpaceDoes) {f : StF} {w0 : World} {T p B q N : Nat} {g : VwF} {w : World} (h : SideG f w0 T p B q N g w) (i : Int) :
    Calls Tryd.prog 10 #[.pointer (some ⟨q, 0, none⟩), .int .i64 i] w fun e w' => ∃ v, e = .returned v ∧ SrcI v (pgL f g i) w' ∧ (∀ b, v.ownBlock = some b → w.heap.size ≤ b) ∧ SideG f w0 T p B q N (pgT f g i) w' ∧ Kept (fun n => n = N) w w' :=
  (S.pagesC h i).mono fun _ _ ⟨v, h1, _, h2⟩ => ⟨v, h1, h2⟩

theorem cnt_clrAll {l : List Nat} {n : Int} (hl : l.Nodup) (h : ∀ g ∈ l, g < 64 ∧ hbN n g = true) : cntB (clrAll n l) + l.length = cntB n := by
  unfold clrAll
  induction l generalizing n with
  | nil => rfl
  | cons a l ih =>
    have ha := h a (by simp)
    have hn := List.nodup_cons.1 hl
    have := ih (n := clrN n (a : Int)) hn.2 (fun g hg => by
      have hg2 := h g (by simp [hg])
      refine ⟨hg2.1, ?_⟩
      rw [hbN_clr n a hg2.1, hg2.2]
      have : g ≠ a := fun e => hn.1 (e ▸ hg)
      simp [this])
    rw [List.foldl_cons, List.length_cons, cntB_clr ha.1 ha.2]
    omega
theorem cnt_picks (n : Int) {k : Nat} (h : k ≤ cntB n) : cntB (clrAll n (picks n 64 k)) + k = cntB n := by
  have := cnt_clrAll (picks_nodup n 64 k) (fun g hg => picks_mem hg)
  rw [picks_len] at this
  unfold cntB at h this ⊢
  omega
theorem cnt_ones (k : Nat) (h : k ≤ 5) : cntB ((2 : Int) ^ k - 1) = k := by
  obtain rfl | rfl | rfl | rfl | rfl | rfl : k = 0 ∨ k = 1 ∨ k = 2 ∨ k = 3 ∨ k = 4 ∨ k = 5 := by omega
  all_goals decide +kernel
section
variable {f : StF} {F : Int} {P : Nat → List Nat} {W : List Nat} {g g' : VwF}
theorem SpV.like {P' : Nat → List Nat} {W' : List Nat} (h : SpV f F P W g) (h0 : P' 0 = P 0) (h1 : P' 1 = P 1) (hw : W' = W) : SpV f F P' W' g := by
  have e : ∀ p, p < 2 → P' p = P p := fun p hp => by
    obtain rfl | rfl : p = 0 ∨ p = 1 := by omega
    · exact h0
    · exact h1
  subst hw
  exact ⟨by rw [h0, h1]; exact h.own, h.r, fun p hp => by rw [e p hp]; exact h.x p hp, fun p hp => by rw [e p hp]; exact h.m p hp, fun p hp => by rw [e p hp]; exact h.six p hp⟩
theorem SpV.mem (h : SpV f F P W g) {p : Nat} (hp : p < 2) : (meV f g (p : Int)).s.size ≤ 104 ∧ (prV f g (p : Int)).s.size ≤ 194 := by
  have h6 := h.six p hp
  have h1 : (meV f g (p : Int)).s.size = 16 * (P p).length := by rw [size_bl, h.m p hp, List.length_replicate]
  have h2 := h.size hp
  omega
theorem SpV.grow_n0 (h : SpV f F P W g) {p : Nat} (hp : p < 2) {n : Nat} (h1 : n ≤ cntB (poV f g).n0) (h2 : n + (P p).length ≤ 6) : cntB (poV f (grT f g (p : Int) (n : Int))).n0 + n = cntB (poV f g).n0 := by
  have hk : grOk f g (p : Int) (n : Int) = true := by rw [h.may hp, decide_eq_true h1, decide_eq_true h2]; rfl
  have e : poV f (grT f g (p : Int) (n : Int)) = grP (poV f g) n := by
    show vgetF f _ (2, 0) = _
    rw [gr_get hk, if_neg (key_ne (by decide) _ _), if_neg (key_ne (by decide) _ _), if_pos rfl, Int.toNat_natCast]
  rw [e]
  exact cnt_picks _ h1
theorem sh_n0 (i n : Int) : (poV f (shT f g i n)).n0 = (poV f g).n0 := by
  cases hs : shOk f g i n with
  | true =>
    show (vgetF f _ (2, 0)).n0 = _
    rw [sh_get hs, if_neg (key_ne (by decide) _ _), if_neg (key_ne (by decide) _ _), if_pos rfl]; rfl
  | false =>
    show (vgetF f _ (2, 0)).n0 = _
    rw [sh_no hs]
end
end Go.Proofs.YtbhpkjedkccdpaaDoor
