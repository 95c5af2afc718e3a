/- What slices.Delete does with a row of the call's own, of one place; no conditions but the row's own. -/
import Derived.Test.YtkmfeenooidbhaaTake
import Derived.Lib.SliceRun
namespace Go.Proofs.Ytkmfeenooidbhaa
open Go.RowKit

/-- Cells of one block written, one behind the other. -/
theorem heap_setCells {g : Nat} {t : TypeId} : ∀ (vs : List Value) (o : Nat) {w : World} {cs : Array Value}, w.heap[g]? = some (.cells cs t (0, 0)) → o + vs.length ≤ cs.size →
    ∃ cs' : Array Value, (w.setCells g o vs).heap[g]? = some (.cells cs' t (0, 0)) ∧ cs'.size = cs.size ∧ cs'.toList = cs.toList.take o ++ vs ++ cs.toList.drop (o + vs.length) ∧ Kept (fun k => k = g) w (w.setCells g o vs) := by
  intro vs
  induction vs with
  | nil => intro o w cs h ho; exact ⟨cs, h, rfl, by simp, Kept.refl _ _⟩
  | cons v vs ih =>
    intro o w cs h ho
    have hlen : o + 1 + vs.length ≤ cs.size := by simp at ho; omega
    obtain ⟨cs', h1, h2, h3, h4⟩ := ih (o + 1) (set_at h o v) (by simpa using hlen)
    refine ⟨cs', h1, by simpa using h2, ?_, ?_⟩
    · rw [h3]
      have ho' : o < cs.toList.length := by simp; omega
      simp only [Array.toList_setIfInBounds, List.length_cons]
      generalize cs.toList = l at ho'
      have e1 : (l.set o v).take (o + 1) = l.take o ++ [v] := by
        rw [List.set_eq_take_append_cons_drop, if_pos ho', List.take_append]
        simp [List.length_take, Nat.min_eq_left (Nat.le_of_lt ho'), List.take_take]
      have e2 : (l.set o v).drop (o + 1 + vs.length) = l.drop (o + (vs.length + 1)) := by
        rw [List.drop_set_of_lt (by omega)]
        congr 1
        omega
      rw [e1, e2]
      simp
    · refine Kept.trans ?_ h4 (fun _ _ e => e)
      refine Kept.setCell (Kept.refl _ _) ?_ _
      intro _; rfl

theorem zero_int : ∀ w : World, (zeroValue 3).run Try.prog w = .ok (.int .i64 0) w := fun _ => by kernel_rfl

set_option maxHeartbeats 1000000 in
theorem delete_w (g n cap i : Nat) (cs : Array Value) (l : List Int) (hl : l.length = n) (hi : i < n) (hn : n ≤ cap) (hs : cs.size = cap) (ht : cs.toList.take n = ints l) (w : World) (h : w.heap[g]? = some (.cells cs 3 (0, 0))) :
    Calls Try.prog 29 #[.slice (some ⟨g, 0, none⟩) n cap, .int .i64 i, .int .i64 (i + 1)] w fun e w' => e = .returned (.slice (some ⟨g, 0, none⟩) (n - 1) cap) ∧
      Kept (fun k => k = g) w w' ∧ ∃ cs' : Array Value, w'.heap[g]? = some (.cells cs' 3 (0, 0)) ∧ cs'.size = cap ∧ cs'.toList.take (n - 1) = ints (l.eraseIdx i) := by
  obtain ⟨i0, hi0, hz0, hz1, hz2⟩ := info_parts info_int
  obtain ⟨news, hnews⟩ : ∃ news, news = ints (l.drop (i + 1)) := ⟨_, rfl⟩
  have hlen : news.length = n - (i + 1) := by rw [hnews]; simp [ints, hl]
  have hcell : ∀ j, j < cap → ∃ v, w.cell? ⟨g, j, none⟩ = some v := fun j hj => ⟨cs[j], cell_at h (by simp [hs, hj])⟩
  have hget : ∀ t u, news[t]? = some u → w.cell? ⟨g, i + 1 + t, none⟩ = some u := by
    intro t u hu
    have ht1 : t < n - (i + 1) := by have := (List.getElem?_eq_some_iff.1 hu).1; omega
    refine cell_at h ?_
    rw [← Array.getElem?_toList]
    have e1 : (cs.toList.take n)[i + 1 + t]? = cs.toList[i + 1 + t]? := List.getElem?_take_of_lt (by omega)
    rw [← e1, ht, ← hu, hnews]
    simp [ints]
  obtain ⟨A, hA, hsrc⟩ : ∃ A : Addr, (if cap = i + 1 then some (⟨g, 0, none⟩ : Addr) else some ⟨g, i + 1, none⟩) = some A ∧ Hid (∀ t u, news[t]? = some u → w.drew.cell? (A.add t) = some u) := by
    by_cases e : cap = i + 1
    · refine ⟨⟨g, 0, none⟩, by simp [e], fun t u hu => ?_⟩
      have h0 : news.length = 0 := by rw [hlen]; omega
      rw [List.length_eq_zero_iff.1 h0] at hu
      simp at hu
    · refine ⟨⟨g, i + 1, none⟩, by simp [e], fun t u hu => ?_⟩
      rw [Addr.add_lit]
      exact hget t u hu
  have s1 : Hid (news.length = (n - (i + 1)) * 1) := by rw [Nat.mul_one]; exact hlen
  have s2 : Hid (∀ u ∈ news, u.oneCell' = true) := by
    intro u hu
    rw [hnews] at hu
    simp only [ints, List.mem_map] at hu
    obtain ⟨y, _, rfl⟩ := hu
    rfl
  have s3 : Hid (∀ t, t < news.length → (w.drew.cell? ⟨g, 0 + i * 1 + t, none⟩).isSome = true ∧ w.drew.frozen? ⟨g, 0 + i * 1 + t, none⟩ = false) := by
    intro t ht
    rw [hlen] at ht
    obtain ⟨v, hv⟩ := hcell (i + t) (by omega)
    rw [Nat.mul_one, Nat.zero_add]
    exact ⟨by show (w.cell? _).isSome = true; rw [hv]; rfl, free_at h _⟩
  obtain ⟨W1, hW1⟩ : ∃ W1, W1 = w.drew.setCells g (0 + i * 1) news := ⟨_, rfl⟩
  obtain ⟨cs1, g1, g2, g3, g4⟩ := heap_setCells (g := g) (t := 3) news i (w := w.drew) (cs := cs) h (by rw [hlen]; omega)
  rw [show i = 0 + i * 1 by omega, ← hW1] at g1 g4
  have hcl : ∀ ty, (Builtin.clear_ #[30] ty #[.slice (some ⟨g, i + (n - (i + 1)), none⟩) (n - (i + (n - (i + 1)))) (cap - (i + (n - (i + 1))))]).run Try.prog W1 = .ok (.tuple #[]) (W1.setCells g (i + (n - (i + 1))) (List.replicate (n - (i + (n - (i + 1)))) (.int .i64 0))) :=
    fun ty => Lib.run_clear_slice W1 _ _ ty _ Try.underlying30 zero_int rfl rfl g _ _ _ (by omega) (fun t ht => by
      rw [cell_at g1 (v := cs1[i + (n - (i + 1)) + t]'(by rw [g2, hs]; omega)) (by simp)]; rfl) (fun t ht => free_at g1 _)
  have hW : Hid (W1 = w.drew.setCells g (0 + i * 1) news) := hW1
  have G1 : Hid _ := g1
  have G3 : Hid _ := g3
  have G4 : Hid _ := g4
  have HT : Hid _ := ht
  have HE : Hid _ := hnews
  have hic : i ≤ cap := by omega
  have hjc : i + 1 ≤ cap := by omega
  have hjc' : (i : Int) + 1 ≤ (cap : Int) := by omega
  have hjn : (i : Int) + 1 ≤ (n : Int) := by omega
  have hj0 : (0 : Int) ≤ (i : Int) + 1 := by omega
  have hne : ((i : Int) == (i : Int) + 1) = false := by simp; omega
  clear hW1 g1 g3 g4 ht hnews hget hcell h
  go_enter Try.func29, Try.ntmps29
  go_wp2_with fail
  go_region_law (refine step_append_room rfl (.tmp 22) (.tmp 25) 30 rfl 3 i0 1 Try.underlying30 hi0 hz1 g 0 i cap (by simp [Act.eval, Act.put]) A (n - (i + 1)) (cap - (i + 1)) news (by simp [Act.eval, Act.put]) s1.out hsrc.out s2.out (by omega) s3.out ?_; rw [← hW.out])
  go_wp2
  go_ret
  have en : i + (n - (i + 1)) = n - 1 := by omega
  obtain ⟨cs2, q1, q2, q3, q4⟩ := heap_setCells (g := g) (t := 3) (List.replicate (n - (i + (n - (i + 1)))) (Value.int .i64 0)) (i + (n - (i + 1))) G1.out (by rw [g2, hs]; simp; omega)
  refine ⟨by rw [← en]; rfl, ?_, cs2, q1, by rw [q2, g2, hs], ?_⟩
  · exact Kept.trans (Kept.trans ((Kept.refl _ w).drew) G4.out (fun _ _ e => e)) q4 (fun _ _ e => e)
  · have hcl1 : cs1.toList.length = cap := by simp [g2, hs]
    have hcl0 : cs.toList.length = cap := by simp [hs]
    have e1 : cs.toList.take i = (ints l).take i := by rw [← HT.out, List.take_take, Nat.min_eq_left (by omega)]
    have e2 : cs2.toList.take (n - 1) = cs1.toList.take (n - 1) := by
      rw [q3, en, List.append_assoc, List.take_append_of_le_length (by simp [List.length_take]; omega), List.take_take, Nat.min_self]
    have e3 : (cs.toList.take i ++ news).length = n - 1 := by rw [List.length_append, hlen, List.length_take, hcl0]; omega
    rw [e2, G3.out, List.take_append_of_le_length (by omega), List.take_of_length_le (by omega), e1, HE.out, List.eraseIdx_eq_take_drop_succ, ints_app]
    simp [ints, List.map_take]

/-- Of a row that is owned. -/
theorem delete_own (base i : Nat) (v : Value) (l : List Int) (hi : i < l.length) (w : World) (h : w.ownsRow base 3 1 v l.length (ints l)) :
    Calls Try.prog 29 #[v, .int .i64 i, .int .i64 (i + 1)] w fun e w' => ∃ v', e = .returned v' ∧ v'.ownBlock = v.ownBlock ∧ Kept (fun k => v.ownBlock = some k) w w' ∧ w'.ownsRow base 3 1 v' (l.eraseIdx i).length (ints (l.eraseIdx i)) := by
  rcases h.2 with ⟨_, h0⟩ | ⟨g, cap, cur, rfl, hb, hg, hnc, hcm, hcs, htake⟩
  · omega
  · rw [Nat.mul_one] at hcs htake
    unfold maxLen at hcm
    refine (delete_w g l.length cap i cur l rfl hi hnc hcs htake w hg).mono ?_
    rintro e w' ⟨rfl, hk, cs', h1, h2, h3⟩
    have hlen : (l.eraseIdx i).length = l.length - 1 := by rw [List.length_eraseIdx, if_pos hi]
    refine ⟨_, rfl, rfl, hk.mono (fun k _ e => by subst e; rfl), by rw [ints_len]; omega, .inr ⟨g, cap, cs', by rw [hlen], hb, h1, by omega, by unfold maxLen; omega, by rw [h2]; omega, by rw [Nat.mul_one, hlen]; exact h3⟩⟩
end Go.Proofs.Ytkmfeenooidbhaa
