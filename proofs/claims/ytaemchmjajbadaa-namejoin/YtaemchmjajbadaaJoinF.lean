/- Names put together by slashes; no conditions. -/
import Derived.Test.YtaemchmjajbadaaRuns
namespace Go.Proofs.Ytaemchmjajbadaa

theorem cut_mid (a b s : Bs) : cutF (a ++ 47 :: b) s = cutF a s ++ cutF b [] := by
  induction a generalizing s with
  | nil => rw [List.nil_append, cut_slash, cut_nil]
  | cons x a ih =>
    by_cases h : x = 47
    · subst h
      rw [List.cons_append, cut_slash, cut_slash, ih, List.append_assoc]
    · rw [List.cons_append, cut_other h, cut_other h, ih]
theorem cut_whole {s : Bs} (h : (47 : UInt8) ∉ s) (t : Bs) : cutF s t = oneF (t ++ s) := by
  induction s generalizing t with
  | nil => rw [cut_nil, List.append_nil]
  | cons x s ih =>
    simp only [List.mem_cons, not_or] at h
    rw [cut_other (fun e => h.1 e.symm), ih h.2, List.append_assoc]; rfl
theorem cut_name {s : Bs} (h : rightF s = true) : cutF s [] = [s] ∧ cutF (s ++ [47]) [] = [s] := by
  obtain ⟨h1, _, h2, _⟩ := right_iff.1 h
  have e : cutF s [] = [s] := by
    rw [cut_whole h2, List.nil_append, oneF, if_neg (by rintro rfl; simp at h1)]
  refine ⟨e, ?_⟩
  rw [cut_mid, e]; rfl

/-- What is put together so far: own, and the path p, in i rounds. -/
def JoinedF (ab : Bool) (own : List Bs) (p : Bs) (i : Nat) : Prop :=
  cutF p [] = own ∧ (∀ x ∈ own, rightF x = true) ∧ p.length ≤ 1 + 12 * i ∧ own.length ≤ i ∧ (own = [] → p = if ab then [47] else []) ∧ (p[0]? = some 47 ↔ ab = true)

theorem joined_start (ab : Bool) : JoinedF ab [] (if ab then [47] else []) 0 := by
  cases ab
  · exact ⟨rfl, by simp, by simp, by simp, fun _ => rfl, by simp⟩
  · exact ⟨rfl, by simp, by simp, by simp, fun _ => rfl, by simp⟩

theorem joined_past {ab : Bool} {own : List Bs} {p : Bs} {i : Nat} (h : JoinedF ab own p i) : JoinedF ab own p (i + 1) :=
  ⟨h.1, h.2.1, by have := h.2.2.1; omega, by have := h.2.2.2.1; omega, h.2.2.2.2.1, h.2.2.2.2.2⟩

def gapF (own : List Bs) : Bs := if own = [] then [] else [47]

theorem joined_step {ab : Bool} {own : List Bs} {p s t : Bs} {i : Nat} (h : JoinedF ab own p i) (hs : rightF s = true) (hl : s.length ≤ 10) (ht : t = [] ∨ t = [47]) : JoinedF ab (own ++ [s]) (p ++ gapF own ++ s ++ t) (i + 1) := by
  obtain ⟨h1, h2, h3, h4, h5, h6⟩ := h
  have hct : cutF (s ++ t) [] = [s] := by
    rcases ht with rfl | rfl
    · rw [List.append_nil]; exact (cut_name hs).1
    · exact (cut_name hs).2
  have htl : t.length ≤ 1 := by rcases ht with rfl | rfl <;> simp
  have hr := right_iff.1 hs
  refine ⟨?_, ?_, ?_, ?_, fun e => absurd e (by simp), ?_⟩
  · unfold gapF
    by_cases ho : own = []
    · rw [if_pos ho, h5 ho, ho, List.append_nil, List.append_assoc]
      cases ab
      · simpa using hct
      · show cutF ([47] ++ (s ++ t)) [] = _
        rw [List.singleton_append, cut_slash, hct]; rfl
    · rw [if_neg ho, List.append_assoc, List.append_assoc, List.singleton_append, cut_mid, h1, hct]
  · intro x hx
    rcases List.mem_append.1 hx with h | h
    · exact h2 x h
    · simp at h; rw [h]; exact hs
  · have : (gapF own).length ≤ 1 := by unfold gapF; split <;> simp
    simp; omega
  · simp; omega
  · by_cases hp : p = []
    · have hab : ab = false := by
        cases ab with
        | false => rfl
        | true => rw [hp] at h6; simp at h6
      have ho : own = [] := by rw [← h1, hp]; rfl
      rw [hp, hab]
      unfold gapF
      rw [if_pos ho]
      cases s with
      | nil => simp at hr
      | cons x s =>
        have : x ≠ 47 := by
          intro e
          exact hr.2.2.1 (by simp [e])
        simp [this]
    · rw [← h6]
      cases p with
      | nil => exact absurd rfl hp
      | cons x p => simp

/-- Behind the last round. -/
theorem joined_end {ab : Bool} {own : List Bs} {p : Bs} {i : Nat} (h : JoinedF ab own p i) : (p = [] → okF p = false) ∧ (60 < p.length → okF p = false ∧ namesF p = []) ∧ (p ≠ [] → p.length ≤ 60 → okF p = true ∧ namesF p = own ∧ absF p = ab) := by
  obtain ⟨h1, h2, h3, h4, h5, h6⟩ := h
  refine ⟨fun e => ok_no (by rw [e]; simp), fun e => ?_, fun e hl => ?_⟩
  · have hk := ok_no (l := p) (by omega)
    exact ⟨hk, (names_no hk).1⟩
  · have hne : 1 ≤ p.length := by cases p with | nil => exact absurd rfl e | cons x p => simp
    have hk := ok_yes ⟨hne, hl⟩ (by rw [h1]; exact h2)
    obtain ⟨e1, e2⟩ := names_yes hk
    refine ⟨hk, by rw [e1, h1], ?_⟩
    rw [e2, Bool.eq_iff_iff, decide_eq_true_eq]
    exact h6
end Go.Proofs.Ytaemchmjajbadaa
