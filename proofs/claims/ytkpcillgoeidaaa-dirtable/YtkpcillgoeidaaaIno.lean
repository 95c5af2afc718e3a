
/- What find, Is, Type, Links, Size do when they are called; no conditions. -/
import Derived.Test.YtkpcillgoeidaaaBit
import Derived.Test.YtkpcillgoeidaaaVw
namespace Go.Proofs.Ytkpcillgoeidaaa
open Go.RowKit
set_option maxRecDepth 100000
set_option linter.unusedSimpArgs false

def findV (f : StF) (g : VwF) (i : Int) : V := if 1 ≤ i ∧ i < 16 then (if (vgetF f g (10, i)).n0 = 0 then zeroV else vgetF f g (10, i)) else zeroV
def findT (g : VwF) (i : Int) : VwF := if 1 ≤ i ∧ i < 16 then vgetT g (10, i) else g
def isI (f : StF) (g : VwF) (i : Int) : Bool := decide ((findV f g i).n0 ≠ 0)

theorem results_two {fn : Func} {p q : Tmp} {ty : TypeId} (h : fn.results = #[.cell p ty, .tmp q]) (tmps : Array Value) (w : World) (g : Nat) (t : TypeId) (cs : List Value) (x : Value) (n : Nat) (W : IsWide ty n)
    (hp : tmps.getD p undef = .pointer (some ⟨g, 0, none⟩)) (hq : tmps.getD q undef = x) (hb : w.heap[g]? = some (.cells cs.toArray t (0, 0))) (hn : cs.length = n) :
    (results fn tmps).run Try.prog w = .ok (.tuple #[.agg cs.toArray, x]) w := by
  obtain ⟨d, hu, hd⟩ := W.desc
  have hl := run_loadVar_row (P := Try.prog) w g t ty cs.toArray (0, 0) d hb hu (by cases d <;> first | rfl | cases hd) (by rw [W.size]; simp [hn])
  have hp' : tmps[p]?.getD undef = .pointer (some ⟨g, 0, none⟩) := by simpa using hp
  have hq' : tmps[q]?.getD undef = x := by simpa using hq
  simp [results, h, hp', hq', asAddr, hl]

theorem find_w (q N p B : Nat) (f : StF) (g : VwF) (i : Int) (w : World) (h : ViewIn q N p g w) (hs : StoreIn p B f w) (hNB : N ≠ B) : Calls Try.prog 59 #[.pointer (some ⟨q, 0, none⟩), .int .i64 i] w
    fun e w' => e = .returned (.tuple #[vv (findV f g i), .bool (isI f g i)]) ∧ ViewIn q N p (findT g i) w' ∧ Kept (fun n => n = N) w w' := by
  obtain ⟨E, hE⟩ : ∃ E : Nat, w.heap.size = E := ⟨_, rfl⟩
  have hN : N < E := by have := h.map.lt; omega
  have hq : q < E := by have := lt_at h.cell; omega
  obtain ⟨wA, hA⟩ : ∃ wA, w.alloc (.cells (vc zeroV).toArray 64) = wA := ⟨_, rfl⟩
  have hkA : Kept (fun _ => False) w wA := by subst hA; exact (Kept.refl _ _).alloc _
  have hz : wA.heap[E]? = some (.cells (vc zeroV).toArray 64 (0, 0)) := by subst hA; exact alloc_at' _ hE
  rw [zero_cells] at hA
  have h1 := h.still hkA
  have hs1 := hs.still hkA
  clear h hs
  by_cases hr : 1 ≤ i ∧ i < 16
  · obtain ⟨r1, r2⟩ := hr
    have HV : Hid (findV f g i = (if (vgetF f g (10, i)).n0 = 0 then zeroV else vgetF f g (10, i)) ∧ findT g i = vgetT g (10, i)) := ⟨by unfold findV; rw [if_pos ⟨r1, r2⟩], by unfold findT; rw [if_pos ⟨r1, r2⟩]⟩
    go_enter Try.func59, Try.ntmps59
    go_wp2_with fail
    clear hA
    refine (object_w i _).mono ?_
    rintro e w1 ⟨rfl, hk1⟩
    go_wp2_with fail
    refine (vget_w q N p B f g 10 i w1 (h1.still hk1) (hs1.still hk1) hNB).mono ?_
    rintro e w2 ⟨rfl, hv2, hk2⟩
    have k2 : Kept (fun n => n = N) wA w2 := (hk1.mono (fun _ _ e => e.elim)).trans hk2 (fun _ _ e => e)
    have hz2 := k2.at hz (by omega)
    obtain ⟨F, hF⟩ : ∃ F : Nat, w2.heap.size = F := ⟨_, rfl⟩
    have lF : E < F := by have := lt_at hz2; omega
    clear hk1 hk2 h1 hs1
    generalize vgetF f g (10, i) = x at *
    have k3 : Kept (fun _ => False) w2 (w2.alloc (.cells (vc x).toArray 64)) := (Kept.refl _ _).alloc _
    have hF3 : (w2.alloc (.cells (vc x).toArray 64)).heap[F]? = some (.cells (vc x).toArray 64 (0, 0)) := alloc_at' _ hF
    have c0 : (w2.alloc (.cells (vc x).toArray 64)).cell? ⟨F, 0, none⟩ = some (.int .i64 x.n0) := cell_at hF3 rfl
    have hz3 := k3.at hz2 (fun x => x)
    by_cases h0 : x.n0 = 0
    · have hd : (x.n0 == 0) = true := by simp [h0]
      have HE : Hid (findV f g i = zeroV ∧ isI f g i = false) := by
        have : findV f g i = zeroV := by rw [HV.out.1, if_pos h0]
        exact ⟨this, by unfold isI; rw [this]; rfl⟩
      clear h0
      go_wp2_with (first | (refine list_wnew rfl wide_V _ _ rfl F rfl (vc x) rfl _ rfl hF rfl (vc_one _) ?_) | (refine list_wstore rfl wide_V _ _ rfl E rfl (vc zeroV) rfl hz3 rfl rfl (vc_one _) ?_))
      have hz6 := setRow_at hz3 (vc zeroV).toArray
      have hk6 := kept_setRow (w2.alloc (.cells (vc x).toArray 64)) E (vc zeroV).toArray
      refine bodyPost_ret (results_two Try.results59 _ _ E _ _ _ _ wide_V rfl rfl hz6 rfl) rfl ⟨by rw [HE.out.1, HE.out.2]; rfl, by rw [HV.out.2]; exact (hv2.still k3).kept hk6 (by omega) (by omega), ?_⟩
      exact ((hkA.mono (fun _ _ e => e.elim)).trans k2 (fun _ _ e => e)).trans ((k3.mono (Y := fun n => n = E) (fun _ _ e => e.elim)).trans hk6 (fun _ _ e => e)) (fun k h1 h2 => by omega)
    · have hd : (x.n0 == 0) = false := by simp [h0]
      have HE : Hid (findV f g i = x ∧ isI f g i = true) := by
        have : findV f g i = x := by rw [HV.out.1, if_neg h0]
        exact ⟨this, by unfold isI; rw [this]; simpa using h0⟩
      clear h0
      have hr := whole_range hF3
      go_wp2_with (first | (refine list_wnew rfl wide_V _ _ rfl F rfl (vc x) rfl _ rfl hF rfl (vc_one _) ?_) | (refine list_wload rfl wide_V _ rfl F 0 rfl (vc x) hr rfl ?_) | (refine list_wstore rfl wide_V _ _ rfl E rfl (vc x) rfl hz3 rfl rfl (vc_one _) ?_))
      have hz6 := setRow_at hz3 (vc x).toArray
      have hk6 := kept_setRow (w2.alloc (.cells (vc x).toArray 64)) E (vc x).toArray
      refine bodyPost_ret (results_two Try.results59 _ _ E _ _ _ _ wide_V rfl rfl hz6 rfl) rfl ⟨by rw [HE.out.1, HE.out.2]; rfl, by rw [HV.out.2]; exact (hv2.still k3).kept hk6 (by omega) (by omega), ?_⟩
      exact ((hkA.mono (fun _ _ e => e.elim)).trans k2 (fun _ _ e => e)).trans ((k3.mono (Y := fun n => n = E) (fun _ _ e => e.elim)).trans hk6 (fun _ _ e => e)) (fun k h1 h2 => by omega)
  · have HV : Hid (findV f g i = zeroV ∧ findT g i = g ∧ isI f g i = false) := by
      have h1 : findV f g i = zeroV := by unfold findV; rw [if_neg hr]
      exact ⟨h1, by unfold findT; rw [if_neg hr], by unfold isI; rw [h1]; rfl⟩
    have hz6 := setRow_at hz (vc zeroV).toArray
    have hk6 := kept_setRow wA E (vc zeroV).toArray
    by_cases hr1 : i < 1
    · clear hr
      go_enter Try.func59, Try.ntmps59
      go_wp2_with (first | (refine list_wstore rfl wide_V _ _ rfl E rfl (vc zeroV) rfl hz rfl rfl (vc_one _) ?_))
      refine bodyPost_ret (results_two Try.results59 _ _ E _ _ _ _ wide_V rfl rfl hz6 rfl) rfl ⟨by rw [HV.out.1, HV.out.2.2]; rfl, by rw [HV.out.2.1]; exact h1.kept hk6 (by omega) (by omega), ?_⟩
      exact (hkA.mono (fun _ _ e => e.elim)).trans hk6 (fun k h1 h2 => by omega)
    · have hr2 : 16 ≤ i := by omega
      clear hr
      go_enter Try.func59, Try.ntmps59
      go_wp2_with (first | (refine list_wstore rfl wide_V _ _ rfl E rfl (vc zeroV) rfl hz rfl rfl (vc_one _) ?_))
      refine bodyPost_ret (results_two Try.results59 _ _ E _ _ _ _ wide_V rfl rfl hz6 rfl) rfl ⟨by rw [HV.out.1, HV.out.2.2]; rfl, by rw [HV.out.2.1]; exact h1.kept hk6 (by omega) (by omega), ?_⟩
      exact (hkA.mono (fun _ _ e => e.elim)).trans hk6 (fun k h1 h2 => by omega)

theorem type_w (q N p B : Nat) (f : StF) (g : VwF) (i : Int) (w : World) (h : ViewIn q N p g w) (hs : StoreIn p B f w) (hNB : N ≠ B) : Calls Try.prog 28 #[.pointer (some ⟨q, 0, none⟩), .int .i64 i] w
    fun e w' => e = .returned (.int .i64 (findV f g i).n0) ∧ ViewIn q N p (findT g i) w' ∧ Kept (fun n => n = N) w w' := by
  go_enter Try.func28, Try.ntmps28
  go_wp2_with fail
  refine (find_w q N p B f g i w h hs hNB).mono ?_
  rintro e w1 ⟨rfl, hv, hk⟩
  obtain ⟨F, hF⟩ : ∃ F : Nat, w1.heap.size = F := ⟨_, rfl⟩
  have hv2 : ViewIn q N p (findT g i) (w1.alloc (.cells (vc (findV f g i)).toArray 64)) := hv.still ((Kept.refl _ _).alloc _)
  have hk2 : Kept (fun n => n = N) w (w1.alloc (.cells (vc (findV f g i)).toArray 64)) := hk.alloc _
  have c0 : (w1.alloc (.cells (vc (findV f g i)).toArray 64)).cell? ⟨F, 0, none⟩ = some (.int .i64 (findV f g i).n0) := cell_at (alloc_at' _ hF) rfl
  go_wp2_with (first | (refine list_wnew rfl wide_V _ _ rfl F rfl (vc (findV f g i)) rfl _ rfl hF rfl (vc_one _) ?_))
  go_ret
  exact ⟨rfl, hv2, hk2⟩

theorem size_w (q N p B : Nat) (f : StF) (g : VwF) (i : Int) (w : World) (h : ViewIn q N p g w) (hs : StoreIn p B f w) (hNB : N ≠ B) : Calls Try.prog 26 #[.pointer (some ⟨q, 0, none⟩), .int .i64 i] w
    fun e w' => e = .returned (.int .i64 (findV f g i).s.size) ∧ ViewIn q N p (findT g i) w' ∧ Kept (fun n => n = N) w w' := by
  go_enter Try.func26, Try.ntmps26
  go_wp2_with fail
  refine (find_w q N p B f g i w h hs hNB).mono ?_
  rintro e w1 ⟨rfl, hv, hk⟩
  obtain ⟨F, hF⟩ : ∃ F : Nat, w1.heap.size = F := ⟨_, rfl⟩
  have hv2 : ViewIn q N p (findT g i) (w1.alloc (.cells (vc (findV f g i)).toArray 64)) := hv.still ((Kept.refl _ _).alloc _)
  have hk2 : Kept (fun n => n = N) w (w1.alloc (.cells (vc (findV f g i)).toArray 64)) := hk.alloc _
  have c0 : (w1.alloc (.cells (vc (findV f g i)).toArray 64)).cell? ⟨F, 16, none⟩ = some (.string (findV f g i).s) := cell_at (alloc_at' _ hF) rfl
  go_wp2_with (first | (refine list_wnew rfl wide_V _ _ rfl F rfl (vc (findV f g i)) rfl _ rfl hF rfl (vc_one _) ?_))
  go_ret
  exact ⟨rfl, hv2, hk2⟩

end Go.Proofs.Ytkpcillgoeidaaa
