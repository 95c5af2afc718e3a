
/- What the code's open files do when they are called, fifth part: Stat; as a statement holds them, through one view; no conditions. -/
import Derived.Test.YtdgkhfhlbjpaoaaFiD
import Derived.Test.YtdgkhfhlbjpaoaaPiK
namespace Go.Proofs.Ytdgkhfhlbjpaoaa
open Go.RowKit
set_option maxRecDepth 100000
set_option linter.unusedSimpArgs false

theorem wide_S : IsWide 60 4 := ⟨⟨_, Try.underlying60, rfl⟩, by kernel_rfl⟩
def sc (t i l z : Int) : List Value := [.int .i64 t, .int .i64 i, .int .i64 l, .int .i64 z]
theorem sc_one (t i l z : Int) : ∀ v ∈ sc t i l z, v.oneCell' = true := by intro v hv; simp [sc] at hv; rcases hv with rfl | rfl | rfl | rfl <;> rfl
def stV (R : StO) : Value := .tuple #[.agg (sc R.t R.i R.l R.z).toArray, .bool R.b]

set_option maxHeartbeats 1000000 in
theorem fst_w (q N p B : Nat) (f : StF) (g : VwF) (i : Int) (w : World) (h : ViewIn q N p g w) (hs : StoreIn p B f w) (hNB : N ≠ B) : Calls Try.prog 25 #[.pointer (some ⟨q, 0, none⟩), .int .i64 i] w
    fun e w' => e = .returned (stV (fst f g i)) ∧ ViewIn q N p (fst f g i).g w' ∧ Kept (fun n => n = N) w w' := by
  have hN : N < w.heap.size := h.map.lt
  have hq : q < w.heap.size := lt_at h.cell
  have hpN : p ≠ N := h.map.off hs.cell
  have hsk : ∀ w', Kept (fun n => n = N) w w' → StoreIn p B f w' := fun w' hk => hs.kept hk hpN (fun e => hNB e.symm)
  obtain ⟨E, hE⟩ : ∃ E : Nat, w.heap.size = E := ⟨_, rfl⟩
  obtain ⟨wA, hA⟩ : ∃ wA, w.alloc (.cells (sc 0 0 0 0).toArray 60) = wA := ⟨_, rfl⟩
  have hkA : Kept (fun _ => False) w wA := by subst hA; exact (Kept.refl _ _).alloc _
  have hz : wA.heap[E]? = some (.cells (sc 0 0 0 0).toArray 60 (0, 0)) := by subst hA; exact alloc_at' _ hE
  have hv0 := h.still hkA
  have hs0 := hs.still hkA
  have lE : E < wA.heap.size := lt_at hz
  rw [show (sc 0 0 0 0).toArray = #[.int .i64 0, .int .i64 0, .int .i64 0, .int .i64 0] from rfl] at hA
  have KA : Kept (fun n => n = N) w wA := hkA.mono (fun _ _ e => e.elim)
  clear h hs
  cases hP : isO f g i with
  | false =>
    have HE : Hid (fst f g i = ⟨0, 0, 0, 0, false, isOT g i⟩) := by show _ = _; unfold fst; rw [hP]; rfl
    go_enter Try.func25, Try.ntmps25
    go_wp2_with fail
    refine (fis_w q N p B f g i wA hv0 hs0 hNB).mono ?_
    rintro e w1 ⟨rfl, hv1, hk1⟩
    rw [hP]
    have hz1 := hk1.at hz (by show ¬ E = N; omega)
    have K1 := KA.trans hk1 (fun _ _ e => e)
    clear hv0 hs0 hA hz hsk
    go_wp2_with (first | (refine list_wstore rfl wide_S _ _ rfl E rfl (sc 0 0 0 0) rfl hz1 rfl rfl (sc_one _ _ _ _) ?_))
    have hz6 := setRow_at hz1 (sc 0 0 0 0).toArray
    have hk6 := kept_setRow w1 E (sc 0 0 0 0).toArray
    refine bodyPost_ret (results_two Try.results25 _ _ E _ _ _ _ wide_S rfl rfl hz6 rfl) rfl ⟨by rw [HE.out]; rfl, by rw [HE.out]; exact hv1.kept hk6 (by omega) (by omega), ?_⟩
    exact K1.trans hk6 (fun k h1 h2 => by omega)
  | true =>
    have HE0 : Hid (fst f g i = if (filV f g i).n0 = 1 then (if isI f (lkT g i) (filV f g i).n2 = true then
      ⟨(findV f (lkT g i) (filV f g i).n2).n0, (filV f g i).n2, (findV f (lkT g i) (filV f g i).n2).n1, ((findV f (lkT g i) (filV f g i).n2).s.size : Nat), true, findT (lkT g i) (filV f g i).n2⟩
      else ⟨0, 0, 0, 0, false, findT (lkT g i) (filV f g i).n2⟩) else ⟨0, 0, 0, 0, false, lkT g i⟩) := by show _ = _; unfold fst; rw [hP, if_pos rfl]
    have hpv : vgetF f (isOT g i) (6, i) = filV f g i := get_isOT (f := f) (g := g) i (6, i)
    go_enter Try.func25, Try.ntmps25
    go_wp2_with fail
    refine (fis_w q N p B f g i wA hv0 hs0 hNB).mono ?_
    rintro e w1 ⟨rfl, hv1, hk1⟩
    rw [hP]
    clear hv0 hs0 hA
    go_wp2_with fail
    refine (fobject_w i _).mono ?_
    rintro e w2 ⟨rfl, hk2⟩
    have KA2 : Kept (fun n => n = N) wA w2 := hk1.trans hk2 (fun _ _ e => e.elim)
    go_wp2_with fail
    refine (vget_w q N p B f (isOT g i) 6 i w2 (hv1.still hk2) (hsk _ (KA.trans KA2 (fun _ _ e => e))) hNB).mono ?_
    rintro e w3 ⟨rfl, hv3, hk3⟩
    rw [hpv]
    clear hpv hk1 hk2 hv1
    generalize filV f g i = x at *
    have KA3 : Kept (fun n => n = N) wA w3 := KA2.trans hk3 (fun _ _ e => e)
    have hv3 : ViewIn q N p (lkT g i) w3 := hv3
    clear KA2 hk3
    obtain ⟨F, hF⟩ : ∃ F : Nat, w3.heap.size = F := ⟨_, rfl⟩
    have lF : wA.heap.size ≤ F := by have := KA3.size; omega
    obtain ⟨w4, h4⟩ : ∃ w4, w3.alloc (.cells (vc x).toArray 51) = w4 := ⟨_, rfl⟩
    have hF4 : w4.heap[F]? = some (.cells (vc x).toArray 51 (0, 0)) := by subst h4; exact alloc_at' _ hF
    have k34 : Kept (fun _ => False) w3 w4 := by subst h4; exact (Kept.refl _ _).alloc _
    have hv4 := hv3.still k34
    have KA4 : Kept (fun n => n = N) wA w4 := KA3.trans k34 (fun _ _ e => e.elim)
    have K4 : Kept (fun n => n = N) w w4 := KA.trans KA4 (fun _ _ e => e)
    have hz4 := KA4.at hz (by show ¬ E = N; omega)
    clear hv3 KA3 k34 hz
    have c0 : w4.cell? ⟨F, 0, none⟩ = some (.int .i64 x.n0) := cell_at hF4 rfl
    have c2 : w4.cell? ⟨F, 2, none⟩ = some (.int .i64 x.n2) := cell_at hF4 rfl
    by_cases q1 : x.n0 = 1
    · have t1 : (x.n0 != 1) = false := by simpa using q1
      have HE1 := HE0.out
      rw [if_pos q1] at HE1
      have hff := find_find f (lkT g i) x.n2 x.n2
      have hfa := find_again (lkT g i) x.n2
      cases hI : isI f (lkT g i) x.n2 with
      | false =>
        rw [hI] at HE1
        have HE : Hid (fst f g i = ⟨0, 0, 0, 0, false, findT (lkT g i) x.n2⟩) := by show _ = _; rw [HE1]; rfl
        clear HE0 HE1 q1
        go_wp2_with (first | (refine list_wnew rfl wide_V _ _ rfl F rfl (vc x) rfl _ rfl hF rfl (vc_one _) ?_))
        refine (is_w q N p B f (lkT g i) x.n2 w4 hv4 (hsk _ K4) hNB).mono ?_
        rintro e w5 ⟨rfl, hv5, hk5⟩
        rw [hI]
        have hz1 := hk5.at hz4 (by show ¬ E = N; omega)
        have K5 := K4.trans hk5 (fun _ _ e => e)
        clear hv4 hsk hff hfa
        go_wp2_with (first | (refine list_wstore rfl wide_S _ _ rfl E rfl (sc 0 0 0 0) rfl hz1 rfl rfl (sc_one _ _ _ _) ?_))
        have hz6 := setRow_at hz1 (sc 0 0 0 0).toArray
        have hk6 := kept_setRow w5 E (sc 0 0 0 0).toArray
        refine bodyPost_ret (results_two Try.results25 _ _ E _ _ _ _ wide_S rfl rfl hz6 rfl) rfl ⟨by rw [HE.out]; rfl, by rw [HE.out]; exact hv5.kept hk6 (by omega) (by omega), ?_⟩
        exact K5.trans hk6 (fun k h1 h2 => by omega)
      | true =>
        rw [hI, if_pos rfl] at HE1
        have HE : Hid (fst f g i = _) := HE1
        clear HE0 HE1 q1
        go_wp2_with (first | (refine list_wnew rfl wide_V _ _ rfl F rfl (vc x) rfl _ rfl hF rfl (vc_one _) ?_))
        refine (is_w q N p B f (lkT g i) x.n2 w4 hv4 (hsk _ K4) hNB).mono ?_
        rintro e w5 ⟨rfl, hv5, hk5⟩
        rw [hI]
        have K5 := K4.trans hk5 (fun _ _ e => e)
        go_wp2_with fail
        refine (type_w q N p B f (findT (lkT g i) x.n2) x.n2 w5 hv5 (hsk _ K5) hNB).mono ?_
        rintro e w6 ⟨rfl, hv6, hk6⟩
        rw [hff]
        rw [hfa] at hv6
        have K6 := K5.trans hk6 (fun _ _ e => e)
        go_wp2_with fail
        refine (links_w q N p B f (findT (lkT g i) x.n2) x.n2 w6 hv6 (hsk _ K6) hNB).mono ?_
        rintro e w7 ⟨rfl, hv7, hk7⟩
        rw [hff]
        rw [hfa] at hv7
        have K7 := K6.trans hk7 (fun _ _ e => e)
        go_wp2_with fail
        refine (size_w q N p B f (findT (lkT g i) x.n2) x.n2 w7 hv7 (hsk _ K7) hNB).mono ?_
        rintro e w8 ⟨rfl, hv8, hk8⟩
        rw [hff]
        rw [hfa] at hv8
        have K8 := K7.trans hk8 (fun _ _ e => e)
        have hz1 := (((hk5.trans hk6 (fun _ _ e => e)).trans hk7 (fun _ _ e => e)).trans hk8 (fun _ _ e => e)).at hz4 (by show ¬ E = N; omega)
        clear hv4 hsk hff hfa hk5 hk6 hk7 hk8 hv5 hv6 hv7
        generalize (findV f (lkT g i) x.n2).n0 = a0 at *
        generalize (findV f (lkT g i) x.n2).n1 = a1 at *
        generalize (findV f (lkT g i) x.n2).s.size = a2 at *
        go_wp2_with (first | (refine list_wstore rfl wide_S _ _ rfl E rfl (sc a0 x.n2 a1 a2) rfl hz1 rfl rfl (sc_one _ _ _ _) ?_))
        have hz6 := setRow_at hz1 (sc a0 x.n2 a1 a2).toArray
        have hk6 := kept_setRow w8 E (sc a0 x.n2 a1 a2).toArray
        refine bodyPost_ret (results_two Try.results25 _ _ E _ _ _ _ wide_S rfl rfl hz6 rfl) rfl ⟨by rw [HE.out]; rfl, by rw [HE.out]; exact hv8.kept hk6 (by omega) (by omega), ?_⟩
        exact K8.trans hk6 (fun k h1 h2 => by omega)
    · have t1 : (x.n0 != 1) = true := by simpa using q1
      have HE : Hid (fst f g i = ⟨0, 0, 0, 0, false, lkT g i⟩) := by show _ = _; rw [HE0.out, if_neg q1]
      clear HE0 q1
      go_wp2_with (first | (refine list_wnew rfl wide_V _ _ rfl F rfl (vc x) rfl _ rfl hF rfl (vc_one _) ?_) | (refine list_wstore rfl wide_S _ _ rfl E rfl (sc 0 0 0 0) rfl hz4 rfl rfl (sc_one _ _ _ _) ?_))
      have hz6 := setRow_at hz4 (sc 0 0 0 0).toArray
      have hk6 := kept_setRow w4 E (sc 0 0 0 0).toArray
      refine bodyPost_ret (results_two Try.results25 _ _ E _ _ _ _ wide_S rfl rfl hz6 rfl) rfl ⟨by rw [HE.out]; rfl, by rw [HE.out]; exact hv4.kept hk6 (by omega) (by omega), ?_⟩
      exact K4.trans hk6 (fun k h1 h2 => by omega)

section
variable {w0 : World} {T p B q N : Nat} {g g' : VwF} {w w' : World}
theorem side_fis (h : SideIn w0 T p B q N g w) (i : Int) : Calls Try.prog 16 #[.pointer (some ⟨q, 0, none⟩), .int .i64 i] w
    fun e w' => e = .returned (.bool (isO f0 g i)) ∧ SideIn w0 T p B q N (isOT g i) w' ∧ Kept (fun n => n = N) w w' := by
  refine (fis_w q N p B f0 g i w h.v h.s h.ne).mono ?_
  rintro e w1 ⟨rfl, hv, hk⟩
  exact ⟨rfl, h.put hv (h.sm.isOT i) hk, hk⟩
theorem side_opn (h : SideIn w0 T p B q N g w) (kind what mode : Int) : Calls Try.prog 11 #[.pointer (some ⟨q, 0, none⟩), .int .i64 kind, .int .i64 what, .int .i64 mode] w
    fun e w' => e = .returned (opnV (opnA f0 g)) ∧ SideIn w0 T p B q N (opnT f0 g kind what mode) w' ∧ Kept (fun n => n = N) w w' := by
  refine (opn_w q N p B f0 g kind what mode w h.v h.s h.ne).mono ?_
  rintro e w1 ⟨rfl, hv, hk⟩
  exact ⟨rfl, h.put hv (h.sm.opn kind what mode) hk, hk⟩
theorem side_dup (h : SideIn w0 T p B q N g w) (i : Int) : Calls Try.prog 13 #[.pointer (some ⟨q, 0, none⟩), .int .i64 i] w
    fun e w' => e = .returned (.bool (isO f0 g i)) ∧ SideIn w0 T p B q N (dupT f0 g i) w' ∧ Kept (fun n => n = N) w w' := by
  refine (dup_w q N p B f0 g i w h.v h.s h.ne).mono ?_
  rintro e w1 ⟨rfl, hv, hk⟩
  exact ⟨rfl, h.put hv (h.sm.dup i) hk, hk⟩
theorem side_cls (h : SideIn w0 T p B q N g w) (i : Int) : Calls Try.prog 14 #[.pointer (some ⟨q, 0, none⟩), .int .i64 i] w
    fun e w' => e = .returned (.bool (isO f0 g i)) ∧ SideIn w0 T p B q N (clsT f0 g i) w' ∧ Kept (fun n => n = N) w w' := by
  refine (cls_w q N p B f0 g i w h.v h.s h.ne).mono ?_
  rintro e w1 ⟨rfl, hv, hk⟩
  exact ⟨rfl, h.put hv (h.sm.cls i) hk, hk⟩
theorem side_frd (h : SideIn w0 T p B q N g w) (i n : Int) : Calls Try.prog 12 #[.pointer (some ⟨q, 0, none⟩), .int .i64 i, .int .i64 n] w
    fun e w' => e = .returned (rdV (frd f0 g i n)) ∧ SideIn w0 T p B q N (frd f0 g i n).g w' ∧ Kept (fun n => n = N) w w' := by
  refine (frd_w q N p B f0 g i n w h.v h.s h.ne h.sm).mono ?_
  rintro e w1 ⟨rfl, hv, hk⟩
  exact ⟨rfl, h.put hv (h.sm.frd i n) hk, hk⟩
theorem side_fwr (h : SideIn w0 T p B q N g w) (i : Int) (d : ByteArray) (hd : d.size ≤ 1000000) : Calls Try.prog 15 #[.pointer (some ⟨q, 0, none⟩), .int .i64 i, .string d] w
    fun e w' => e = .returned (wrV (fwr f0 g i d)) ∧ SideIn w0 T p B q N (fwr f0 g i d).g w' ∧ Kept (fun n => n = N) w w' := by
  refine (fwr_w q N p B f0 g i d w h.v h.s h.ne h.sm hd).mono ?_
  rintro e w1 ⟨rfl, hv, hk⟩
  exact ⟨rfl, h.put hv (h.sm.fwr i d) hk, hk⟩
theorem side_fst (h : SideIn w0 T p B q N g w) (i : Int) : Calls Try.prog 25 #[.pointer (some ⟨q, 0, none⟩), .int .i64 i] w
    fun e w' => e = .returned (stV (fst f0 g i)) ∧ SideIn w0 T p B q N (fst f0 g i).g w' ∧ Kept (fun n => n = N) w w' := by
  refine (fst_w q N p B f0 g i w h.v h.s h.ne).mono ?_
  rintro e w1 ⟨rfl, hv, hk⟩
  exact ⟨rfl, h.put hv (h.sm.fst i) hk, hk⟩
theorem side_vget (h : SideIn w0 T p B q N g w) (x y : Int) : Calls Try.prog 23 #[.pointer (some ⟨q, 0, none⟩), .agg #[.int .i64 x, .int .i64 y]] w
    fun e w' => e = .returned (vv (vgetF f0 g (x, y))) ∧ SideIn w0 T p B q N (vgetT g (x, y)) w' ∧ Kept (fun n => n = N) w w' := by
  refine (vget_w q N p B f0 g x y w h.v h.s h.ne).mono ?_
  rintro e w1 ⟨rfl, hv, hk⟩
  exact ⟨rfl, h.put hv (h.sm.get _) hk, hk⟩
theorem side_vput (h : SideIn w0 T p B q N g w) (x y : Int) (v : V) (hs : v.s.size ≤ 200) : Calls Try.prog 24 #[.pointer (some ⟨q, 0, none⟩), .agg #[.int .i64 x, .int .i64 y], vv v] w
    fun e w' => e = .returned (.tuple #[]) ∧ SideIn w0 T p B q N (vputT g (x, y) v) w' ∧ Kept (fun n => n = N) w w' := by
  refine (vput_w q N p g x y v w h.v).mono ?_
  rintro e w1 ⟨rfl, hv, hk⟩
  exact ⟨rfl, h.put hv (h.sm.put _ hs) hk, hk⟩
end
end Go.Proofs.Ytdgkhfhlbjpaoaa
