/- Rows within rows: the functions that the statement hands to Run and Guard; no conditions but the rows' own. -/
import Derived.Test.YtimjhjlgnoiimaaFs
namespace Go.Proofs.Ytimjhjlgnoiimaa
open Go.RowKit

theorem info_func' : (Try.prog.info? 1).map (fun i => (i.zero, i.size, i.bytes)) = some (some .nilFunc, 1, 8) := by kernel_rfl

/-- A slice of deeds, as it lies. -/
structure Deeds (ao : Option Addr) (len b off : Nat) (K A : Nat → Int) (w : World) : Prop where
  addr : 0 < len → ao = some ⟨b, off, none⟩
  cells : ∀ i, i < len → w.cell? ⟨b, off + i * 2, none⟩ = some (.int .i64 (K i)) ∧ w.cell? ⟨b, off + i * 2 + 1, none⟩ = some (.int .i64 (A i))

theorem Deeds.kept {ao : Option Addr} {len b off : Nat} {K A : Nat → Int} {w w' : World} {X : Nat → Prop} (h : Deeds ao len b off K A w) (hk : Kept X w w') (hx : 0 < len → ¬ X b) : Deeds ao len b off K A w' :=
  ⟨h.addr, fun i hi => ⟨hk.cell (h.cells i hi).1 (hx (by omega)), hk.cell (h.cells i hi).2 (hx (by omega))⟩⟩

theorem Deeds.lt {ao : Option Addr} {len b off : Nat} {K A : Nat → Int} {w : World} (h : Deeds ao len b off K A w) (h0 : 0 < len) : b < w.heap.size := World.block_lt_of_cell? w _ (h.cells 0 h0).1

/-- What the inner row leaves. -/
def InnerLeft (K A : Nat → Int) (N sb ip fp : Nat) (w w' : World) : Prop :=
  ∃ (m : Nat) (s0 s1 : Int) (v' : Value), m ≤ N ∧ (∀ j, j < m → (outOf (K j) (A j)).stopped = false) ∧ (m < N → (outOf (K m) (A m)).stopped = true) ∧ (if m < N then (outOf (K m) (A m)).told else stopV 0 0) = stopV s0 s1 ∧
    w'.heap[ip]? = some (.cells #[.int .i64 m] 3 (0, 0)) ∧ w'.heap[fp]? = some (.cells #[.int .i64 s0, .int .i64 s1] 23 (0, 0)) ∧
    Seen sb v' (firsts (min (m + 1) N)) w' ∧ (∀ k, v'.ownBlock = some k → w.heap.size ≤ k) ∧ Kept (fun k => k = sb ∨ k = ip ∨ k = fp) w w'

set_option maxRecDepth 100000 in
set_option maxHeartbeats 800000 in
theorem nest_inner (ao : Option Addr) (len cap b off : Nat) (K A : Nat → Int) (lp sb ip fp N : Nat) (hN : N = min len 6) (w : World) (hc : Deeds ao len b off K A w)
    (hl : w.heap[lp]? = some (.cells #[.slice ao len cap] 32 (0, 0))) (hsb : w.heap[sb]? = some (.cells #[.slice none 0 0] 27 (0, 0))) (hip : w.heap[ip]? = some (.cells #[.int .i64 0] 3 (0, 0)))
    (hfp : w.heap[fp]? = some (.cells #[.int .i64 0, .int .i64 0] 23 (0, 0))) :
    Calls Try.prog 32 #[.pointer (some ⟨lp, 0, none⟩), .pointer (some ⟨sb, 0, none⟩), .pointer (some ⟨ip, 0, none⟩), .pointer (some ⟨fp, 0, none⟩)] w fun e w' => Out.done.ends e ∧ InnerLeft K A N sb ip fp w w' := by
  have hmf := makeF
  obtain ⟨i0, hi, hz0, hz1, hz2⟩ := info_parts info_func'
  have hN6 : N ≤ 6 := by omega
  have hNl : N ≤ len := by omega
  have hNA : len ≤ 6 → N = len := by omega
  have hNB : 6 < len → N = 6 := by omega
  clear hN
  have hcl := cell_at hl (i := 0) rfl
  go_enter Try.func32, Try.ntmps32
  go_wp2_with fail
  go_loopw [4, 5] (fun fs i wr => ∃ (k : Nat) (ps : List (Nat × Nat)), ps.length = k ∧ k ≤ N ∧ i = .int .i64 k ∧ FsInv 33 K A sb ps fs wr ∧ Kept (fun _ => False) w wr ∧ (∀ x, fs.ownBlock = some x → w.heap.size ≤ x))
    (fun _ i _ => N - (intOf i).toNat)
  case atStart => exact ⟨0, [], rfl, by omega, rfl, ⟨World.ownsRow_nil _ _ _ _, by simp, hsb⟩, Kept.refl _ _, by intro x e; simp [Value.ownBlock] at e⟩
  case round =>
    obtain ⟨k, ps, hps, hk, rfl, hI, hK, hB⟩ := hrel
    have hcr := hK.cell hcl (by simp)
    have HI : Hid _ := hI
    have HK : Hid _ := hK
    have HP : Hid _ := hps
    have HB : Hid _ := hB
    have HX : Hid (_ ∧ _ ∧ _) := ⟨hsb, hip, hfp⟩
    clear hB hcl hl hsb hip hfp
    by_cases hkN : k < N
    · have hkl : (k : Int) < (len : Int) := by omega
      have hk6 : (k : Int) < 6 := by omega
      obtain ⟨hc0, hc1⟩ := hc.cells k (by omega)
      have d0 := hK.cell hc0 (by simp)
      have d1 := hK.cell hc1 (by simp)
      obtain rfl := hc.addr (by omega)
      have hI2 := hI.kept0 (((Kept.refl _ wr).alloc (.cells #[.int .i64 (K k), .int .i64 (A k)] 35)).alloc (.cells #[.int .i64 k] 3))
      clear hI hK hps hc0 hc1 hc
      go_wp2_with (at_builtin; refine append_new _ rfl _ _ 33 rfl 1 i0 .nilFunc 8 Try.underlying33 hi hz0 hz1 hz2 rfl _ _ _ rfl (hI2.own.alloc _) ⟨wr.heap.size + 1 + 1, 0, none⟩ 1 (mkF 33 sb (wr.heap.size, wr.heap.size + 1)) rfl ?c1 rfl ?c3 ?c4 ?_)
      case c1 => exact cell_at (alloc_at' _ (by simp)) (i := 0) rfl
      case c3 => unfold maxLen; have := HP.out; omega
      case c4 => have := HP.out; omega
      intro g cp w1 hown hgr hg
      obtain ⟨I1, hof, hd, K1, hgw⟩ := fs_step HI.out HP.out HB.out HK.out hown hgr (by rcases hg with h | h; exact .inl h; exact .inr (by omega))
      clear hown hgr hg hI2 hof HI HB HK d0 d1 hd
      have HI : Hid _ := I1
      have HK : Hid _ := K1
      clear I1 K1
      go_wp2
      go_roundw
      case rel =>
        refine ⟨k + 1, _, ?_, by omega, by go_num, HI.out, HK.out, ?_⟩
        · simp [HP.out]
        · intro x e
          have : g = x := by simpa [Value.ownBlock] using e
          omega
      case measure => simp [intOf]; omega
    · have hkN' : k = N := by omega
      subst hkN'
      obtain ⟨ao', cp', rfl⟩ := hI.form
      clear hI hK hps
      go_wp2_with fail
      all_goals
        have hp : ps.length = k := HP.out
        clear HP hNA hNB hk hkN
        refine (run_deeds _ nest_fn K A sb ps _ wr HI.out (by omega)).mono ?_
        rintro e w1 ⟨m, hm1, hm2, hm3, rfl, hA⟩
        rw [hp] at hm1 hm3 hA ⊢
        obtain ⟨s0, s1, hss⟩ : ∃ s0 s1, (if m < k then (outOf (K m) (A m)).told else stopV 0 0) = stopV s0 s1 := by
          split
          · obtain ⟨a, b, h⟩ := told_agg (outOf (K m) (A m)); exact ⟨a, b, h⟩
          · exact ⟨0, 0, rfl⟩
        rw [hss]
        simp only [stopV]
        obtain ⟨hsb, hip, hfp⟩ := HX.out
        have ne1 : ip ≠ sb := by rintro rfl; rw [hsb] at hip; simp at hip
        have ne2 : fp ≠ sb := by rintro rfl; rw [hsb] at hfp; simp at hfp
        have ne3 : ip ≠ fp := by rintro rfl; rw [hip] at hfp; simp at hfp
        have ne3' : fp ≠ ip := Ne.symm ne3
        have i1 := hA.1.at (HK.out.at hip (by simp)) (by simp [Value.ownBlock, ne1])
        have f1 := hA.1.at (HK.out.at hfp (by simp)) (by simp [Value.ownBlock, ne2])
        have lip := lt_at hip
        have lfp := lt_at hfp
        have lsb := lt_at hsb
        have hKs := HK.out.size
        have HD : Hid (_ ∧ _ ∧ _ ∧ _) := ⟨hm2, hm3, hss, hA⟩
        have HE : Hid (_ ∧ _) := ⟨i1, f1⟩
        have c0 := cell_at i1 (i := 0) rfl
        have c1 := cell_at f1 (i := 0) rfl
        have c2 := cell_at f1 (i := 1) rfl
        have q0 := free_at i1 0
        have q1 := free_at f1 0
        have q2 := free_at f1 1
        clear hm2 hm3 hss hA i1 f1 hsb hip hfp HX hcr HI HB hc
        go_wp2
        go_end0
        obtain ⟨hm2, hm3, hss, hA⟩ := HD.out
        obtain ⟨i1, f1⟩ := HE.out
        obtain ⟨hA1, v', sv, rv⟩ := hA
        have k3 : Kept (fun x => x = ip ∨ x = fp) w1 (((w1.setCell ⟨ip, 0, none⟩ (.int .i64 m)).setCell ⟨fp, 0, none⟩ (.int .i64 s0)).setCell ⟨fp, 1, none⟩ (.int .i64 s1)) := by
          refine Kept.setCell (Kept.setCell (Kept.setCell (Kept.refl _ _) ?_ _) ?_ _) ?_ _
          · intro _; exact .inl rfl
          · intro _; exact .inr rfl
          · intro _; exact .inr rfl
        have hrow : ∀ x, v'.ownBlock = some x → wr.heap.size ≤ x := by
          intro x e
          rcases rv x e with h | h
          · simp [Value.ownBlock] at h
          · exact h
        refine ⟨rfl, m, s0, s1, v', hm1, hm2, hm3, hss, ?_, ?_, ?_, ?_, ?_⟩
        · rw [set_off _ ne3, set_off _ ne3]
          exact set_at i1 0 (.int .i64 m)
        · refine set_at (set_at (cs := #[.int .i64 0, .int .i64 0]) ?_ 0 (.int .i64 s0)) 1 (.int .i64 s1)
          rw [set_off _ ne3']
          exact f1
        · refine (show Seen sb v' (firsts (min (m + 1) k)) w1 from by simpa using sv).kept k3 (by omega) ?_
          intro x e h
          have := hrow x e
          omega
        · intro x e
          have := hrow x e
          omega
        · refine (HK.out.mono (fun _ _ h => h.elim)).trans (hA1.mono (Y := fun x => x = sb ∨ x = ip ∨ x = fp) ?_) (fun x _ h => h) |>.trans k3 (fun x _ h => .inr h)
          intro x _ h
          simp [Value.ownBlock] at h
          exact .inl h

theorem count_w (p : Nat) (x : Int) (hx : 0 ≤ x) (hx' : x ≤ 100) (w : World) (hp : w.heap[p]? = some (.cells #[.int .i64 x] 3 (0, 0))) :
    Calls Try.prog 34 #[.pointer (some ⟨p, 0, none⟩)] w fun e w' => Out.done.ends e ∧ (w'.heap[p]? = some (.cells #[.int .i64 (x + 1)] 3 (0, 0)) ∧ Kept (fun k => k = p) w w') := by
  have c0 := cell_at hp (i := 0) rfl
  have f0 := free_at hp 0
  have HP : Hid _ := hp
  clear hp
  go_enter Try.func34, Try.ntmps34
  go_wp2
  go_end0
  refine ⟨rfl, set_at HP.out 0 (.int .i64 (x + 1)), ?_⟩
  refine Kept.setCell (Kept.refl _ _) ?_ _
  intro _; rfl

/-- A guard of what turns some blocks alone. -/
theorem guard_kept (F : Nat) (cap : Array Value) (hF : Enters F) (o : Out) (X : Nat → Prop) (S : World → Prop) (w : World) (hX : ∀ k, X k → k < w.heap.size) (hS : ∀ w1 w2, S w1 → Kept X (inGuard w) w1 → Kept (fun k => k = w.heap.size ∨ k = w.heap.size + 1) w1 w2 → S w2)
    (h : Calls Try.prog F cap (inGuard w) fun e w' => o.ends e ∧ (S w' ∧ Kept X (inGuard w) w')) :
    Calls Try.prog 8 #[.func (.func F) #[] cap] w fun e w' => e = .returned (.tuple #[o.told, .bool o.stopped]) ∧ S w' ∧ Kept X w w' := by
  refine (guard_w _ o (fun w' => S w' ∧ Kept X (inGuard w) w') w ((run_w F cap hF o _ _ h).mono ?_)).mono ?_
  · rintro e w' ⟨he, hs, hk⟩
    exact ⟨he, ⟨hs, hk⟩, hk.at (inGuard0 w) (fun x => by have := hX _ x; omega), hk.at (inGuard1 w) (fun x => by have := hX _ x; omega)⟩
  · rintro e w' ⟨rfl, w1, ⟨hs, hk⟩, hk'⟩
    refine ⟨rfl, hS w1 w' hs hk hk', ?_⟩
    have K0 : Kept X w (inGuard w) := ((Kept.refl _ w).alloc _).alloc _
    exact (K0.trans hk (fun _ _ h => h)).trans hk' (fun k hk e => by omega)

/-- The two functions of the outer row. -/
def nestF (lp sb ip fp op : Nat) : Nat → Value := fun i => if i = 0 then .func (.func 32) #[] #[.pointer (some ⟨lp, 0, none⟩), .pointer (some ⟨sb, 0, none⟩), .pointer (some ⟨ip, 0, none⟩), .pointer (some ⟨fp, 0, none⟩)] else .func (.func 34) #[] #[.pointer (some ⟨op, 0, none⟩)]

theorem nest_outer (ao : Option Addr) (len cap b off : Nat) (K A : Nat → Int) (lp sb ip fp op r N : Nat) (hN : N = min len 6) (w : World) (hc : Deeds ao len b off K A w)
    (hl : w.heap[lp]? = some (.cells #[.slice ao len cap] 32 (0, 0))) (hsb : w.heap[sb]? = some (.cells #[.slice none 0 0] 27 (0, 0))) (hip : w.heap[ip]? = some (.cells #[.int .i64 0] 3 (0, 0)))
    (hfp : w.heap[fp]? = some (.cells #[.int .i64 0, .int .i64 0] 23 (0, 0))) (hop : w.heap[op]? = some (.cells #[.int .i64 0] 3 (0, 0))) (hio : op ≠ ip)
    (hr : w.heap[r]? = some (.cells #[nestF lp sb ip fp op 0, nestF lp sb ip fp op 1] 1 (0, 0))) :
    Calls Try.prog 13 #[.slice (some ⟨r, 0, none⟩) 2 2] w fun e w' => e = .returned (.tuple #[.int .i64 2, .agg #[.int .i64 0, .int .i64 0]]) ∧
      ∃ (m : Nat) (s0 s1 : Int) (v' : Value), m ≤ N ∧ (∀ j, j < m → (outOf (K j) (A j)).stopped = false) ∧ (m < N → (outOf (K m) (A m)).stopped = true) ∧ (if m < N then (outOf (K m) (A m)).told else stopV 0 0) = stopV s0 s1 ∧
        w'.heap[ip]? = some (.cells #[.int .i64 m] 3 (0, 0)) ∧ w'.heap[fp]? = some (.cells #[.int .i64 s0, .int .i64 s1] 23 (0, 0)) ∧ w'.heap[op]? = some (.cells #[.int .i64 1] 3 (0, 0)) ∧
        Seen sb v' (firsts (min (m + 1) N)) w' ∧ (∀ k, v'.ownBlock = some k → w.heap.size ≤ k) ∧ Kept (fun k => k = sb ∨ k = ip ∨ k = fp ∨ k = op) w w' := by
  have lsb := lt_at hsb
  have lip := lt_at hip
  have lfp := lt_at hfp
  have lop := lt_at hop
  have ne1 : op ≠ sb := by rintro rfl; rw [hsb] at hop; simp at hop
  have ne2 : op ≠ fp := by rintro rfl; rw [hfp] at hop; simp at hop
  have ner1 : r ≠ sb := by rintro rfl; rw [hsb] at hr; simp at hr
  have ner2 : r ≠ ip := by rintro rfl; rw [hip] at hr; simp at hr
  have ner3 : r ≠ fp := by rintro rfl; rw [hfp] at hr; simp at hr
  have ner4 : r ≠ op := by rintro rfl; rw [hop] at hr; simp at hr
  have K0 : Kept (fun _ => False) w (w.alloc (.cells #[.int .i64 0, .int .i64 0] 23)) := (Kept.refl _ w).alloc _
  let W := w.alloc (.cells #[.int .i64 0, .int .i64 0] 23)
  have hWs : W.heap.size = w.heap.size + 1 := by simp [W]
  let Y : Nat → Nat → World → Prop := fun B c w' => ∃ (m : Nat) (s0 s1 : Int) (v' : Value), m ≤ N ∧ (∀ j, j < m → (outOf (K j) (A j)).stopped = false) ∧ (m < N → (outOf (K m) (A m)).stopped = true) ∧ (if m < N then (outOf (K m) (A m)).told else stopV 0 0) = stopV s0 s1 ∧
        w'.heap[ip]? = some (.cells #[.int .i64 m] 3 (0, 0)) ∧ w'.heap[fp]? = some (.cells #[.int .i64 s0, .int .i64 s1] 23 (0, 0)) ∧ w'.heap[op]? = some (.cells #[.int .i64 c] 3 (0, 0)) ∧
        Seen sb v' (firsts (min (m + 1) N)) w' ∧ (∀ k, v'.ownBlock = some k → B ≤ k)
  have hY : ∀ {B c : Nat} {w1 w2 : World} {X : Nat → Prop}, Y B c w1 → Kept X w1 w2 → (∀ k, X k → w.heap.size ≤ k ∧ k < B) → Y B c w2 := by
    rintro B c w1 w2 X ⟨m, s0, s1, v', h1, h2, h3, h4, h5, h6, h7, h8, h9⟩ hk hX
    exact ⟨m, s0, s1, v', h1, h2, h3, h4, hk.at h5 (fun x => by have := hX _ x; omega), hk.at h6 (fun x => by have := hX _ x; omega), hk.at h7 (fun x => by have := hX _ x; omega), h8.kept hk (fun x => by have := hX _ x; omega) (fun k e x => by have := hX k x; have := h9 k e; omega), h9⟩
  let X4 : Nat → Prop := fun k => k = sb ∨ k = ip ∨ k = fp ∨ k = op
  refine (run_list (some ⟨r, 0, none⟩) 2 2 (nestF lp sb ip fp op) (fun _ => .done) (fun i w1 => Kept X4 W w1 ∧ if i = 0 then Kept (fun _ => False) W w1 else if i = 1 then Y W.heap.size 0 w1 else Y W.heap.size 1 w1) w (by decide) r (fun _ => rfl) ⟨Kept.refl _ _, Kept.refl _ _⟩ ?_ ?_ ?_ ?_).mono ?_
  · rintro i w1 w2 ⟨h1, h2⟩ hk
    refine ⟨h1.trans hk (fun _ _ h => h.elim), ?_⟩
    by_cases e0 : i = 0
    · rw [if_pos e0] at h2 ⊢
      exact h2.trans hk (fun _ _ h => h)
    · rw [if_neg e0] at h2 ⊢
      by_cases e1 : i = 1
      · rw [if_pos e1] at h2 ⊢
        exact hY h2 hk (fun _ h => h.elim)
      · rw [if_neg e1] at h2 ⊢
        exact hY h2 hk (fun _ h => h.elim)
  · rintro i w1 ⟨h1, _⟩
    refine h1.at (alloc_at _ _) ?_
    simp only [X4]
    omega
  · rintro i w1 ⟨h1, _⟩ hi
    have := h1.at (K0.at hr (by simp)) (by simp only [X4]; omega)
    refine cell_at this ?_
    match i, hi with
    | 0, _ => rfl
    | 1, _ => rfl
  · intro i hi w1 hJ
    obtain ⟨h1, h2⟩ := hJ
    match i, hi with
    | 0, _ =>
      simp only [if_true] at h2
      have KA : Kept (fun _ => False) w (inGuard w1) := ((K0.trans h2 (fun _ _ h => h)).alloc _).alloc _
      have hin := nest_inner ao len cap b off K A lp sb ip fp N hN (inGuard w1) (hc.kept KA (by simp)) (KA.at hl (by simp)) (KA.at hsb (by simp)) (KA.at hip (by simp)) (KA.at hfp (by simp))
      have hs1 := h2.size
      refine (guard_kept 32 _ (fun _ _ => by kernel_rfl) .done (fun k => k = sb ∨ k = ip ∨ k = fp) (fun w' => Y (w1.heap.size + 2) 0 w') w1 ?_ ?_ (hin.mono ?_)).mono ?_
      · intro k hk; omega
      · intro wa wb ha _ hk
        exact hY ha hk (fun k hk => by omega)
      · rintro e w' ⟨he, m, s0, s1, v', a1, a2, a3, a4, a5, a6, a7, a8, a9⟩
        rw [inGuard_size] at a8
        exact ⟨he, ⟨m, s0, s1, v', a1, a2, a3, a4, a5, a6, a9.at (KA.at hop (by simp)) (by omega), a7, a8⟩, a9⟩
      · rintro e w' ⟨rfl, hs, hk⟩
        refine ⟨rfl, h1.trans hk (fun k _ h => by simp only [X4]; omega), ?_⟩
        simp only [if_true]
        obtain ⟨m, s0, s1, v', a1, a2, a3, a4, a5, a6, a7, a8, a9⟩ := hs
        exact ⟨m, s0, s1, v', a1, a2, a3, a4, a5, a6, a7, a8, fun k e => by have := a9 k e; omega⟩
    | 1, _ =>
      have h2' : Y W.heap.size 0 w1 := h2
      obtain ⟨m, s0, s1, v', a1, a2, a3, a4, a5, a6, a7, a8, a9⟩ := h2'
      have lop1 := lt_at a7
      have hct := count_w op 0 (by decide) (by decide) (inGuard w1) (inGuard_at a7)
      refine (guard_kept 34 _ (fun _ _ => by kernel_rfl) .done (fun k => k = op) (fun w' => w'.heap[op]? = some (.cells #[.int .i64 1] 3 (0, 0))) w1 ?_ ?_ (hct.mono ?_)).mono ?_
      · intro k hk; omega
      · intro wa wb ha _ hk
        exact hk.at ha (by omega)
      · rintro e w' ⟨he, hs, hk⟩
        exact ⟨he, hs, hk⟩
      · rintro e w' ⟨rfl, hs, hk⟩
        refine ⟨rfl, h1.trans hk (fun k _ h => by simp only [X4]; omega), ?_⟩
        show Y W.heap.size 1 w'
        exact ⟨m, s0, s1, v', a1, a2, a3, a4, hk.at a5 (by omega), hk.at a6 (by omega), hs, a8.kept hk (by omega) (fun k e h => by have := a9 k e; omega), a9⟩
  · rintro e w' ⟨m, hm, h1, h2, rfl, w1, ⟨h3, h3'⟩, h4⟩
    have hm2 : m = 2 := by
      have : ¬ m < 2 := fun h => by have := h2 h; simp [Out.stopped] at this
      omega
    subst hm2
    have h3'' : Y W.heap.size 1 w1 := h3'
    have h5 := hY h3'' h4 (fun k hk => by omega)
    obtain ⟨m, s0, s1, v', a1, a2, a3, a4, a5, a6, a7, a8, a9⟩ := h5
    refine ⟨rfl, m, s0, s1, v', a1, a2, a3, a4, a5, a6, a7, a8, fun k e => by have := a9 k e; omega, ?_⟩
    exact ((K0.mono (fun _ _ h => h.elim)).trans h3 (fun _ _ h => h)).trans h4 (fun k hk e => by omega)

/-- One deed in a row of its own, within a guard. -/
theorem one_deed (ao : Option Addr) (len cap b off : Nat) (K A : Nat → Int) (mp sb : Nat) (hl : 0 < len) (v : Value) (xs : List Int) (w : World) (hc : Deeds ao len b off K A w)
    (hm : w.heap[mp]? = some (.cells #[.slice ao len cap] 32 (0, 0))) (hs : Seen sb v xs w) (hx : xs.length ≤ 1000) :
    Calls Try.prog 36 #[.pointer (some ⟨mp, 0, none⟩), .pointer (some ⟨sb, 0, none⟩)] w fun e w' => (outOf (K 0) (A 0)).ends e ∧ Adds sb v xs [0] w w' := by
  have A' := act_w (K 0) (A 0) 0 sb v xs w hs hx
  have c0 := cell_at hm (i := 0) rfl
  obtain ⟨d0, d1⟩ := hc.cells 0 hl
  simp only [Nat.zero_mul, Nat.add_zero] at d0 d1
  obtain rfl := hc.addr hl
  have hl' : (0 : Int) < (len : Int) := by omega
  clear hc hm hs
  go_enter Try.func36, Try.ntmps36
  go_wp2_with fail
  refine A'.mono ?_
  rintro e w1 ⟨he, hA⟩
  have HA : Hid (Adds sb v xs [0] w w1) := hA
  clear hA A'
  rcases ends_cases he with ⟨ho, rfl⟩ | ⟨hst, v, older, hv, rfl, hold⟩
  · go_wp2
    go_end0
    exact ⟨he, HA.out⟩
  · exact ⟨rfl, ends_stop hv hold, HA.out⟩

/-- A row of that one deed. -/
theorem one_run (ao : Option Addr) (len cap b off : Nat) (K A : Nat → Int) (mp sb r : Nat) (hl : 0 < len) (v : Value) (xs : List Int) (w : World) (hc : Deeds ao len b off K A w)
    (hm : w.heap[mp]? = some (.cells #[.slice ao len cap] 32 (0, 0))) (hs : Seen sb v xs w) (hx : xs.length ≤ 900)
    (hr : w.heap[r]? = some (.cells #[.func (.func 36) #[] #[.pointer (some ⟨mp, 0, none⟩), .pointer (some ⟨sb, 0, none⟩)]] 1 (0, 0))) :
    Calls Try.prog 13 #[.slice (some ⟨r, 0, none⟩) 1 1] w fun e w' => (∃ x y, e = .returned (.tuple #[x, y])) ∧ Adds sb v xs [0] w w' := by
  have lsb := lt_at hs.box
  have hrow := fun k (e : v.ownBlock = some k) => hs.row_lt e
  have K0 : Kept (fun _ => False) w (w.alloc (.cells #[.int .i64 0, .int .i64 0] 23)) := (Kept.refl _ w).alloc _
  let W := w.alloc (.cells #[.int .i64 0, .int .i64 0] 23)
  have hWs : W.heap.size = w.heap.size + 1 := by simp [W]
  refine (run_list (some ⟨r, 0, none⟩) 1 1 (fun _ => .func (.func 36) #[] #[.pointer (some ⟨mp, 0, none⟩), .pointer (some ⟨sb, 0, none⟩)]) (fun _ => outOf (K 0) (A 0))
    (fun i w1 => if i = 0 then Kept (fun _ => False) W w1 else Adds sb v xs [0] W w1) w (by decide) r (fun _ => rfl) (Kept.refl _ _) ?_ ?_ ?_ ?_).mono ?_
  · intro i w1 w2 h hk
    by_cases e : i = 0
    · rw [if_pos e] at h ⊢
      exact h.trans hk (fun _ _ h => h)
    · rw [if_neg e] at h ⊢
      exact h.behind hk (by simp) (by simp) (by simp)
  · intro i w1 h
    by_cases e : i = 0
    · rw [if_pos e] at h
      exact h.at (alloc_at _ _) (by simp)
    · rw [if_neg e] at h
      refine h.1.at (alloc_at _ _) ?_
      rintro (e | e)
      · omega
      · have := hrow _ e; omega
  · intro i w1 h hi
    have e : i = 0 := by omega
    subst e
    have h' : Kept (fun _ => False) W w1 := h
    exact cell_at (h'.at (K0.at hr (by simp)) (by simp)) rfl
  · intro i hi w1 h
    have e : i = 0 := by omega
    subst e
    have h' : Kept (fun _ => False) W w1 := h
    have KA : Kept (fun _ => False) w w1 := K0.trans h' (fun _ _ h => h)
    have KB : Kept (fun _ => False) w (inGuard w1) := (KA.alloc _).alloc _
    have s1 := hs.kept KA (by simp) (by simp)
    have D := one_deed ao len cap b off K A mp sb hl v xs (inGuard w1) (hc.kept KB (by simp)) (KB.at hm (by simp)) (inGuard_seen s1) (by omega)
    refine (guard_adds s1 _ _ (run_w _ _ (fun _ _ => by kernel_rfl) _ _ _ D)).mono ?_
    rintro e w2 ⟨rfl, hA⟩
    refine ⟨rfl, ?_⟩
    show Adds sb v xs [0] W w2
    exact Adds.ahead h' hA
  · rintro e w' ⟨m, hm', h1, h2, rfl, w1, h3, h4⟩
    refine ⟨⟨_, _, rfl⟩, ?_⟩
    have e1 : min (m + 1) 1 = 1 := by omega
    rw [e1] at h3
    have h3' : Adds sb v xs [0] W w1 := h3
    obtain ⟨k1, v1, s1, r1⟩ := h3'
    refine ⟨((K0.mono (fun _ _ h => h.elim)).trans k1 (fun _ _ h => h)).trans h4 (fun k hk e => by omega), v1, s1.kept h4 (by omega) ?_, ?_⟩
    · intro k e hk
      rcases r1 k e with h | h
      · have := hrow k h; omega
      · omega
    · intro k e
      rcases r1 k e with h | h
      · exact .inl h
      · exact .inr (by omega)

theorem one_row (ao : Option Addr) (len cap b off : Nat) (K A : Nat → Int) (mp sb : Nat) (hl : 0 < len) (v : Value) (xs : List Int) (w : World) (hc : Deeds ao len b off K A w)
    (hm : w.heap[mp]? = some (.cells #[.slice ao len cap] 32 (0, 0))) (hs : Seen sb v xs w) (hx : xs.length ≤ 900) :
    Calls Try.prog 35 #[.pointer (some ⟨mp, 0, none⟩), .pointer (some ⟨sb, 0, none⟩)] w fun e w' => Out.done.ends e ∧ Adds sb v xs [0] w w' := by
  have hmf := makeF
  have K0 : Kept (fun _ => False) w (w.alloc (.cells #[.func (.func 36) #[] #[.pointer (some ⟨mp, 0, none⟩), .pointer (some ⟨sb, 0, none⟩)]] 1)) := (Kept.refl _ w).alloc _
  have R := one_run ao len cap b off K A mp sb w.heap.size hl v xs _ (hc.kept K0 (by simp)) (K0.at hm (by simp)) (hs.kept K0 (by simp) (by simp)) hx (alloc_at _ _)
  have HK : Hid _ := K0
  clear hc hm hs K0
  go_enter Try.func35, Try.ntmps35
  go_wp2_with fail
  refine R.mono ?_
  rintro e w1 ⟨⟨x, y, rfl⟩, hA⟩
  have HA : Hid (Adds sb v xs [0] w w1) := Adds.ahead HK.out hA
  clear hA R
  go_wp2
  go_end0
  exact ⟨rfl, HA.out⟩

/-- The guard round it. -/
theorem one_guard (ao : Option Addr) (len cap b off : Nat) (K A : Nat → Int) (mp sb : Nat) (hl : 0 < len) (v : Value) (xs : List Int) (w : World) (hc : Deeds ao len b off K A w)
    (hm : w.heap[mp]? = some (.cells #[.slice ao len cap] 32 (0, 0))) (hs : Seen sb v xs w) (hx : xs.length ≤ 900) :
    Calls Try.prog 8 #[.func (.func 35) #[] #[.pointer (some ⟨mp, 0, none⟩), .pointer (some ⟨sb, 0, none⟩)]] w fun e w' => e = .returned (.tuple #[.agg #[.int .i64 0, .int .i64 0], .bool false]) ∧ Adds sb v xs [0] w w' := by
  have K0 : Kept (fun _ => False) w (inGuard w) := ((Kept.refl _ w).alloc _).alloc _
  exact guard_adds hs _ .done (run_w _ _ (fun _ _ => by kernel_rfl) .done _ _ (one_row ao len cap b off K A mp sb hl v xs (inGuard w) (hc.kept K0 (by simp)) (inGuard_at hm) (inGuard_seen hs) hx))
end Go.Proofs.Ytimjhjlgnoiimaa
