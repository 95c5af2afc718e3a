
/- What place, gap, put, Find, Add, Remove do when they are called; no conditions but lengths. -/
import Derived.Test.YtkpcillgoeidaaaEnts
namespace Go.Proofs.Ytkpcillgoeidaaa
open Go.RowKit
set_option maxRecDepth 100000
set_option linter.unusedSimpArgs false

theorem place1_w (e : E2) (s : Bs) (S : Nat) (w : World) (hS : w.cell? ⟨S, 0, none⟩ = some (.string (bs s))) : Calls Try.prog 69 #[ev2 e, .pointer (some ⟨S, 0, none⟩)] w
    fun r w' => r = .returned (.bool (hasP s e)) ∧ Kept (fun _ => False) w w' := by
  obtain ⟨E, hE⟩ : ∃ E : Nat, w.heap.size = E := ⟨_, rfl⟩
  have hb : (w.alloc (.cells #[.string (bs e.1), .int .i64 e.2] 80)).heap[E]? = some (.cells #[.string (bs e.1), .int .i64 e.2] 80 (0, 0)) := alloc_at' _ hE
  have hk : Kept (fun _ => False) w (w.alloc (.cells #[.string (bs e.1), .int .i64 e.2] 80)) := (Kept.refl _ _).alloc _
  have hS2 := hk.cell hS (fun x => x)
  unfold ev2 ec
  go_enter Try.func69, Try.ntmps69
  go_wp2_with fail
  generalize w.alloc (.cells #[.string (bs e.1), .int .i64 e.2] 80) = wA at *
  have c0 : wA.cell? ⟨E, 0, none⟩ = some (.string (bs e.1)) := cell_at hb rfl
  have c1 : wA.cell? ⟨E, 1, none⟩ = some (.int .i64 e.2) := cell_at hb rfl
  refine (there2_w e wA).mono ?_
  rintro r w1 ⟨rfl, hk1⟩
  have d0 := hk1.cell c0 (fun x => x)
  have d1 := hk1.cell hS2 (fun x => x)
  have HK : Hid (Kept (fun _ => False) w w1) := hk.thru hk1
  have HP : Hid (hasP s e = (hereB e.2 && ((bs e.1).toList == (bs s).toList))) := by show _ = _; rw [Nm.str_eq]; rfl
  clear c0 c1 hb hk hk1 hS hS2
  cases hz : hereB e.2 with
  | false =>
    rw [hz] at HP
    go_wp2
    go_ret
    exact ⟨ret_bool (by rw [HP.out]; rfl), HK.out⟩
  | true =>
    rw [hz] at HP
    go_wp2
    go_ret
    exact ⟨ret_bool (by rw [HP.out]; simp), HK.out⟩

theorem src_at {α : Type} {cs : α → List Value} {n : Nat} {v : Value} {l : List α} {w : World} (h : SrcR cs n v l w) : ∃ ao b o c, v = .slice ao l.length c ∧ (0 < l.length → ao = some ⟨b, o, none⟩) ∧ ∀ j a, l[j]? = some a → w.rangeAt b (o + j * n) (cs a) := by
  obtain ⟨ao, b, o, c, e, -, h1, -, h2⟩ := h
  exact ⟨ao, b, o, c, e, h1, h2⟩
theorem ent_cells {w : World} {b o : Nat} {e : E2} (h : w.rangeAt b o (ec e)) : w.cell? ⟨b, o, none⟩ = some (.string (bs e.1)) ∧ w.cell? ⟨b, o + 1, none⟩ = some (.int .i64 e.2) := ⟨h 0 _ rfl, h 1 _ rfl⟩

set_option maxHeartbeats 1000000 in
theorem index_w (v : Value) (es : List E2) (hle : es.length ≤ 8) (s : Bs) (S : Nat) (w : World) (hv : SrcR ec 2 v es w) (hS : w.cell? ⟨S, 0, none⟩ = some (.string (bs s))) : Calls Try.prog 68 #[v, .func (.func 69) #[] #[.pointer (some ⟨S, 0, none⟩)]] w
    fun r w' => r = .returned (.int .i64 (if es.findIdx (hasP s) < es.length then (es.findIdx (hasP s) : Int) else -1)) ∧ Kept (fun _ => False) w w' := by
  obtain ⟨ao, b, o, c, rfl, hao, hc⟩ := src_at hv
  obtain ⟨L, hL⟩ : ∃ L, es.length = L := ⟨_, rfl⟩
  obtain ⟨K, hK⟩ : ∃ K, es.findIdx (hasP s) = K := ⟨_, rfl⟩
  rw [hL, hK]
  obtain ⟨A, hA⟩ : ∃ A : Int, (if K < L then (K : Int) else -1) = A := ⟨_, rfl⟩
  have HA : Hid (A = if K < L then (K : Int) else -1) := hA.symm
  rw [hA]
  clear hA
  rw [hL] at hao hle
  have HC : Hid (∀ j a, es[j]? = some a → w.rangeAt b (o + j * 2) (ec a)) := hc
  have H0 : Hid (Kept (fun _ => False) w w) := Kept.refl _ _
  have HX : Hid (w.cell? ⟨S, 0, none⟩ = some (.string (bs s))) := hS
  clear hv hc hS
  go_enter Try.func68, Try.ntmps68
  go_wp2_with fail
  go_loopw [8] (fun x wr => ∃ i : Nat, x = .int .i64 i ∧ i ≤ L ∧ Hid (i ≤ K ∧ Kept (fun _ => False) w wr)) (fun x _ => L - (intOf x).toNat)
  case atStart => exact ⟨0, rfl, by omega, by omega, H0.out⟩
  case round =>
    obtain ⟨i, rfl, hi, HI⟩ := hrel
    clear H0
    by_cases hlt : i < L
    · have t1 : (i : Int) < L := by omega
      obtain rfl := hao (by omega)
      obtain ⟨e, he⟩ : ∃ e, es[i]? = some e := ⟨_, List.getElem?_eq_getElem (by omega)⟩
      obtain ⟨c0, c1⟩ := ent_cells (HC.out i e he)
      have d0 := HI.out.2.cell c0 (fun x => x)
      have d1 := HI.out.2.cell c1 (fun x => x)
      clear c0 c1
      go_wp2_with fail
      refine (place1_w e s S _ (HI.out.2.cell HX.out (fun x => x))).mono ?_
      rintro r w1 ⟨rfl, hk1⟩
      have HK1 : Hid (Kept (fun _ => False) w w1) := HI.out.2.thru hk1
      cases hz : hasP s e with
      | false =>
        have hn := find_on he hz (by rw [hK]; exact HI.out.1)
        have HN : Hid (i + 1 ≤ K) := by show _ ≤ _; rw [← hK]; exact hn
        clear hn HI hk1 d0 d1
        go_wp2
        go_roundw
        case rel => exact ⟨i + 1, by go_num, by omega, HN.out, HK1.out⟩
        case measure => simp [intOf]; omega
      | true =>
        have hn := find_is he hz (by rw [hK]; exact HI.out.1)
        have HN : Hid (K = i) := by show _ = _; rw [← hK]; exact hn
        clear hn HI hk1 d0 d1
        go_wp2
        go_ret
        exact ⟨by rw [HA.out, HN.out, if_pos hlt]; rfl, HK1.out⟩
    · obtain rfl : i = L := by omega
      have HN : Hid (¬ K < i ∧ Kept (fun _ => False) w wr) := ⟨by have := HI.out.1; omega, HI.out.2⟩
      clear HI hao
      go_wp2
      go_ret
      exact ⟨by rw [HA.out, if_neg HN.out.1]; rfl, HN.out.2⟩

theorem dplace_w (v : Value) (es : List E2) (hle : es.length ≤ 8) (s : ByteArray) (hs : s.size ≤ 1000000) (w : World) (hv : SrcR ec 2 v es w) : Calls Try.prog 42 #[v, .string s] w
    fun r w' => r = .returned (.int .i64 (placeA es (bl s))) ∧ Kept (fun _ => False) w w' := by
  obtain ⟨A, hA⟩ : ∃ A, placeA es (bl s) = A := ⟨_, rfl⟩
  rw [hA]
  obtain ⟨E, hE⟩ : ∃ E : Nat, w.heap.size = E := ⟨_, rfl⟩
  have hk : Kept (fun _ => False) w (w.alloc (.cells #[.string s] 9)) := (Kept.refl _ _).alloc _
  have c0 : (w.alloc (.cells #[.string s] 9)).cell? ⟨E, 0, none⟩ = some (.string s) := cell_at (alloc_at' _ hE) rfl
  have hv1 := hv.kept hk
  go_enter Try.func42, Try.ntmps42
  go_wp2_with fail
  generalize w.alloc (.cells #[.string s] 9) = wA at *
  refine (Nm.right_w s hs wA).mono ?_
  rintro r w1 ⟨rfl, hw⟩
  subst hw
  cases hr : Nm.rightF (bl s) with
  | false =>
    have HP : Hid (A = -1) := by show _ = _; rw [← hA]; unfold placeA; rw [hr, if_neg (by simp)]
    have HK : Hid (Kept (fun _ => False) w w1) := hk
    clear hk hA
    go_wp2
    go_ret
    exact ⟨by rw [HP.out]; rfl, HK.out⟩
  | true =>
    have HP : A = if es.findIdx (hasP (bl s)) < es.length then (es.findIdx (hasP (bl s)) : Int) else -1 := by
      rw [← hA]
      unfold placeA
      by_cases h : es.findIdx (hasP (bl s)) < es.length
      · rw [if_pos ⟨hr, h⟩, if_pos h]
      · rw [if_neg (fun x => h x.2), if_neg h]
    have HI := index_w v es hle (bl s) E w1 hv1 (by rw [bs_bl]; exact c0)
    rw [← HP] at HI
    clear hv hv1 HP hA
    go_wp2_with fail
    refine HI.mono ?_
    rintro r w2 ⟨rfl, hk2⟩
    have HK : Hid (Kept (fun _ => False) w w2) := hk.thru hk2
    clear hk hk2 c0 HI
    go_wp2
    go_ret
    exact ⟨rfl, HK.out⟩

theorem dgap_w (v : Value) (es : List E2) (hle : es.length ≤ 8) (w : World) (hv : SrcR ec 2 v es w) : Calls Try.prog 41 #[v] w
    fun r w' => r = .returned (.int .i64 (gapA es)) ∧ Kept (fun _ => False) w w' := by
  obtain ⟨ao, b, o, c, rfl, hao, hc⟩ := src_at hv
  obtain ⟨L, hL⟩ : ∃ L, es.length = L := ⟨_, rfl⟩
  obtain ⟨K, hK⟩ : ∃ K, gapA es = K := ⟨_, rfl⟩
  rw [hL, hK]
  rw [hL] at hao hle
  have HC : Hid (∀ j a, es[j]? = some a → w.rangeAt b (o + j * 2) (ec a)) := hc
  have H0 : Hid (Kept (fun _ => False) w w) := Kept.refl _ _
  clear hv hc
  go_enter Try.func41, Try.ntmps41
  go_wp2_with fail
  go_loopw [7] (fun x wr => ∃ i : Nat, x = .int .i64 i ∧ i ≤ L ∧ Hid (i ≤ K ∧ Kept (fun _ => False) w wr)) (fun x _ => L - (intOf x).toNat)
  case atStart => exact ⟨0, rfl, by omega, by omega, H0.out⟩
  case round =>
    obtain ⟨i, rfl, hi, HI⟩ := hrel
    clear H0
    by_cases hlt : i < L
    · have t1 : (i : Int) < L := by omega
      obtain rfl := hao (by omega)
      obtain ⟨e, he⟩ : ∃ e, es[i]? = some e := ⟨_, List.getElem?_eq_getElem (by omega)⟩
      obtain ⟨c0, c1⟩ := ent_cells (HC.out i e he)
      have d0 := HI.out.2.cell c0 (fun x => x)
      have d1 := HI.out.2.cell c1 (fun x => x)
      obtain ⟨F, hF⟩ : ∃ F : Nat, wr.heap.size = F := ⟨_, rfl⟩
      have hbF : (wr.alloc (.cells #[.string (bs e.1), .int .i64 e.2] 80)).heap[F]? = some (.cells #[.string (bs e.1), .int .i64 e.2] 80 (0, 0)) := alloc_at' _ hF
      have hkF : Kept (fun _ => False) w (wr.alloc (.cells #[.string (bs e.1), .int .i64 e.2] 80)) := HI.out.2.alloc _
      have e0 := cell_at hbF (i := 0) rfl
      have e1 := cell_at hbF (i := 1) rfl
      clear c0 c1
      go_wp2_with fail
      clear hbF e0 e1 d0 d1
      refine (there2_w e _).mono ?_
      rintro r w1 ⟨rfl, hk1⟩
      have HK1 : Hid (Kept (fun _ => False) w w1) := hkF.thru hk1
      clear hk1 hkF
      cases hz : hereB e.2 with
      | true =>
        have hn := find_on he (p := gapP) (by unfold gapP; rw [hz]; rfl) (by show i ≤ gapA es; rw [hK]; exact HI.out.1)
        have HN : Hid (i + 1 ≤ K) := by show _ ≤ _; rw [← hK]; exact hn
        clear hn HI
        go_wp2
        go_roundw
        case rel => exact ⟨i + 1, by go_num, by omega, HN.out, HK1.out⟩
        case measure => simp [intOf]; omega
      | false =>
        have hn := find_is he (p := gapP) (by unfold gapP; rw [hz]; rfl) (by show i ≤ gapA es; rw [hK]; exact HI.out.1)
        have HN : Hid (K = i) := by show _ = _; rw [← hK]; exact hn
        clear hn HI
        go_wp2
        go_ret
        exact ⟨by rw [HN.out]; rfl, HK1.out⟩
    · obtain rfl : i = L := by omega
      have HN : Hid (K = i ∧ Kept (fun _ => False) w wr) := ⟨by have := HI.out.1; have h2 : gapA es ≤ es.length := List.findIdx_le_length; omega, HI.out.2⟩
      clear HI hao
      go_wp2
      go_ret
      exact ⟨by rw [HN.out.1]; rfl, HN.out.2⟩

theorem dput_w (q N p B : Nat) (f : StF) (g : VwF) (d : Int) (k : Nat) (hk8 : k ≤ 8) (s : ByteArray) (i : Int) (w : World) (h : ViewIn q N p g w) (hs : StoreIn p B f w) (hNB : N ≠ B) (hsz : (findV f g d).s.size ≤ 100000) :
    Calls Try.prog 43 #[.pointer (some ⟨q, 0, none⟩), .int .i64 d, .int .i64 k, .string s, .int .i64 i] w
    fun e w' => e = .returned (.tuple #[]) ∧ ViewIn q N p (writeT f g d ((k * 16 : Nat) : Int) (bs (Nm.packF (bl s) i))) w' ∧ Kept (fun n => n = N) w w' := by
  obtain ⟨t, ht⟩ : ∃ t, bs (Nm.packF (bl s) i) = t := ⟨_, rfl⟩
  have P := Nm.pack_w s i w
  rw [ht] at P ⊢
  clear ht
  go_enter Try.func43, Try.ntmps43
  go_wp2_with fail
  refine P.mono ?_
  rintro r w1 ⟨rfl, hk1⟩
  go_wp2_with fail
  have e16 : ((k : Int) * 16) = ((k * 16 : Nat) : Int) := by omega
  clear P
  rw [e16]
  refine (write_w q N p B f g d ((k * 16 : Nat) : Int) _ w1 (h.still hk1) (hs.still hk1) hNB hsz).mono ?_
  rintro r w2 ⟨rfl, hv2, hk2⟩
  have HZ : Hid (ViewIn q N p (writeT f g d ((k * 16 : Nat) : Int) t) w2 ∧ Kept (fun n => n = N) w w2) := ⟨hv2, (hk1.mono (fun _ _ e => e.elim)).trans hk2 (fun _ _ e => e)⟩
  clear hv2 hk2 hk1 h hs e16
  generalize writeA f g d ((k * 16 : Nat) : Int) t = A at *
  go_wp2
  go_end0
  exact ⟨rfl, HZ.out⟩

theorem dfind_w (q N p B : Nat) (f : StF) (g : VwF) (d : Int) (s : ByteArray) (hs0 : s.size ≤ 1000000) (w : World) (h : ViewIn q N p g w) (hs : StoreIn p B f w) (hNB : N ≠ B) (hsz : (findV f g d).s.size ≤ 100000) :
    Calls Try.prog 12 #[.pointer (some ⟨q, 0, none⟩), .int .i64 d, .string s] w
    fun e w' => e = .returned (foundV (foundE (dirE f g d) (bl s))) ∧ ViewIn q N p (findT g d) w' ∧ Kept (fun n => n = N) w w' := by
  have E := entries_w q N p B f g d w h hs hNB (by omega)
  obtain ⟨es, hes⟩ : ∃ es, dirE f g d = es := ⟨_, rfl⟩
  have hle := dirE_le f g d
  rw [hes] at E hle ⊢
  clear hes
  obtain ⟨fo, hfo⟩ : ∃ fo, foundE es (bl s) = fo := ⟨_, rfl⟩
  rw [hfo]
  go_enter Try.func12, Try.ntmps12
  go_wp2_with fail
  refine E.mono ?_
  rintro r w1 ⟨v, rfl, hv, hv1, hk1⟩
  clear h hs E
  go_wp2_with fail
  refine (dplace_w v es hle s hs0 w1 hv).mono ?_
  rintro r w2 ⟨rfl, hk2⟩
  have HZ : Hid (ViewIn q N p (findT g d) w2 ∧ Kept (fun n => n = N) w w2) := ⟨hv1.still hk2, hk1.trans hk2 (fun _ _ e => e.elim)⟩
  have hv2 := hv.kept hk2
  clear hk1 hk2 hv hv1
  cases fo with
  | none =>
    have hf := hfo
    rw [place_no hf]
    clear hv2 hf hfo
    go_wp2
    go_ret2
    exact ⟨rfl, HZ.out⟩
  | some n =>
    have hf := hfo
    obtain ⟨hp, hlt, ⟨e, he, rfl, -, -⟩, -⟩ := place_yes hf
    rw [hp]
    generalize es.findIdx (hasP (bl s)) = K at *
    obtain ⟨ao, b, o, c, rfl, hao, hc⟩ := src_at hv2
    obtain ⟨L, hL⟩ : ∃ L, es.length = L := ⟨_, rfl⟩
    rw [hL] at hao hlt ⊢
    obtain rfl := hao (by omega)
    obtain ⟨c0, c1⟩ := ent_cells (hc K e he)
    have t1 : ¬ (K : Int) = -1 := by omega
    have t2 : (K : Int) < L := by omega
    clear hc hv2 hf hp hfo
    go_wp2
    go_ret2
    exact ⟨rfl, HZ.out⟩

set_option maxHeartbeats 1000000 in
theorem dremove_w (q N p B : Nat) (f : StF) (g : VwF) (d : Int) (s : ByteArray) (hs0 : s.size ≤ 1000000) (w : World) (h : ViewIn q N p g w) (hs : StoreIn p B f w) (hNB : N ≠ B) (hsz : (findV f g d).s.size ≤ 100000) :
    Calls Try.prog 11 #[.pointer (some ⟨q, 0, none⟩), .int .i64 d, .string s] w
    fun e w' => e = .returned (.bool (foundE (dirE f g d) (bl s)).isSome) ∧ ViewIn q N p (rmT f g d (bl s)) w' ∧ Kept (fun n => n = N) w w' := by
  have E := entries_w q N p B f g d w h hs hNB (by omega)
  have HR : Hid (rmT f g d (bl s) = if (foundE (dirE f g d) (bl s)).isSome = true then writeT f (findT g d) d (((dirE f g d).findIdx (hasP (bl s)) * 16 : Nat) : Int) (bs (Nm.packF [] 0)) else findT g d) := rfl
  obtain ⟨es, hes⟩ : ∃ es, dirE f g d = es := ⟨_, rfl⟩
  have hle := dirE_le f g d
  rw [hes] at E hle HR ⊢
  clear hes
  obtain ⟨fo, hfo⟩ : ∃ fo, foundE es (bl s) = fo := ⟨_, rfl⟩
  rw [hfo]
  go_enter Try.func11, Try.ntmps11
  go_wp2_with fail
  refine E.mono ?_
  rintro r w1 ⟨v, rfl, hv, hv1, hk1⟩
  have hs1 := hs.kept hk1 (fun e => h.map.off hs.cell e) (fun e => hNB e.symm)
  clear h hs E
  go_wp2_with fail
  refine (dplace_w v es hle s hs0 w1 hv).mono ?_
  rintro r w2 ⟨rfl, hk2⟩
  have hv2 := hv1.still hk2
  have hs2 := hs1.still hk2
  have HK : Hid (Kept (fun n => n = N) w w2) := hk1.trans hk2 (fun _ _ e => e.elim)
  clear hk1 hk2 hv hv1 hs1
  cases fo with
  | none =>
    have hf := hfo
    rw [place_no hf]
    have HZ : Hid (ViewIn q N p (rmT f g d (bl s)) w2) := by show ViewIn _ _ _ _ _; rw [HR.out, hf, if_neg (by simp)]; exact hv2
    clear hv2 hs2 hf hfo
    go_wp2
    go_ret
    exact ⟨rfl, HZ.out, HK.out⟩
  | some n =>
    have hf := hfo
    obtain ⟨hp, hlt, -, -⟩ := place_yes hf
    rw [hp]
    rw [hfo, if_pos (show (some n).isSome = true from rfl)] at HR
    generalize es.findIdx (hasP (bl s)) = K at *
    have t1 : ¬ (K : Int) = -1 := by omega
    clear hf hp hfo
    go_wp2_with fail
    refine (dput_w q N p B f (findT g d) d K (by omega) ByteArray.empty 0 w2 hv2 hs2 hNB (by rw [find_find]; exact hsz)).mono ?_
    rintro r w3 ⟨rfl, hv3, hk3⟩
    have HZ : Hid (ViewIn q N p (rmT f g d (bl s)) w3 ∧ Kept (fun n => n = N) w w3) := ⟨by rw [HR.out]; exact hv3, HK.out.trans hk3 (fun _ _ e => e)⟩
    clear hv3 hk3 hv2 hs2
    go_wp2
    go_ret
    exact ⟨rfl, HZ.out⟩

set_option maxHeartbeats 1000000 in
theorem dadd_w (q N p B : Nat) (f : StF) (g : VwF) (d : Int) (s : ByteArray) (hs0 : s.size ≤ 1000000) (i : Int) (w : World) (h : ViewIn q N p g w) (hs : StoreIn p B f w) (hNB : N ≠ B) (hsz : (findV f g d).s.size ≤ 100000) :
    Calls Try.prog 10 #[.pointer (some ⟨q, 0, none⟩), .int .i64 d, .string s, .int .i64 i] w
    fun e w' => e = .returned (.bool (addOk f g d (bl s) i)) ∧ ViewIn q N p (addT f g d (bl s) i) w' ∧ Kept (fun n => n = N) w w' := by
  obtain ⟨ok, hok⟩ : ∃ ok, addOk f g d (bl s) i = ok := ⟨_, rfl⟩
  have HA : Hid (addT f g d (bl s) i = if ok = true then writeT f (findT g d) d ((gapA (dirE f g d) * 16 : Nat) : Int) (bs (Nm.packF (bl s) i)) else findT g d) := by show _ = _; unfold addT; rw [hok]
  have HO : Hid (ok = (isDirF f g d && Nm.rightF (bl s) && hereB i && (foundE (dirE f g d) (bl s)).isNone && decide (gapA (dirE f g d) < 8))) := by show _ = _; rw [← hok]; rfl
  rw [hok]
  clear hok
  go_enter Try.func10, Try.ntmps10
  go_wp2_with fail
  refine (dis_w q N p B f g d w h hs hNB).mono ?_
  rintro r w1 ⟨rfl, hv1, hk1⟩
  have hs1 := hs.kept hk1 (fun e => h.map.off hs.cell e) (fun e => hNB e.symm)
  clear h hs
  have R := Nm.right_w s hs0 w1
  have I := isnum_w i w1
  cases hd : isDirF f g d with
  | false =>
    have HZ : Hid (ok = false ∧ ViewIn q N p (addT f g d (bl s) i) w1 ∧ Kept (fun n => n = N) w w1) := by
      have : ok = false := by rw [HO.out, hd]; rfl
      exact ⟨this, by rw [HA.out, this]; exact hv1, hk1⟩
    clear hv1 hk1 hs1 HO HA
    go_wp2
    go_ret
    exact ⟨by rw [HZ.out.1]; rfl, HZ.out.2⟩
  | true =>
    go_wp2_with fail
    refine R.mono ?_
    rintro r w1' ⟨rfl, hw⟩
    subst hw
    cases hr : Nm.rightF (bl s) with
    | false =>
      have HZ : Hid (ok = false ∧ ViewIn q N p (addT f g d (bl s) i) w1' ∧ Kept (fun n => n = N) w w1') := by
        have : ok = false := by rw [HO.out, hd, hr]; rfl
        exact ⟨this, by rw [HA.out, this]; exact hv1, hk1⟩
      clear hv1 hk1 hs1 HO HA
      go_wp2
      go_ret
      exact ⟨by rw [HZ.out.1]; rfl, HZ.out.2⟩
    | true =>
      go_wp2_with fail
      refine I.mono ?_
      rintro r w1'' ⟨rfl, hw⟩
      subst hw
      cases hi : hereB i with
      | false =>
        have HZ : Hid (ok = false ∧ ViewIn q N p (addT f g d (bl s) i) w1'' ∧ Kept (fun n => n = N) w w1'') := by
          have : ok = false := by rw [HO.out, hd, hr, hi]; rfl
          exact ⟨this, by rw [HA.out, this]; exact hv1, hk1⟩
        clear hv1 hk1 hs1 HO HA
        go_wp2
        go_ret
        exact ⟨by rw [HZ.out.1]; rfl, HZ.out.2⟩
      | true =>
        clear R I
        have HO2 : Hid (ok = ((foundE (dirE f g d) (bl s)).isNone && decide (gapA (dirE f g d) < 8))) := by show _ = _; rw [HO.out, hd, hr, hi]; rfl
        clear HO hd hr hi
        go_wp2_with fail
        refine (entries_w q N p B f (findT g d) d w1'' hv1 hs1 hNB (by rw [find_find]; omega)).mono ?_
        rintro r w2 ⟨v, rfl, hv, hv2, hk2⟩
        have he : dirE f (findT g d) d = dirE f g d := by unfold dirE isDirF; rw [find_find]
        rw [he] at hv
        rw [find_again] at hv2
        have hs2 := hs1.kept hk2 (fun e => hv1.map.off hs1.cell e) (fun e => hNB e.symm)
        obtain ⟨es, hes⟩ : ∃ es, dirE f g d = es := ⟨_, rfl⟩
        have hle := dirE_le f g d
        rw [hes] at hv hle HO2 HA
        have HK2 : Hid (Kept (fun n => n = N) w w2) := hk1.trans hk2 (fun _ _ e => e)
        clear hes he hv1 hs1 hk1 hk2
        go_wp2_with fail
        refine (dgap_w v es hle w2 hv).mono ?_
        rintro r w3 ⟨rfl, hk3⟩
        have hgl := gap_le hle
        generalize gapA es = K at *
        go_wp2_with fail
        refine (dplace_w v es hle s hs0 w3 (hv.kept hk3)).mono ?_
        rintro r w4 ⟨rfl, hk4⟩
        have hk34 := hk3.thru hk4
        have hv4 := hv2.still hk34
        have hs4 := hs2.still hk34
        have HK4 : Hid (Kept (fun n => n = N) w w4) := HK2.out.trans hk34 (fun _ _ e => e.elim)
        clear hk3 hk4 hk34 hv hv2 hs2 HK2
        cases hf : foundE es (bl s) with
        | some n =>
          obtain ⟨hp, hlt, -, -⟩ := place_yes hf
          rw [hp]
          have HZ : Hid (ok = false ∧ ViewIn q N p (addT f g d (bl s) i) w4) := by
            have : ok = false := by rw [HO2.out, hf]; rfl
            exact ⟨this, by rw [HA.out, this]; exact hv4⟩
          generalize es.findIdx (hasP (bl s)) = J at *
          have t1 : ¬ (J : Int) = -1 := by omega
          clear hv4 hs4 HO2 HA hf hp
          go_wp2
          go_ret
          exact ⟨by rw [HZ.out.1]; rfl, HZ.out.2, HK4.out⟩
        | none =>
          rw [place_no hf]
          by_cases hK : K = 8
          · have HZ : Hid (ok = false ∧ ViewIn q N p (addT f g d (bl s) i) w4) := by
              have : ok = false := by rw [HO2.out, hf, hK]; rfl
              exact ⟨this, by rw [HA.out, this]; exact hv4⟩
            subst hK
            clear hv4 hs4 HO2 HA hf
            go_wp2
            go_ret
            exact ⟨by rw [HZ.out.1]; rfl, HZ.out.2, HK4.out⟩
          · have hok : ok = true := by rw [HO2.out, hf, decide_eq_true (by omega : K < 8)]; rfl
            rw [hok, if_pos rfl] at HA
            have t1 : ¬ (K : Int) = 8 := by omega
            clear HO2 hf
            go_wp2_with fail
            refine (dput_w q N p B f (findT g d) d K (by omega) s i w4 hv4 hs4 hNB (by rw [find_find]; exact hsz)).mono ?_
            rintro r w5 ⟨rfl, hv5, hk5⟩
            have HZ : Hid (ViewIn q N p (addT f g d (bl s) i) w5 ∧ Kept (fun n => n = N) w w5) := ⟨by rw [HA.out]; exact hv5, HK4.out.trans hk5 (fun _ _ e => e)⟩
            clear hv4 hs4 hv5 hk5
            go_wp2
            go_ret
            exact ⟨by rw [hok]; rfl, HZ.out⟩
end Go.Proofs.Ytkpcillgoeidaaa
