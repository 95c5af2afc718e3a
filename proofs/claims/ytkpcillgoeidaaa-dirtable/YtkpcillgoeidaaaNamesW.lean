
/- What Names and Bare do when they are called; no conditions but lengths. -/
import Derived.Test.YtkpcillgoeidaaaDirW
namespace Go.Proofs.Ytkpcillgoeidaaa
open Go.RowKit
set_option maxRecDepth 100000
set_option linter.unusedSimpArgs false

theorem names_len (es : List E2) : (namesE es).length ≤ es.length := by
  unfold namesE
  rw [List.length_map]
  exact List.length_filter_le _ _
theorem names_next {es : List E2} {i : Nat} {e : E2} (h : es[i]? = some e) : namesE (es.take (i + 1)) = namesE (es.take i) ++ if hereB e.2 = true then [e.1] else [] := by
  unfold namesE
  rw [List.take_add_one, h, List.filter_append, List.map_append]
  congr 1
  by_cases hh : hereB e.2 = true <;> simp [hh]

set_option maxHeartbeats 1000000 in
theorem dnames_w (q N p B : Nat) (f : StF) (g : VwF) (d : Int) (w : World) (h : ViewIn q N p g w) (hs : StoreIn p B f w) (hNB : N ≠ B) (hsz : (findV f g d).s.size ≤ 100000) :
    Calls Try.prog 14 #[.pointer (some ⟨q, 0, none⟩), .int .i64 d] w
    fun e w' => ∃ v, e = .returned v ∧ Nm.SrcS v (namesE (dirE f g d)) w' ∧ ViewIn q N p (findT g d) w' ∧ Kept (fun n => n = N) w w' := by
  have E := entries_w q N p B f g d w h hs hNB (by omega)
  obtain ⟨es, hes⟩ : ∃ es, dirE f g d = es := ⟨_, rfl⟩
  have hle := dirE_le f g d
  rw [hes] at E hle ⊢
  clear hes
  go_enter Try.func14, Try.ntmps14
  go_wp2_with fail
  refine E.mono ?_
  rintro r w1 ⟨v, rfl, hv, hv1, hk1⟩
  clear h hs E
  have HZ : Hid (ViewIn q N p (findT g d) w1 ∧ Kept (fun n => n = N) w w1) := ⟨hv1, hk1⟩
  clear hv1 hk1
  obtain ⟨ao, b, o, c, rfl, hao, hc⟩ := src_at hv
  obtain ⟨L, hL⟩ : ∃ L, es.length = L := ⟨_, rfl⟩
  rw [hL] at hao hle ⊢
  have HC : Hid (∀ j a, es[j]? = some a → w1.rangeAt b (o + j * 2) (ec a)) := hc
  have H0 : Hid (Nm.OwnS w1 (.slice none 0 0) (namesE (es.take 0)) w1) := Nm.OwnS.nil w1
  clear hv hc
  go_wp2_with fail
  go_loopw [5, 12] (fun v x wr => ∃ i : Nat, x = .int .i64 i ∧ i ≤ L ∧ Hid (Nm.OwnS w1 v (namesE (es.take i)) wr)) (fun _ x _ => L - (intOf x).toNat)
  case atStart => exact ⟨0, rfl, by omega, H0.out⟩
  case round =>
    obtain ⟨i, rfl, hi, HI⟩ := hrel
    clear H0
    by_cases hlt : i < L
    · have t1 : (i : Int) < L := by omega
      obtain rfl := hao (by omega)
      obtain ⟨e, he⟩ : ∃ e, es[i]? = some e := ⟨_, List.getElem?_eq_getElem (by omega)⟩
      obtain ⟨c0, c1⟩ := ent_cells (HC.out i e he)
      have d0 := HI.out.kept.cell c0 (fun x => x)
      have d1 := HI.out.kept.cell c1 (fun x => x)
      obtain ⟨F, hF⟩ : ∃ F : Nat, wr.heap.size = F := ⟨_, rfl⟩
      have hbF : (wr.alloc (.cells #[.string (bs e.1), .int .i64 e.2] 80)).heap[F]? = some (.cells #[.string (bs e.1), .int .i64 e.2] 80 (0, 0)) := alloc_at' _ hF
      have HO1 := HI.out.alloc (.cells #[.string (bs e.1), .int .i64 e.2] 80)
      have e0 := cell_at hbF (i := 0) rfl
      have e1 := cell_at hbF (i := 1) rfl
      have hlen : Hid ((namesE (es.take i)).length ≤ 8) := by have := names_len (es.take i); rw [List.length_take] at this; show _ ≤ _; omega
      have HN := names_next he
      clear c0 c1
      go_wp2_with fail
      refine (there2_w e _).mono ?_
      rintro r w2 ⟨rfl, hk2⟩
      have HO2 := HO1.still hk2
      have f0 := hk2.cell e0 (fun x => x)
      clear hbF e0 e1 d0 d1 HO1 hk2 HI
      cases hz : hereB e.2 with
      | false =>
        rw [hz, if_neg (by simp), List.append_nil] at HN
        have HQ : Hid (Nm.OwnS w1 u5 (namesE (es.take (i + 1))) w2) := by show Nm.OwnS _ _ _ _; rw [HN]; exact HO2
        clear HN HO2 f0
        go_wp2
        go_roundw
        case rel => exact ⟨i + 1, by go_num, by omega, HQ.out⟩
        case measure => simp [intOf]; omega
      | true =>
        rw [hz, if_pos rfl] at HN
        have HN2 : Hid (namesE (es.take (i + 1)) = namesE (es.take i) ++ [e.1]) := HN
        have HQ : Hid (Nm.OwnS w1 u5 (namesE (es.take i)) (w2.alloc (.cells #[.string (bs e.1)] 9))) := HO2.alloc _
        have HS : Hid (Nm.SrcS (.slice (some ⟨w2.heap.size, 0, none⟩) 1 1) [e.1] (w2.alloc (.cells #[.string (bs e.1)] 9))) := Nm.SrcS.row (l := [e.1]) (alloc_at _ _) (by simp [Nm.strs]) 1
        clear HN HO2
        go_wp2_with (at_builtin; refine Nm.list_app rfl _ _ rfl w1 (namesE (es.take i)) [e.1] HQ.out HS.out (by have := hlen.out; simp; omega) ?_; intro v w4 h4 _)
        have HQ4 : Hid (Nm.OwnS w1 v (namesE (es.take (i + 1))) w4) := by show Nm.OwnS _ _ _ _; rw [HN2.out]; exact h4
        clear h4 HQ HS HN2 f0
        go_wp2
        go_roundw
        case rel => exact ⟨i + 1, by go_num, by omega, HQ4.out⟩
        case measure => simp [intOf]; omega
    · obtain rfl : i = L := by omega
      have HR : Hid (Nm.SrcS u5 (namesE es) wr ∧ ViewIn q N p (findT g d) wr ∧ Kept (fun n => n = N) w wr) := by
        have := HI.out.src
        rw [List.take_of_length_le (by omega)] at this
        exact ⟨this, HZ.out.1.still HI.out.kept, HZ.out.2.trans HI.out.kept (fun _ _ e => e.elim)⟩
      clear HI HZ
      go_wp2
      go_ret
      exact ⟨_, rfl, HR.out⟩

def dotP (s : Bs) : Bool := decide (s = [46]) || decide (s = [46, 46])
theorem bare_is (es : List E2) : bareE es = (namesE es).all dotP := rfl

set_option maxHeartbeats 1000000 in
theorem dbare_w (q N p B : Nat) (f : StF) (g : VwF) (d : Int) (w : World) (h : ViewIn q N p g w) (hs : StoreIn p B f w) (hNB : N ≠ B) (hsz : (findV f g d).s.size ≤ 100000) :
    Calls Try.prog 22 #[.pointer (some ⟨q, 0, none⟩), .int .i64 d] w
    fun e w' => e = .returned (.bool (bareE (dirE f g d))) ∧ ViewIn q N p (findT g d) w' ∧ Kept (fun n => n = N) w w' := by
  have E := dnames_w q N p B f g d w h hs hNB hsz
  have hle := Nat.le_trans (names_len (dirE f g d)) (dirE_le f g d)
  rw [bare_is]
  obtain ⟨l, hl⟩ : ∃ l, namesE (dirE f g d) = l := ⟨_, rfl⟩
  rw [hl] at E hle ⊢
  clear hl
  obtain ⟨z, hz⟩ : ∃ z, l.all dotP = z := ⟨_, rfl⟩
  rw [hz]
  have HZ : Hid (z = l.all dotP) := hz.symm
  clear hz
  go_enter Try.func22, Try.ntmps22
  go_wp2_with fail
  refine E.mono ?_
  rintro r w1 ⟨v, rfl, hv, hv1, hk1⟩
  clear h hs E
  have HX : Hid (ViewIn q N p (findT g d) w1 ∧ Kept (fun n => n = N) w w1) := ⟨hv1, hk1⟩
  clear hv1 hk1
  obtain ⟨ao, b, o, c, rfl, hao, hc⟩ := hv.form
  obtain ⟨L, hL⟩ : ∃ L, l.length = L := ⟨_, rfl⟩
  rw [hL] at hao hle hc ⊢
  have HC : Hid (∀ j, j < L → w1.cell? ⟨b, o + j, none⟩ = some (.string (bs (Nm.sd l j)))) := hc
  clear hv hc
  go_wp2_with fail
  go_loopw [11] (fun x wr => ∃ i : Nat, x = .int .i64 i ∧ i ≤ L ∧ wr = w1 ∧ Hid ((l.take i).all dotP = true)) (fun x _ => L - (intOf x).toNat)
  case atStart => exact ⟨0, rfl, by omega, rfl, rfl⟩
  case round =>
    obtain ⟨i, rfl, hi, rfl, HI⟩ := hrel
    by_cases hlt : i < L
    · have t1 : (i : Int) < L := by omega
      obtain rfl := hao (by omega)
      have c0 := HC.out i hlt
      have he := Nm.sd_get (l := l) (i := i) (by omega)
      have u : (bs (Nm.sd l i)).toList = Nm.sd l i := by rw [toList_bl, bl_bs]
      generalize Nm.sd l i = x at *
      have HN : Hid ((l.take (i + 1)).all dotP = dotP x) := by
        show _ = _
        rw [List.take_add_one, he, List.all_append, HI.out]
        simp
      by_cases x1 : x = [46]
      · have HP : Hid ((l.take (i + 1)).all dotP = true) := by show _ = _; rw [HN.out, x1]; rfl
        rw [x1] at u
        clear HN HI he
        go_wp2
        go_roundw
        case rel => exact ⟨i + 1, by go_num, by omega, trivial, HP.out⟩
        case measure => simp [intOf]; omega
      · by_cases x2 : x = [46, 46]
        · have HP : Hid ((l.take (i + 1)).all dotP = true) := by show _ = _; rw [HN.out, x2]; rfl
          rw [x2] at u
          clear HN HI he x1
          go_wp2
          go_roundw
          case rel => exact ⟨i + 1, by go_num, by omega, trivial, HP.out⟩
          case measure => simp [intOf]; omega
        · have HP : Hid (z = false) := by
            show _ = _
            rw [HZ.out]
            cases ha : l.all dotP with
            | false => rfl
            | true =>
              have := List.all_eq_true.1 ha x (List.mem_of_getElem? he)
              simp [dotP, x1, x2] at this
          have q1 : (x == [46]) = false := by simpa using x1
          have q2 : (x == [46, 46]) = false := by simpa using x2
          clear HN HI he x1 x2
          go_wp2
          go_ret
          exact ⟨by rw [HP.out]; rfl, HX.out⟩
    · obtain rfl : i = L := by omega
      have HP : Hid (z = true) := by
        show _ = _
        rw [HZ.out, ← HI.out, List.take_of_length_le (by omega)]
      clear HI HZ
      go_wp2
      go_ret
      exact ⟨by rw [HP.out]; rfl, HX.out⟩
end Go.Proofs.Ytkpcillgoeidaaa
