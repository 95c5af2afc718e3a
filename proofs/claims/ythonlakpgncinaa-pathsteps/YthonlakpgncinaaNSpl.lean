
/- What Split does when it is called, the code's and the reference's; no conditions but a length. -/
import Derived.Test.YthonlakpgncinaaNmA
namespace Go.Proofs.Ythonlakpgncinaa.Nm
set_option maxRecDepth 100000
open Go.RowKit

theorem names_no {l : Bs} (h : okF l = false) : namesF l = [] ∧ absF l = false := by
  unfold namesF absF
  rw [h]; exact ⟨by simp, rfl⟩
theorem names_yes {l : Bs} (h : okF l = true) : namesF l = cutF l [] ∧ absF l = decide (l[0]? = some 47) := by
  unfold namesF absF
  rw [h]; exact ⟨by simp, rfl⟩

theorem ret3 {v : Value} {a b c d : Bool} (h1 : a = c) (h2 : b = d) : Ending.returned (.tuple #[v, .bool a, .bool b]) = .returned (.tuple #[v, .bool c, .bool d]) := by rw [h1, h2]

theorem byte_is (x : UInt8) : (((x.toNat : Int)) == 47) = decide (some x = some 47) := by
  rw [Bool.eq_iff_iff, beq_iff_eq, decide_eq_true_eq, Option.some.injEq]
  constructor
  · intro h
    exact UInt8.toNat_inj.1 (by rw [show UInt8.toNat 47 = 47 from rfl]; omega)
  · rintro rfl; rfl

set_option maxHeartbeats 1000000 in
theorem split_w (s : ByteArray) (hs : s.size ≤ 1000000) (w : World) :
    Calls Try.prog 23 #[.string s] w fun e w' => ∃ v, e = .returned (.tuple #[v, .bool (absF (bl s)), .bool (okF (bl s))]) ∧ OwnS w v (namesF (bl s)) w' := by
  by_cases h1 : s.size < 1
  · have hok := ok_no (l := bl s) (by rw [bl_len]; omega)
    obtain ⟨e1, e2⟩ := names_no hok
    rw [hok, e1, e2]
    have t1 : (s.size : Int) < 1 := by omega
    clear h1 hok e1 e2
    go_enter Try.func23, Try.ntmps23
    go_wp2
    exact bodyPost_ret (by simp [results, Try.results23, go_sem]) rfl ⟨_, rfl, OwnS.nil w⟩
  have t1 : ¬ (s.size : Int) < 1 := by omega
  by_cases h2 : 60 < s.size
  · have hok := ok_no (l := bl s) (by rw [bl_len]; omega)
    obtain ⟨e1, e2⟩ := names_no hok
    rw [hok, e1, e2]
    have t2 : (60 : Int) < s.size := by omega
    clear hok e1 e2
    go_enter Try.func23, Try.ntmps23
    go_wp2
    exact bodyPost_ret (by simp [results, Try.results23, go_sem]) rfl ⟨_, rfl, OwnS.nil w⟩
  have t2 : ¬ (60 : Int) < s.size := by omega
  go_enter Try.func23, Try.ntmps23
  go_wp2
  go_loopw [5, 6] (fun v x wr => ∃ (j : Nat) (done : List Bs), x = .int .i64 j ∧ j ≤ s.size + 1 ∧ Hid (cutF (bl s) [] = done ++ cutF ((bl s).drop j) []) ∧ Hid (∀ x ∈ done, rightF x = true) ∧ Hid (OwnS w v done wr)) (fun _ x _ => s.size + 1 - (intOf x).toNat)
  case atStart => exact ⟨0, [], rfl, Nat.zero_le _, rfl, (fun x hx => absurd hx (by simp)), OwnS.nil w⟩
  case round =>
    obtain ⟨j, done, rfl, hj, HE, HR, HO⟩ := hrel
    by_cases hlt : j < s.size
    · have t3 : (j : Int) < s.size := by omega
      obtain ⟨r, hr⟩ : ∃ r, s.extract j s.size = r := ⟨_, rfl⟩
      have hrl : bl r = (bl s).drop j := by
        rw [← hr, bl_extract, List.take_of_length_le]
        rw [List.length_drop, bl_len]; omega
      have hrs : r.size = s.size - j := by rw [← bl_len, hrl, List.length_drop, bl_len]
      have A := ahead_w r 47 47 rfl (by omega)
      obtain ⟨a, ha⟩ : ∃ a, ahd (bl r) 47 = a := ⟨_, rfl⟩
      have hle := ahd_le (bl r) 47
      rw [bl_len, ha] at hle
      rw [ha] at A
      obtain ⟨t, ht⟩ : ∃ t, s.extract j (j + a) = t := ⟨_, rfl⟩
      have htl : bl t = (bl r).take a := by rw [← ht, bl_extract, hrl, Nat.add_sub_cancel_left]
      have hts : t.size = a := by rw [← bl_len, htl, List.length_take, bl_len]; omega
      have hnext : Hid (cutF ((bl s).drop j) [] = oneF (bl t) ++ cutF ((bl s).drop (j + (a + 1))) []) := by
        show _ = _
        rw [cut_ahead, ← hrl, ha, htl, List.nil_append, hrl, List.drop_drop]
      have T := right_w t (by omega)
      have t4 : (j : Int) + a ≤ s.size := by omega
      clear hrl htl ha
      by_cases hemp : bl t = []
      · have q : t.toList.isEmpty = true := by rw [toList_bl, hemp]; rfl
        have HN : Hid (cutF (bl s) [] = done ++ cutF ((bl s).drop (j + (a + 1))) []) := by
          show _ = _
          rw [HE.out, hnext.out, hemp]; rfl
        clear HE hnext hemp T
        go_wp2_with fail
        refine (A _).mono ?_
        rintro e w1 ⟨rfl, rfl⟩
        go_wp2
        go_roundw
        case rel => exact ⟨j + (a + 1), done, by go_num, by omega, HN.out, HR.out, HO.out⟩
        case measure => simp [intOf]; omega
      have q : t.toList.isEmpty = false := by rw [toList_bl]; cases h : bl t with | nil => exact absurd h hemp | cons x l => rfl
      have HN : Hid (cutF (bl s) [] = (done ++ [bl t]) ++ cutF ((bl s).drop (j + (a + 1))) []) := by
        show _ = _
        rw [HE.out, hnext.out, oneF, if_neg hemp]; simp
      clear HE hnext hemp
      cases hg : rightF (bl t) with
      | false =>
        have hok := ok_bad (l := bl s) (x := bl t) (by rw [HN.out]; simp) hg
        have HF : Hid (okF (bl s) = false ∧ namesF (bl s) = [] ∧ absF (bl s) = false) := ⟨hok, names_no hok⟩
        rw [hg] at T
        have HK : Hid (Kept (fun _ => False) w wr) := HO.out.kept
        clear hok hg HN HO
        go_wp2_with fail
        refine (A _).mono ?_
        rintro e w1 ⟨rfl, rfl⟩
        go_wp2_with fail
        refine (T _).mono ?_
        rintro e w2 ⟨rfl, rfl⟩
        go_wp2
        exact bodyPost_ret (by simp [results, Try.results23, go_sem]) rfl ⟨_, ret3 (v := .slice none 0 0) (a := false) (b := false) HF.out.2.2.symm HF.out.1.symm, by rw [HF.out.2.1]; exact OwnS.none HK.out⟩
      | true =>
        rw [hg] at T
        have HR2 : Hid (∀ x ∈ done ++ [bl t], rightF x = true) := by
          intro x hx
          rcases List.mem_append.1 hx with h | h
          · exact HR.out x h
          · simp at h; rw [h]; exact hg
        have C := clone_w t (by omega)
        have hdl : Hid (done.length ≤ s.size + 1) := by
          have h1 := cut_len (bl s) []
          rw [HN.out, bl_len] at h1
          simp at h1
          show _ ≤ _
          omega
        clear hg
        go_wp2_with fail
        refine (A _).mono ?_
        rintro e w1 ⟨rfl, rfl⟩
        go_wp2_with fail
        refine (T _).mono ?_
        rintro e w2 ⟨rfl, rfl⟩
        go_wp2_with fail
        refine (C _).mono ?_
        rintro e w3 ⟨rfl, hk⟩
        have HO2 : Hid (OwnS w u5 done (w3.alloc (.cells #[.string t] 9))) := (HO.out.still hk).alloc _
        have HS : Hid (SrcS (.slice (some ⟨w3.heap.size, 0, none⟩) 1 1) [bl t] (w3.alloc (.cells #[.string t] 9))) := SrcS.row (l := [bl t]) (alloc_at _ _) (by simp [strs, bs_bl]) 1
        clear HO hk T A C
        go_wp2_with (at_builtin; refine list_app rfl _ _ rfl w done [bl t] HO2.out HS.out (by have := hdl.out; simp; omega) ?_; intro v w4 h4 _)
        go_wp2
        go_roundw
        case rel => exact ⟨j + (a + 1), done ++ [bl t], by go_num, by omega, HN.out, HR2.out, h4⟩
        case measure => simp [intOf]; omega
    · have t3 : ¬ (j : Int) < s.size := by omega
      have hnil : (bl s).drop j = [] := List.drop_eq_nil_of_le (by rw [bl_len]; omega)
      have hcut : cutF (bl s) [] = done := by rw [HE.out, hnil]; simp [cut_nil, oneF]
      have hok := ok_yes (l := bl s) (by rw [bl_len]; omega) (by rw [hcut]; exact HR.out)
      obtain ⟨e1, e2⟩ := names_yes hok
      rw [hcut] at e1
      have hlt0 : 0 < s.size := by omega
      have hat := bl_at s hlt0
      obtain ⟨x, hx⟩ : ∃ x : UInt8, s[0] = x := ⟨_, rfl⟩
      rw [hx] at hat
      rw [hat] at e2
      have HF : Hid (okF (bl s) = true ∧ namesF (bl s) = done ∧ absF (bl s) = decide (some x = some 47)) := ⟨hok, e1, e2⟩
      clear hok e1 e2 hcut hnil HE HR hat
      go_wp2_with fail
      go_quiet (fail)
      have HO2 := HO.out.still (kept_drewN _ nq)
      generalize wr.drewN nq = wd at *
      go_wp2
      exact bodyPost_ret (by simp [results, Try.results23, go_sem]) rfl ⟨_, ret3 (v := u5) (a := ((x.toNat : Int)) == 47) (b := true) (by rw [HF.out.2.2, byte_is]) HF.out.1.symm, by rw [HF.out.2.1]; exact HO2⟩

theorem cat_ok (c : ByteArray) (s : ByteArray) (i : Nat) (x : UInt8) (h : (bl s)[i]? = some x) : bl (c ++ s.extract i (i + 1)) = bl c ++ [x] := by
  rw [bl_app, bl_extract]
  congr 1
  rw [Nat.add_sub_cancel_left]
  obtain ⟨hlt, rfl⟩ := List.getElem?_eq_some_iff.1 h
  rw [List.drop_eq_getElem_cons hlt]; rfl

set_option maxHeartbeats 1000000 in
theorem split_r (s : ByteArray) (hs : s.size ≤ 1000000) (w : World) :
    Calls Try.prog 30 #[.string s] w fun e w' => ∃ v, e = .returned (.tuple #[v, .bool (absF (bl s)), .bool (okF (bl s))]) ∧ OwnS w v (namesF (bl s)) w' := by
  by_cases h1 : s.size < 1
  · have hok := ok_no (l := bl s) (by rw [bl_len]; omega)
    obtain ⟨e1, e2⟩ := names_no hok
    rw [hok, e1, e2]
    have t1 : (s.size : Int) < 1 := by omega
    clear h1 hok e1 e2
    go_enter Try.func30, Try.ntmps30
    go_wp2
    exact bodyPost_ret (by simp [results, Try.results30, go_sem]) rfl ⟨_, rfl, OwnS.nil w⟩
  have t1 : ¬ (s.size : Int) < 1 := by omega
  by_cases h2 : 60 < s.size
  · have hok := ok_no (l := bl s) (by rw [bl_len]; omega)
    obtain ⟨e1, e2⟩ := names_no hok
    rw [hok, e1, e2]
    have t2 : (60 : Int) < s.size := by omega
    clear hok e1 e2
    go_enter Try.func30, Try.ntmps30
    go_wp2
    exact bodyPost_ret (by simp [results, Try.results30, go_sem]) rfl ⟨_, rfl, OwnS.nil w⟩
  have t2 : ¬ (60 : Int) < s.size := by omega
  go_enter Try.func30, Try.ntmps30
  go_wp2
  go_loopw [5, 6, 7] (fun v y z wr => ∃ (i : Nat) (c : ByteArray) (done : List Bs), y = .string c ∧ z = .int .i64 i ∧ Hid ((i ≤ s.size ∧ c.size ≤ i ∧ cutF (bl s) [] = done ++ cutF ((bl s).drop i) (bl c)) ∨ (i = s.size + 1 ∧ cutF (bl s) [] = done)) ∧ Hid (∀ x ∈ done, rightF x = true) ∧ Hid (OwnS w v done wr)) (fun _ _ z _ => s.size + 2 - (intOf z).toNat)
  case atStart => exact ⟨0, ⟨#[]⟩, [], rfl, rfl, .inl ⟨Nat.zero_le _, Nat.le_refl _, rfl⟩, (fun x hx => absurd hx (by simp)), OwnS.nil w⟩
  case round =>
    obtain ⟨i, c, done, rfl, rfl, HC, HR, HO⟩ := hrel
    by_cases hend : i ≤ s.size
    · have t3 : (i : Int) ≤ s.size := by omega
      obtain ⟨hcs, HE⟩ : c.size ≤ i ∧ Hid (cutF (bl s) [] = done ++ cutF ((bl s).drop i) (bl c)) := by
        rcases HC.out with ⟨_, a, b⟩ | ⟨a, _⟩
        · exact ⟨a, b⟩
        · omega
      clear HC
      by_cases hstep : ∃ x, (bl s)[i]? = some x ∧ x ≠ 47
      · obtain ⟨x, hat, hx⟩ := hstep
        have hlt : i < s.size := by
          have := (List.getElem?_eq_some_iff.1 hat).1
          rwa [bl_len] at this
        have t4 : (i : Int) < s.size := by omega
        have hat2 := bl_at s hlt
        rw [hat] at hat2
        have hxx : s[i] = x := (Option.some.inj hat2).symm
        have b1 := byte_ne x 47 47 rfl
        rw [decide_eq_false hx] at b1
        have t5 : (i : Int) + 1 ≤ s.size := by omega
        have HN : Hid (cutF (bl s) [] = done ++ cutF ((bl s).drop (i + 1)) (bl (c ++ s.extract i (i + 1)))) := by
          show _ = _
          rw [HE.out, cat_ok c s i x hat]
          obtain ⟨hlt2, hxe⟩ := List.getElem?_eq_some_iff.1 hat
          rw [List.drop_eq_getElem_cons hlt2, hxe, cut_other hx]
        have hcs2 : (c ++ s.extract i (i + 1)).size ≤ i + 1 := by
          rw [← bl_len, cat_ok c s i x hat, List.length_append, bl_len]
          simp; omega
        clear hat hat2 hx HE
        go_wp2
        go_roundw
        case rel => exact ⟨i + 1, _, done, rfl, by go_num, .inl ⟨by omega, hcs2, HN.out⟩, HR.out, HO.out⟩
        case measure => simp [intOf]; omega
      · obtain ⟨rest, hrest, hnx⟩ : ∃ rest, cutF ((bl s).drop i) (bl c) = oneF (bl c) ++ rest ∧ ∀ d, cutF (bl s) [] = d ++ rest → ((i + 1 ≤ s.size ∧ (⟨#[]⟩ : ByteArray).size ≤ i + 1 ∧ cutF (bl s) [] = d ++ cutF ((bl s).drop (i + 1)) (bl ⟨#[]⟩)) ∨ (i + 1 = s.size + 1 ∧ cutF (bl s) [] = d)) := by
          by_cases hlt : i < s.size
          · have hat := bl_at s hlt
            have hx : s[i] = 47 := Classical.byContradiction fun e => hstep ⟨_, hat, e⟩
            rw [hx] at hat
            obtain ⟨hlt2, hxe⟩ := List.getElem?_eq_some_iff.1 hat
            refine ⟨cutF ((bl s).drop (i + 1)) [], ?_, fun d hd => .inl ⟨by omega, Nat.zero_le _, hd⟩⟩
            rw [List.drop_eq_getElem_cons hlt2, hxe, cut_slash]
          · refine ⟨[], ?_, fun d hd => .inr ⟨by omega, by rw [hd, List.append_nil]⟩⟩
            rw [List.drop_eq_nil_of_le (by rw [bl_len]; omega), cut_nil, List.append_nil]
        have HNX : Hid (∀ d, cutF (bl s) [] = d ++ rest → ((i + 1 ≤ s.size ∧ (⟨#[]⟩ : ByteArray).size ≤ i + 1 ∧ cutF (bl s) [] = d ++ cutF ((bl s).drop (i + 1)) (bl ⟨#[]⟩)) ∨ (i + 1 = s.size + 1 ∧ cutF (bl s) [] = d))) := hnx
        have HE2 : Hid (cutF (bl s) [] = done ++ (oneF (bl c) ++ rest)) := by
          show _ = _
          rw [HE.out, hrest]
        clear hnx hrest HE
        obtain ⟨x, ht⟩ : ∃ x : UInt8, ((i : Int) < s.size ∧ (∀ h : i < s.size, s[i] = x) ∧ ((x.toNat : Int) != 47) = false) ∨ ¬ (i : Int) < s.size := by
          by_cases hlt : i < s.size
          · have hat := bl_at s hlt
            have hx : s[i] = 47 := Classical.byContradiction fun e => hstep ⟨_, hat, e⟩
            exact ⟨47, .inl ⟨by omega, fun _ => hx, rfl⟩⟩
          · exact ⟨0, .inr (by omega)⟩
        clear hstep
        have T := right_r c (by omega)
        by_cases hemp : bl c = []
        · have q2 : c.toList.isEmpty = true := by rw [toList_bl, hemp]; rfl
          have HN := HNX.out done (by rw [HE2.out, hemp]; rfl)
          have HN2 : Hid _ := HN
          clear HN HNX HE2 T hemp
          rcases ht with ⟨t4, hx, b1⟩ | t4
          · have hxx := hx (by omega)
            clear hx
            go_wp2
            go_roundw
            case rel => exact ⟨i + 1, _, done, rfl, by go_num, HN2.out, HR.out, HO.out⟩
            case measure => simp [intOf]; omega
          · go_wp2
            go_roundw
            case rel => exact ⟨i + 1, _, done, rfl, by go_num, HN2.out, HR.out, HO.out⟩
            case measure => simp [intOf]; omega
        · have q2 : c.toList.isEmpty = false := by rw [toList_bl]; cases h : bl c with | nil => exact absurd h hemp | cons x l => rfl
          have HE3 : Hid (cutF (bl s) [] = (done ++ [bl c]) ++ rest) := by
            show _ = _
            rw [HE2.out, oneF, if_neg hemp]; simp
          clear HE2 hemp
          cases hg : rightF (bl c) with
          | false =>
            have hok := ok_bad (l := bl s) (x := bl c) (by rw [HE3.out]; simp) hg
            have HF : Hid (okF (bl s) = false ∧ namesF (bl s) = [] ∧ absF (bl s) = false) := ⟨hok, names_no hok⟩
            rw [hg] at T
            have HK : Hid (Kept (fun _ => False) w wr) := HO.out.kept
            clear hok hg HE3 HO HNX
            rcases ht with ⟨t4, hx, b1⟩ | t4
            · have hxx := hx (by omega)
              clear hx
              go_wp2_with fail
              refine (T _).mono ?_
              rintro e w1 ⟨rfl, rfl⟩
              go_wp2
              exact bodyPost_ret (by simp [results, Try.results30, go_sem]) rfl ⟨_, ret3 (v := .slice none 0 0) (a := false) (b := false) HF.out.2.2.symm HF.out.1.symm, by rw [HF.out.2.1]; exact OwnS.none HK.out⟩
            · go_wp2_with fail
              refine (T _).mono ?_
              rintro e w1 ⟨rfl, rfl⟩
              go_wp2
              exact bodyPost_ret (by simp [results, Try.results30, go_sem]) rfl ⟨_, ret3 (v := .slice none 0 0) (a := false) (b := false) HF.out.2.2.symm HF.out.1.symm, by rw [HF.out.2.1]; exact OwnS.none HK.out⟩
          | true =>
            rw [hg] at T
            have HR2 : Hid (∀ x ∈ done ++ [bl c], rightF x = true) := by
              intro x hx
              rcases List.mem_append.1 hx with h | h
              · exact HR.out x h
              · simp at h; rw [h]; exact hg
            have hdl : Hid (done.length ≤ s.size + 1) := by
              have h1 := cut_len (bl s) []
              rw [HE3.out, bl_len] at h1
              simp at h1
              show _ ≤ _
              omega
            have HN2 : Hid _ := HNX.out (done ++ [bl c]) HE3.out
            clear hg HE3 HNX
            rcases ht with ⟨t4, hx, b1⟩ | t4
            · have hxx := hx (by omega)
              clear hx
              go_wp2_with fail
              refine (T _).mono ?_
              rintro e w1 ⟨rfl, rfl⟩
              have HO2 : Hid (OwnS w u5 done (w1.alloc (.cells #[.string c] 9))) := HO.out.alloc _
              have HS : Hid (SrcS (.slice (some ⟨w1.heap.size, 0, none⟩) 1 1) [bl c] (w1.alloc (.cells #[.string c] 9))) := SrcS.row (l := [bl c]) (alloc_at _ _) (by simp [strs, bs_bl]) 1
              clear HO T
              go_wp2_with (at_builtin; refine list_app rfl _ _ rfl w done [bl c] HO2.out HS.out (by have := hdl.out; simp; omega) ?_; intro v w4 h4 _)
              go_wp2
              go_roundw
              case rel => exact ⟨i + 1, _, done ++ [bl c], rfl, by go_num, HN2.out, HR2.out, h4⟩
              case measure => simp [intOf]; omega
            · go_wp2_with fail
              refine (T _).mono ?_
              rintro e w1 ⟨rfl, rfl⟩
              have HO2 : Hid (OwnS w u5 done (w1.alloc (.cells #[.string c] 9))) := HO.out.alloc _
              have HS : Hid (SrcS (.slice (some ⟨w1.heap.size, 0, none⟩) 1 1) [bl c] (w1.alloc (.cells #[.string c] 9))) := SrcS.row (l := [bl c]) (alloc_at _ _) (by simp [strs, bs_bl]) 1
              clear HO T
              go_wp2_with (at_builtin; refine list_app rfl _ _ rfl w done [bl c] HO2.out HS.out (by have := hdl.out; simp; omega) ?_; intro v w4 h4 _)
              go_wp2
              go_roundw
              case rel => exact ⟨i + 1, _, done ++ [bl c], rfl, by go_num, HN2.out, HR2.out, h4⟩
              case measure => simp [intOf]; omega
    · have t3 : ¬ (i : Int) ≤ s.size := by omega
      have hcut : cutF (bl s) [] = done := by
        rcases HC.out with ⟨a, _⟩ | ⟨_, b⟩
        · omega
        · exact b
      have hok := ok_yes (l := bl s) (by rw [bl_len]; omega) (by rw [hcut]; exact HR.out)
      obtain ⟨e1, e2⟩ := names_yes hok
      rw [hcut] at e1
      have hlt0 : 0 < s.size := by omega
      have hat := bl_at s hlt0
      obtain ⟨x, hx⟩ : ∃ x : UInt8, s[0] = x := ⟨_, rfl⟩
      rw [hx] at hat
      rw [hat] at e2
      have HF : Hid (okF (bl s) = true ∧ namesF (bl s) = done ∧ absF (bl s) = decide (some x = some 47)) := ⟨hok, e1, e2⟩
      clear hok e1 e2 hcut HC HR hat
      go_wp2_with fail
      go_quiet (fail)
      have HO2 := HO.out.still (kept_drewN _ nq)
      generalize wr.drewN nq = wd at *
      go_wp2
      exact bodyPost_ret (by simp [results, Try.results30, go_sem]) rfl ⟨_, ret3 (v := u5) (a := ((x.toNat : Int)) == 47) (b := true) (by rw [HF.out.2.2, byte_is]) HF.out.1.symm, by rw [HF.out.2.1]; exact HO2⟩
end Go.Proofs.Ythonlakpgncinaa.Nm
