/- What the document's own RightName, Pack and Split do when they are called; no conditions but a length. -/
import Derived.Test.YtaemchmjajbadaaUnp
namespace Go.Proofs.Ytaemchmjajbadaa
open Go.RowKit

theorem right_no {l : Bs} {i : Nat} {x : UInt8} (h : l[i]? = some x) (hx : x = 47 ∨ x = 0) : rightF l = false := by
  cases hr : rightF l with
  | false => rfl
  | true =>
    have := right_iff.1 hr
    have hm : x ∈ l := List.mem_of_getElem? h
    rcases hx with rfl | rfl
    · exact absurd hm this.2.2.1
    · exact absurd hm this.2.2.2

theorem right_all {l : Bs} (h1 : l.length ≤ ahd l 47) (h2 : l.length ≤ ahd l 0) : rightF l = (decide (1 ≤ l.length) && decide (l.length ≤ 14)) := by
  have e1 : ahd l 47 = l.length := Nat.le_antisymm (ahd_le _ _) h1
  have e2 : ahd l 0 = l.length := Nat.le_antisymm (ahd_le _ _) h2
  unfold rightF
  simp [e1, e2]

theorem byte_eq (x y : UInt8) (c : Int) (hc : (y.toNat : Int) = c) : (((x.toNat : Int)) == c) = decide (x = y) := by
  rw [← hc, Bool.eq_iff_iff, beq_iff_eq, decide_eq_true_eq]
  constructor
  · intro h; exact UInt8.toNat_inj.1 (by omega)
  · rintro rfl; rfl
theorem byte_ne (x y : UInt8) (c : Int) (hc : (y.toNat : Int) = c) : (((x.toNat : Int)) != c) = !decide (x = y) := by
  rw [bne, byte_eq x y c hc]

theorem right_r (s : ByteArray) (hs : s.size ≤ 1000000) (w : World) :
    Calls Try.prog 15 #[.string s] w fun e w' => e = .returned (.bool (rightF (bl s))) ∧ w' = w := by
  go_enter Try.func15, Try.ntmps15
  go_wp2
  go_loop [3] (fun x => ∃ i : Nat, x = .int .i64 i ∧ i ≤ s.size ∧ Hid (i ≤ ahd (bl s) 47 ∧ i ≤ ahd (bl s) 0)) (fun x => s.size + 1 - (intOf x).toNat)
  case atStart => exact ⟨0, rfl, Nat.zero_le _, Nat.zero_le _, Nat.zero_le _⟩
  case round =>
    obtain ⟨i, rfl, hi, HA⟩ := hrel
    by_cases hlt : i < s.size
    · have t1 : (i : Int) < s.size := by omega
      have hat := bl_at s hlt
      obtain ⟨x, hx⟩ : ∃ x : UInt8, s[i] = x := ⟨_, rfl⟩
      rw [hx] at hat
      have b1 := byte_eq x 47 47 rfl
      have b2 := byte_eq x 0 0 rfl
      by_cases h1 : x = 47
      · have hr := right_no hat (.inl h1)
        rw [decide_eq_true h1] at b1
        clear b2 h1
        go_wp2
        go_ret
        exact ⟨rfl, rfl⟩
      · rw [decide_eq_false h1] at b1
        by_cases h2 : x = 0
        · have hr := right_no hat (.inr h2)
          rw [decide_eq_true h2] at b2
          clear h1 h2
          go_wp2
          go_ret
          exact ⟨rfl, rfl⟩
        · rw [decide_eq_false h2] at b2
          have HN : Hid (i + 1 ≤ ahd (bl s) 47 ∧ i + 1 ≤ ahd (bl s) 0) := ⟨ahd_go HA.out.1 hat h1, ahd_go HA.out.2 hat h2⟩
          clear h1 h2 HA
          go_wp2
          go_round
          case rel => exact ⟨i + 1, by simp, by omega, HN.out⟩
          case measure => simp [intOf]; omega
    · have t1 : ¬ (i : Int) < s.size := by omega
      have hr := right_all (l := bl s) (by rw [bl_len]; have := HA.out.1; omega) (by rw [bl_len]; have := HA.out.2; omega)
      rw [bl_len] at hr
      have HR : Hid (rightF (bl s) = (decide (1 ≤ s.size) && decide (s.size ≤ 14))) := hr
      clear hr HA
      by_cases h1 : 1 ≤ s.size
      · have t2 : (1 : Int) ≤ s.size := by omega
        by_cases h2 : s.size ≤ 14
        · have t3 : (s.size : Int) ≤ 14 := by omega
          go_wp2
          go_ret
          refine ⟨ret_bool ?_, rfl⟩
          rw [HR.out]; simp [h1, h2]
        · have t3 : ¬ (s.size : Int) ≤ 14 := by omega
          go_wp2
          go_ret
          refine ⟨ret_bool ?_, rfl⟩
          rw [HR.out]; simp [h2]
      · have t2 : ¬ (1 : Int) ≤ s.size := by omega
        go_wp2
        go_ret
        refine ⟨ret_bool ?_, rfl⟩
        rw [HR.out]; simp [h1]

set_option maxHeartbeats 1000000 in
theorem pack_r (s : ByteArray) (n : Int) (w : World) :
    Calls Try.prog 16 #[.string s, .int .i64 n] w fun e w' => e = .returned (.string (bs (packF (bl s) n))) ∧ Kept (fun _ => False) w w' := by
  obtain ⟨i0, hi, hz0, hz1, hz2⟩ := info_parts info_byte
  have hmk : ∀ W : World, (Instr.makeSlice 35 (.int .i64 16) (.int .i64 16)).run Try.prog W = .ok (.slice (some ⟨W.heap.size, 0, none⟩) 16 16) (W.alloc (.cells zero16 5)) := fun W => by
    have h := run_make (P := Try.prog) W 35 5 i0 (.int .u8 0) Try.underlying35 hi hz0 .i64 .i64 16 16 (by omega) (by omega) (by rw [hz2]; omega) (by omega)
    rw [hz1] at h
    have e : madeCells (Value.int .u8 0).cells ((16 : Int).toNat * 1) = zero16 := by kernel_rfl
    rw [e] at h
    simpa using h
  obtain ⟨m, Y, wY, hcp, hgY, hY, hk⟩ := copy_in (w.alloc (.cells zero16 5)) w.heap.size 5 3 s (heap_alloc_new w _)
  have hK : Kept (fun _ => False) w wY := ((Kept.refl (fun _ => False) w).alloc _).trans hk (fun k hk e => by subst e; simp at hk)
  have c14 := cell_at hgY (i := 14) (list_at hY (x := (halfF (bl s))[14]'(by rw [half_len]; decide)) (List.getElem?_eq_getElem _))
  have c15 := cell_at hgY (i := 15) (list_at hY (x := (halfF (bl s))[15]'(by rw [half_len]; decide)) (List.getElem?_eq_getElem _))
  have f14 := free_at hgY 14
  have f15 := free_at hgY 15
  have ho := fun a b ha hb => pack_out wY w.heap.size 5 Y (bl s) n a b hgY hY ha hb
  generalize (halfF (bl s))[14]'(by rw [half_len]; decide) = x14 at c14
  generalize (halfF (bl s))[15]'(by rw [half_len]; decide) = x15 at c15
  clear hgY hY hk hi hz0 hz1 hz2
  go_enter Try.func16, Try.ntmps16
  go_wp2
  go_ret
  refine ⟨rfl, Kept.setCell (Kept.setCell hK ?_ _) ?_ _⟩
  · intro h; exact absurd h (Nat.lt_irrefl _)
  · intro h; exact absurd h (Nat.lt_irrefl _)

theorem cat_ok (c : ByteArray) (s : ByteArray) (i : Nat) (x : UInt8) (h : (bl s)[i]? = some x) : bl (c ++ s.extract i (i + 1)) = bl c ++ [x] := by
  rw [bl_app, bl_extract]
  congr 1
  rw [Nat.add_sub_cancel_left]
  obtain ⟨hlt, rfl⟩ := List.getElem?_eq_some_iff.1 h
  rw [List.drop_eq_getElem_cons hlt]; rfl

set_option maxHeartbeats 1000000 in
theorem split_r (s : ByteArray) (hs : s.size ≤ 1000000) (w : World) :
    Calls Try.prog 12 #[.string s] w fun e w' => ∃ v, e = .returned (.tuple #[v, .bool (absF (bl s)), .bool (okF (bl s))]) ∧ OwnS w v (namesF (bl s)) w' := by
  by_cases h1 : s.size < 1
  · have hok := ok_no (l := bl s) (by rw [bl_len]; omega)
    obtain ⟨e1, e2⟩ := names_no hok
    rw [hok, e1, e2]
    have t1 : (s.size : Int) < 1 := by omega
    clear h1 hok e1 e2
    go_enter Try.func12, Try.ntmps12
    go_wp2
    exact bodyPost_ret (by simp [results, Try.results12, go_sem]) rfl ⟨_, rfl, OwnS.nil w⟩
  have t1 : ¬ (s.size : Int) < 1 := by omega
  by_cases h2 : 60 < s.size
  · have hok := ok_no (l := bl s) (by rw [bl_len]; omega)
    obtain ⟨e1, e2⟩ := names_no hok
    rw [hok, e1, e2]
    have t2 : (60 : Int) < s.size := by omega
    clear hok e1 e2
    go_enter Try.func12, Try.ntmps12
    go_wp2
    exact bodyPost_ret (by simp [results, Try.results12, go_sem]) rfl ⟨_, rfl, OwnS.nil w⟩
  have t2 : ¬ (60 : Int) < s.size := by omega
  go_enter Try.func12, Try.ntmps12
  go_wp2
  go_loopw [5, 6, 7] (fun v y z wr => ∃ (i : Nat) (c : ByteArray) (done : List Bs), y = .string c ∧ z = .int .i64 i ∧ Hid ((i ≤ s.size ∧ c.size ≤ i ∧ cutF (bl s) [] = done ++ cutF ((bl s).drop i) (bl c)) ∨ (i = s.size + 1 ∧ cutF (bl s) [] = done)) ∧ Hid (∀ x ∈ done, rightF x = true) ∧ Hid (OwnS w v done wr)) (fun _ _ z _ => s.size + 2 - (intOf z).toNat)
  case atStart => exact ⟨0, ⟨#[]⟩, [], rfl, rfl, .inl ⟨Nat.zero_le _, Nat.le_refl _, rfl⟩, (fun x hx => absurd hx (by simp)), OwnS.nil w⟩
  case round =>
    obtain ⟨i, c, done, rfl, rfl, HC, HR, HO⟩ := hrel
    by_cases hend : i ≤ s.size
    · have t3 : (i : Int) ≤ s.size := by omega
      obtain ⟨hcs, HE⟩ : c.size ≤ i ∧ Hid (cutF (bl s) [] = done ++ cutF ((bl s).drop i) (bl c)) := by
        rcases HC.out with ⟨_, a, b⟩ | ⟨a, _⟩
        · exact ⟨a, b⟩
        · omega
      clear HC
      by_cases hstep : ∃ x, (bl s)[i]? = some x ∧ x ≠ 47
      · obtain ⟨x, hat, hx⟩ := hstep
        have hlt : i < s.size := by
          have := (List.getElem?_eq_some_iff.1 hat).1
          rwa [bl_len] at this
        have t4 : (i : Int) < s.size := by omega
        have hat2 := bl_at s hlt
        rw [hat] at hat2
        have hxx : s[i] = x := (Option.some.inj hat2).symm
        have b1 := byte_ne x 47 47 rfl
        rw [decide_eq_false hx] at b1
        have t5 : (i : Int) + 1 ≤ s.size := by omega
        have HN : Hid (cutF (bl s) [] = done ++ cutF ((bl s).drop (i + 1)) (bl (c ++ s.extract i (i + 1)))) := by
          show _ = _
          rw [HE.out, cat_ok c s i x hat]
          obtain ⟨hlt2, hxe⟩ := List.getElem?_eq_some_iff.1 hat
          rw [List.drop_eq_getElem_cons hlt2, hxe, cut_other hx]
        have hcs2 : (c ++ s.extract i (i + 1)).size ≤ i + 1 := by
          rw [← bl_len, cat_ok c s i x hat, List.length_append, bl_len]
          simp; omega
        clear hat hat2 hx HE
        go_wp2
        go_roundw
        case rel => exact ⟨i + 1, _, done, rfl, by go_num, .inl ⟨by omega, hcs2, HN.out⟩, HR.out, HO.out⟩
        case measure => simp [intOf]; omega
      · obtain ⟨rest, hrest, hnx⟩ : ∃ rest, cutF ((bl s).drop i) (bl c) = oneF (bl c) ++ rest ∧ ∀ d, cutF (bl s) [] = d ++ rest → ((i + 1 ≤ s.size ∧ (⟨#[]⟩ : ByteArray).size ≤ i + 1 ∧ cutF (bl s) [] = d ++ cutF ((bl s).drop (i + 1)) (bl ⟨#[]⟩)) ∨ (i + 1 = s.size + 1 ∧ cutF (bl s) [] = d)) := by
          by_cases hlt : i < s.size
          · have hat := bl_at s hlt
            have hx : s[i] = 47 := Classical.byContradiction fun e => hstep ⟨_, hat, e⟩
            rw [hx] at hat
            obtain ⟨hlt2, hxe⟩ := List.getElem?_eq_some_iff.1 hat
            refine ⟨cutF ((bl s).drop (i + 1)) [], ?_, fun d hd => .inl ⟨by omega, Nat.zero_le _, hd⟩⟩
            rw [List.drop_eq_getElem_cons hlt2, hxe, cut_slash]
          · refine ⟨[], ?_, fun d hd => .inr ⟨by omega, by rw [hd, List.append_nil]⟩⟩
            rw [List.drop_eq_nil_of_le (by rw [bl_len]; omega), cut_nil, List.append_nil]
        have HNX : Hid (∀ d, cutF (bl s) [] = d ++ rest → ((i + 1 ≤ s.size ∧ (⟨#[]⟩ : ByteArray).size ≤ i + 1 ∧ cutF (bl s) [] = d ++ cutF ((bl s).drop (i + 1)) (bl ⟨#[]⟩)) ∨ (i + 1 = s.size + 1 ∧ cutF (bl s) [] = d))) := hnx
        have HE2 : Hid (cutF (bl s) [] = done ++ (oneF (bl c) ++ rest)) := by
          show _ = _
          rw [HE.out, hrest]
        clear hnx hrest HE
        obtain ⟨x, ht⟩ : ∃ x : UInt8, ((i : Int) < s.size ∧ (∀ h : i < s.size, s[i] = x) ∧ ((x.toNat : Int) != 47) = false) ∨ ¬ (i : Int) < s.size := by
          by_cases hlt : i < s.size
          · have hat := bl_at s hlt
            have hx : s[i] = 47 := Classical.byContradiction fun e => hstep ⟨_, hat, e⟩
            exact ⟨47, .inl ⟨by omega, fun _ => hx, rfl⟩⟩
          · exact ⟨0, .inr (by omega)⟩
        clear hstep
        have T := right_r c (by omega)
        by_cases hemp : bl c = []
        · have q2 : c.toList.isEmpty = true := by rw [toList_bl, hemp]; rfl
          have HN := HNX.out done (by rw [HE2.out, hemp]; rfl)
          have HN2 : Hid _ := HN
          clear HN HNX HE2 T hemp
          rcases ht with ⟨t4, hx, b1⟩ | t4
          · have hxx := hx (by omega)
            clear hx
            go_wp2
            go_roundw
            case rel => exact ⟨i + 1, _, done, rfl, by go_num, HN2.out, HR.out, HO.out⟩
            case measure => simp [intOf]; omega
          · go_wp2
            go_roundw
            case rel => exact ⟨i + 1, _, done, rfl, by go_num, HN2.out, HR.out, HO.out⟩
            case measure => simp [intOf]; omega
        · have q2 : c.toList.isEmpty = false := by rw [toList_bl]; cases h : bl c with | nil => exact absurd h hemp | cons x l => rfl
          have HE3 : Hid (cutF (bl s) [] = (done ++ [bl c]) ++ rest) := by
            show _ = _
            rw [HE2.out, oneF, if_neg hemp]; simp
          clear HE2 hemp
          cases hg : rightF (bl c) with
          | false =>
            have hok := ok_bad (l := bl s) (x := bl c) (by rw [HE3.out]; simp) hg
            have HF : Hid (okF (bl s) = false ∧ namesF (bl s) = [] ∧ absF (bl s) = false) := ⟨hok, names_no hok⟩
            rw [hg] at T
            have HK : Hid (Kept (fun _ => False) w wr) := HO.out.kept
            clear hok hg HE3 HO HNX
            rcases ht with ⟨t4, hx, b1⟩ | t4
            · have hxx := hx (by omega)
              clear hx
              go_wp2_with fail
              refine (T _).mono ?_
              rintro e w1 ⟨rfl, rfl⟩
              go_wp2
              exact bodyPost_ret (by simp [results, Try.results12, go_sem]) rfl ⟨_, ret3 (v := .slice none 0 0) (a := false) (b := false) HF.out.2.2.symm HF.out.1.symm, by rw [HF.out.2.1]; exact OwnS.none HK.out⟩
            · go_wp2_with fail
              refine (T _).mono ?_
              rintro e w1 ⟨rfl, rfl⟩
              go_wp2
              exact bodyPost_ret (by simp [results, Try.results12, go_sem]) rfl ⟨_, ret3 (v := .slice none 0 0) (a := false) (b := false) HF.out.2.2.symm HF.out.1.symm, by rw [HF.out.2.1]; exact OwnS.none HK.out⟩
          | true =>
            rw [hg] at T
            have HR2 : Hid (∀ x ∈ done ++ [bl c], rightF x = true) := by
              intro x hx
              rcases List.mem_append.1 hx with h | h
              · exact HR.out x h
              · simp at h; rw [h]; exact hg
            have hdl : Hid (done.length ≤ s.size + 1) := by
              have h1 := cut_len (bl s) []
              rw [HE3.out, bl_len] at h1
              simp at h1
              show _ ≤ _
              omega
            have HN2 : Hid _ := HNX.out (done ++ [bl c]) HE3.out
            clear hg HE3 HNX
            rcases ht with ⟨t4, hx, b1⟩ | t4
            · have hxx := hx (by omega)
              clear hx
              go_wp2_with fail
              refine (T _).mono ?_
              rintro e w1 ⟨rfl, rfl⟩
              have HO2 : Hid (OwnS w u5 done (w1.alloc (.cells #[.string c] 9))) := HO.out.alloc _
              have HS : Hid (SrcS (.slice (some ⟨w1.heap.size, 0, none⟩) 1 1) [bl c] (w1.alloc (.cells #[.string c] 9))) := SrcS.row (l := [bl c]) (alloc_at _ _) (by simp [strs, bs_bl]) 1
              clear HO T
              go_wp2_with (at_builtin; refine list_app rfl _ _ rfl w done [bl c] HO2.out HS.out (by have := hdl.out; simp; omega) ?_; intro v w4 h4 _)
              go_wp2
              go_roundw
              case rel => exact ⟨i + 1, _, done ++ [bl c], rfl, by go_num, HN2.out, HR2.out, h4⟩
              case measure => simp [intOf]; omega
            · go_wp2_with fail
              refine (T _).mono ?_
              rintro e w1 ⟨rfl, rfl⟩
              have HO2 : Hid (OwnS w u5 done (w1.alloc (.cells #[.string c] 9))) := HO.out.alloc _
              have HS : Hid (SrcS (.slice (some ⟨w1.heap.size, 0, none⟩) 1 1) [bl c] (w1.alloc (.cells #[.string c] 9))) := SrcS.row (l := [bl c]) (alloc_at _ _) (by simp [strs, bs_bl]) 1
              clear HO T
              go_wp2_with (at_builtin; refine list_app rfl _ _ rfl w done [bl c] HO2.out HS.out (by have := hdl.out; simp; omega) ?_; intro v w4 h4 _)
              go_wp2
              go_roundw
              case rel => exact ⟨i + 1, _, done ++ [bl c], rfl, by go_num, HN2.out, HR2.out, h4⟩
              case measure => simp [intOf]; omega
    · have t3 : ¬ (i : Int) ≤ s.size := by omega
      have hcut : cutF (bl s) [] = done := by
        rcases HC.out with ⟨a, _⟩ | ⟨_, b⟩
        · omega
        · exact b
      have hok := ok_yes (l := bl s) (by rw [bl_len]; omega) (by rw [hcut]; exact HR.out)
      obtain ⟨e1, e2⟩ := names_yes hok
      rw [hcut] at e1
      have hlt0 : 0 < s.size := by omega
      have hat := bl_at s hlt0
      obtain ⟨x, hx⟩ : ∃ x : UInt8, s[0] = x := ⟨_, rfl⟩
      rw [hx] at hat
      rw [hat] at e2
      have HF : Hid (okF (bl s) = true ∧ namesF (bl s) = done ∧ absF (bl s) = decide (some x = some 47)) := ⟨hok, e1, e2⟩
      clear hok e1 e2 hcut HC HR hat
      go_wp2_with fail
      go_quiet (fail)
      have HO2 := HO.out.still (kept_drewN _ nq)
      generalize wr.drewN nq = wd at *
      go_wp2
      exact bodyPost_ret (by simp [results, Try.results12, go_sem]) rfl ⟨_, ret3 (v := u5) (a := ((x.toNat : Int)) == 47) (b := true) (by rw [HF.out.2.2, byte_is]) HF.out.1.symm, by rw [HF.out.2.1]; exact HO2⟩
end Go.Proofs.Ytaemchmjajbadaa
