
/- A path is its parent's walk, and one find more; no conditions. -/
import Derived.Test.YthonlakpgncinaaPaI
import Derived.Deep.CutBlock
namespace Go.Proofs.Ythonlakpgncinaa
open Go.RowKit
set_option maxRecDepth 100000
set_option linter.unusedSimpArgs false

/-- A path of the names L so far, ending in a slash. -/
structure PathP (P : Bs) (L : List Bs) (i : Nat) : Prop where
  cut : Nm.cutF P [] = L
  join : ∀ s, Nm.cutF (P ++ s) [] = L ++ Nm.cutF s []
  right : ∀ x ∈ L, Nm.rightF x = true
  head : P[0]? = some 47
  len : P.length = 1 + 2 * i
theorem path_new : PathP [47] [] 0 where
  cut := by decide
  join := fun s => by show Nm.cutF (47 :: s) [] = _; rw [cut_lead]; rfl
  right := fun x hx => by cases hx
  head := rfl
  len := rfl
theorem cut_app_slash (a b : Bs) : Nm.cutF ((a ++ [47]) ++ b) [] = Nm.cutF a [] ++ Nm.cutF b [] := by rw [List.append_assoc]; exact cut_join a b []
theorem PathP.on {P : Bs} {L : List Bs} {i : Nat} (h : PathP P L i) {c : UInt8} (hr : Nm.rightF [c] = true) : PathP (P ++ [c] ++ [47]) (L ++ [[c]]) (i + 1) where
  cut := by rw [cut_trail, h.join, cut_name hr]
  join := fun s => by rw [cut_app_slash, h.join, cut_name hr]
  right := fun x hx => by
    rcases List.mem_append.1 hx with e | e
    · exact h.right x e
    · rw [List.mem_singleton.1 e]; exact hr
  head := by
    have := h.head
    cases P with
    | nil => cases this
    | cons x P => exact this
  len := by have := h.len; simp; omega
section
variable {g : VwF} {k : Nat} {O : Int → Bs → Option Int} {P : Bs} {L : List Bs} {i : Nat} {a : Int} {c : UInt8}
theorem head_app (h : PathP P L i) (s : Bs) : headF 0 (decide ((P ++ s)[0]? = some 47)) = 1 ∧ ∀ d, headF d (decide ((P ++ s)[0]? = some 47)) = 1 := by
  have hh : (P ++ s)[0]? = some 47 := by
    have := h.head
    cases P with
    | nil => cases this
    | cons x P => exact this
  rw [decide_eq_true hh]
  exact ⟨rfl, fun _ => rfl⟩
/-- A walk one name more. -/
theorem walk_more (hT : TreeF g k O) (hP : PathP P L i) (hi : i ≤ 6) (ha : stepsA f0 g 1 L = some a) (hr : Nm.rightF [c] = true) (d : Int) : walkA f0 g d (P ++ [c]) = inF g a [c] := by
  have hl := hP.len
  rw [tree_walk (l := L ++ [[c]]) (by simp) (by simp; omega) (by rw [hP.join, cut_name hr]) (fun x hx => by
    rcases List.mem_append.1 hx with e | e
    · exact hP.right x e
    · rw [List.mem_singleton.1 e]; exact hr) d ((head_app hP [c]).2 d) hT.isR, hT.steps, ha]
  exact hT.one a [c]
theorem walk_two (hT : TreeF g k O) (hP : PathP P L i) (hi : i ≤ 6) (ha : stepsA f0 g 1 L = some a) (hr : Nm.rightF [c] = true) (d : Int) {s : Bs} (hs : Nm.rightF s = true) (hs2 : s.length ≤ 2) : walkA f0 g d (P ++ [c] ++ 47 :: s) = (inF g a [c]).bind fun n => inF g n s := by
  have hl := hP.len
  have hc : Nm.cutF (P ++ [c] ++ 47 :: s) [] = L ++ [[c]] ++ [s] := by rw [cut_join, hP.join, cut_name hr, cut_name hs]
  rw [tree_walk (l := L ++ [[c]] ++ [s]) (by simp; omega) (by simp; omega) hc (fun x hx => by
    rcases List.mem_append.1 hx with e | e
    · rcases List.mem_append.1 e with e | e
      · exact hP.right x e
      · rw [List.mem_singleton.1 e]; exact hr
    · rw [List.mem_singleton.1 e]; exact hs) d (by rw [List.append_assoc]; exact (head_app hP _).2 d) hT.isR, hT.steps, hT.steps, ha]
  show ((stepsA f0 g a [[c]]).bind fun n => stepsA f0 g n [s]) = _
  rw [hT.one]
  cases inF g a [c] with
  | none => rfl
  | some n => exact hT.one n s
theorem walk_from (hT : TreeF g k O) (hi : isI f0 g a = true) (hr : Nm.rightF [c] = true) : walkA f0 g a [c] = inF g a [c] := by
  have h47 : ([c] : Bs)[0]? ≠ some 47 := by
    have := (Nm.right_iff.1 hr).2.2.1
    intro e
    simp at e this
    exact this e.symm
  rw [tree_walk (l := [[c]]) (by simp) (by simp) (cut_name hr) (fun x hx => by rw [List.mem_singleton.1 hx]; exact hr) a (by rw [decide_eq_false h47]; rfl) hi]
  exact hT.one a [c]
theorem par_more (hT : TreeF g k O) (hP : PathP P L i) (hi : i ≤ 6) (ha : stepsA f0 g 1 L = some a) (hr : Nm.rightF [c] = true) (d : Int) : parA f0 g d (P ++ [c]) = if isDirF f0 g a = true then some (a, [c]) else none := by
  have hl := hP.len
  have hc : Nm.cutF (P ++ [c]) [] = L ++ [[c]] := by rw [hP.join, cut_name hr]
  obtain ⟨e1, e2, e3⟩ := path_is (p := P ++ [c]) (by simp) (by simp; omega) (by
    rw [hc]
    intro x hx
    rcases List.mem_append.1 hx with e | e
    · exact hP.right x e
    · rw [List.mem_singleton.1 e]; exact hr)
  have hal : alongA f0 g 1 L = some a := by unfold alongA; rw [hT.isR, if_pos rfl, steps_find]; exact ha
  unfold parA
  rw [e2, hc, e3, (head_app hP [c]).2 d, if_pos ⟨e1, by simp⟩, List.dropLast_concat, hal]
  simp only [List.getLastD_concat]
  rw [isD_eq (f' := f0) (g' := g) (fun j => alongT_find f0 L g 1 j)]
end

theorem notD_find {g : VwF} {n : Int} (h : isDirF f0 g n = false) (s : Bs) : inF g n s = none := by
  cases hf : inF g n s with
  | none => rfl
  | some m => have := (inF_dir hf).1; rw [h] at this; cases this
theorem bl_app2 (a b : ByteArray) : bl (a ++ b) = bl a ++ bl b := bl_app a b

set_option maxHeartbeats 4000000 in
theorem steps_law (ao : Option Addr) (len cap lb off : Nat) (Q : Nat → QA) (hao : 0 < len → ao = some ⟨lb, off, none⟩) (bo : Option Addr) (ln cp mb of : Nat) (A : Nat → Int) (hbo : 0 < ln → bo = some ⟨mb, of, none⟩) (w : World) (hc : ∀ i, i < len → QAt w lb (off + i * 3) (Q i)) (hd : ∀ i, i < ln → w.cell? ⟨mb, of + i, none⟩ = some (.int .i64 (A i))) :
    Calls Try.prog 5 #[.slice ao len cap, .slice bo ln cp] w fun e w' => e = .returned (.bool true) ∧ Kept (fun _ => False) w w' := by
  have HD : Hid (∀ i, i < ln → w.cell? ⟨mb, of + i, none⟩ = some (.int .i64 (A i))) := hd
  go_enter Try.func5, Try.ntmps5
  go_wp2_with fail
  refine (grown_w ao len cap lb off Q hao w hc).mono ?_
  rintro e w1 ⟨T, p, B, q, N, g, k, O, rfl, hS, hT⟩
  have HT : Hid (TreeF g k O) := hT
  have H0 : Hid (PathP (bl ⟨#[47]⟩) [] 0 ∧ stepsA f0 g 1 [] = some 1 ∧ isI f0 g 1 = true ∧ LookIn w T p B q N g w1) := ⟨path_new, rfl, hT.isR, hS.looks⟩
  clear hS hT hc hao hd
  go_wp2_with fail
  go_loopw [6, 7, 8, 9, 10, 11, 12, 13, 14, 15, 16, 17, 18, 19, 20, 21, 22, 23, 24] (fun pv av iv _ _ _ _ _ _ _ _ _ _ _ _ _ _ _ _ wr => ∃ (r : Nat) (P : ByteArray) (L : List Bs) (a : Int), pv = .string P ∧ av = .int .i64 a ∧ iv = .int .i64 r ∧ r ≤ ln ∧ r ≤ 6 ∧ P.size ≤ 20 ∧ Hid (PathP (bl P) L r ∧ stepsA f0 g 1 L = some a ∧ isI f0 g a = true ∧ LookIn w T p B q N g wr)) (fun _ _ iv _ _ _ _ _ _ _ _ _ _ _ _ _ _ _ _ _ => 6 - (intOf iv).toNat)
  case atStart => exact ⟨0, ⟨#[47]⟩, [], 1, rfl, rfl, rfl, by omega, by omega, by decide, H0.out⟩
  case round =>
    clear H0
    obtain ⟨r, P, L, a, rfl, rfl, rfl, hr1, hr2, hPs, HH⟩ := hrel
    obtain ⟨z, hz⟩ : ∃ z : Bool, decide ((r : Int) < (ln : Int) ∧ (r : Int) < 6) = z := ⟨_, rfl⟩
    go_upto_region 6 with fail
    go_cut [36] from 29 to 36 (fun v wx => v = .bool z ∧ wx = wr)
    case first =>
      as_aux_lemma =>
      by_cases p1 : (r : Int) < (ln : Int)
      · by_cases p2 : (r : Int) < 6
        · have hz' : z = true := by rw [← hz]; simp [p1, p2]
          subst hz'
          clear hz
          go_wp2
          go_meet
          case rel => exact ⟨rfl, rfl⟩
        · have hz' : z = false := by rw [← hz]; simp [p1, p2]
          subst hz'
          clear hz
          go_wp2
          go_meet
          case rel => exact ⟨rfl, rfl⟩
      · have hz' : z = false := by rw [← hz]; simp [p1]
        subst hz'
        clear hz
        go_wp2
        go_meet
        case rel => exact ⟨rfl, rfl⟩
    case rest =>
      obtain ⟨rfl, hwc⟩ := hcut
      subst hwc
      cases z with
      | false =>
        as_aux_lemma =>
        have HK : Hid (Kept (fun _ => False) w wc) := HH.out.2.2.2.kept
        clear hz HH hbo
        go_wp2_with fail
        refine (runs_w wc).mono ?_
        rintro e w4 ⟨rfl, hk4⟩
        have HK4 : Hid (Kept (fun _ => False) w w4) := HK.out.thru hk4
        clear HK hk4
        go_wp2
        go_ret
        exact ⟨rfl, HK4.out⟩
      | true =>
        as_aux_lemma =>
        simp only [decide_eq_true_eq] at hz
        obtain ⟨t1, t2⟩ := hz
        have hl1 : r < ln := by omega
        have h0 := hbo (by omega)
        subst h0
        have e0 := HH.out.2.2.2.kept.cell (HD.out r hl1) (fun x => x)
        clear hbo
        go_wp2_with fail
        refine (within_any (A r) 0 3 (by omega) (by omega) (by omega) wc).mono ?_
        rintro e w5 ⟨rfl, hw⟩
        subst hw
        obtain ⟨n1, hn1⟩ : ∃ n1 : Int, 0 + A r % (3 - 0 + 1) = n1 := ⟨_, rfl⟩
        have n11 : 0 ≤ n1 := by omega
        have n12 : n1 ≤ 3 := by omega
        rw [hn1]
        clear hn1 e0
        obtain ⟨G, hG⟩ : ∃ G : Nat, w5.heap.size = G := ⟨_, rfl⟩
        obtain ⟨c, hcb, hcr, hcd1, hcd2⟩ := letter (b := 97 + n1) (by omega) (by omega)
        have hrow : RowB G [c] (w5.alloc (.cells #[.int .u8 (97 + n1)] 5)) := ⟨_, _, alloc_at' _ hG, by rw [← hcb]; rfl⟩
        have hcv := row_text hrow 1
        obtain ⟨s, hs⟩ : ∃ s : ByteArray, bs [c] = s := ⟨_, rfl⟩
        rw [hs] at hcv
        have hbl : bl s = [c] := by rw [← hs, bl_bs]
        have hss : s.size ≤ 1 := by rw [← hs, bs_size]; exact Nat.le_refl _
        obtain ⟨hPP, hst, hai, hL5⟩ := HH.out
        have hT := HT.out
        have hr6 : r ≤ 6 := by omega
        have W1 : ∀ d, walkA f0 g d (bl (P ++ s)) = inF g a [c] := fun d => by rw [bl_app, hbl]; exact walk_more hT hPP hr6 hst hcr d
        have W2 : parA f0 g 2 (bl (P ++ s)) = if isDirF f0 g a = true then some (a, [c]) else none := by rw [bl_app, hbl]; exact par_more hT hPP hr6 hst hcr 2
        have W3 : walkA f0 g a (bl s) = inF g a [c] := by rw [hbl]; exact walk_from hT hai hcr
        have W4 : walkA f0 g 1 (bl (P ++ s ++ ⟨#[47, 46]⟩)) = (inF g a [c]).bind fun n => inF g n [46] := by
          rw [bl_app, bl_app, hbl]; exact walk_two hT hPP hr6 hst hcr 1 right_dot.1 (by decide)
        have W5 : walkA f0 g 1 (bl (P ++ s ++ ⟨#[47, 46, 46]⟩)) = (inF g a [c]).bind fun n => inF g n [46, 46] := by
          rw [bl_app, bl_app, hbl]; exact walk_two hT hPP hr6 hst hcr 1 right_dot.2 (by decide)
        have HPN : Hid (PathP (bl (P ++ s ++ ⟨#[47]⟩)) (L ++ [[c]]) (r + 1)) := by
          show PathP _ _ _
          rw [bl_app, bl_app, hbl]; exact hPP.on hcr
        have HST : Hid (∀ n, inF g a [c] = some n → stepsA f0 g 1 (L ++ [[c]]) = some n ∧ isI f0 g n = true ∧ isDirF f0 g a = true ∧ (isDirF f0 g n = true → inF g n [46] = some n ∧ inF g n [46, 46] = some a)) := fun n hn => by
          refine ⟨?_, hT.isn hn, (inF_dir hn).1, fun hd => ⟨hT.here hd, hT.up hn hcd1 hcd2 hd⟩⟩
          rw [hT.steps, hst]
          show stepsA f0 g a [[c]] = _
          rw [hT.one]; exact hn
        have hL6 := hL5.still ((Kept.refl (fun _ => False) w5).alloc (.cells #[.int .u8 (97 + n1)] 5))
        have ct := hL6.t
        have p1 : (P ++ s).size ≤ 21 := by rw [← bl_len, bl_app, List.length_append, bl_len, bl_len]; omega
        have p2 : (P ++ s ++ ⟨#[47]⟩).size ≤ 22 := by rw [← bl_len, bl_app, List.length_append, bl_len]; show _ + 1 ≤ 22; omega
        have p3 : (P ++ s ++ ⟨#[47, 46]⟩).size ≤ 23 := by rw [← bl_len, bl_app, List.length_append, bl_len]; show _ + 2 ≤ 23; omega
        have p4 : (P ++ s ++ ⟨#[47, 46, 46]⟩).size ≤ 24 := by rw [← bl_len, bl_app, List.length_append, bl_len]; show _ + 3 ≤ 24; omega
        have hPn : Hid ((P ++ s ++ ⟨#[47]⟩).size ≤ 20) := by
          have := HPN.out.len
          rw [bl_len] at this
          show _ ≤ _
          omega
        clear hrow hcr hcd1 hcd2 hcb hL5 hPP hst hai hT HH
        simp only [List.length_cons, List.length_nil] at hcv
        go_wp2_with fail
        generalize w5.alloc (.cells #[.int .u8 (97 + n1)] 5) = w6 at *
        clear hG hcv n11 n12
        refine (look_dfind hL6 a s (by omega)).mono ?_
        rintro e w7 ⟨rfl, hL7⟩
        rw [hbl]
        clear hL6 ct hbl
        have ct := hL7.t
        obtain ⟨o, ho⟩ : ∃ o, inF g a [c] = o := ⟨_, rfl⟩
        rw [ho] at W1 W3 W4 W5 HST ⊢
        clear ho
        cases o with
        | none =>
          cases hda : isDirF f0 g a with
          | false =>
            rw [hda, if_neg (by simp)] at W2
            as_aux_lemma =>
            rw [found_no]
            go_wp2_with fail
            have V := look_walk hL7 2 (P ++ s) (by omega)
            refine V.mono ?_
            rintro e w8 ⟨rfl, hL8⟩
            rw [W1, found_no]
            clear V hL7 ct
            have ct := hL8.t
            go_wp2_with fail
            have V := look_par hL8 2 (P ++ s) (by omega)
            refine V.mono ?_
            rintro e w9 ⟨rfl, hL9⟩
            rw [W2, par_no]
            clear V hL8 ct
            have ct := hL9.t
            go_wp2_with fail
            have V := look_walk hL9 a s (by omega)
            refine V.mono ?_
            rintro e wa ⟨rfl, hLa⟩
            rw [W3, found_no]
            clear V hL9 ct
            have ct := hLa.t
            go_wp2_with fail
            refine (look_dis hLa a).mono ?_
            rintro e wb ⟨rfl, hLb⟩
            rw [hda]
            clear hLa ct
            have ct := hLb.t
            go_wp2_with fail
            have V := look_walk hLb 1 (P ++ s ++ ⟨#[47, 46]⟩) (by omega)
            refine V.mono ?_
            rintro e wd ⟨rfl, hLd⟩
            rw [W4, show (none : Option Int).bind (fun n => inF g n [46]) = none from rfl, found_no]
            clear V hLb ct
            have ct := hLd.t
            go_wp2_with fail
            have V := look_walk hLd 1 (P ++ s ++ ⟨#[47, 46, 46]⟩) (by omega)
            refine V.mono ?_
            rintro e we ⟨rfl, hLe⟩
            rw [W5, show (none : Option Int).bind (fun n => inF g n [46, 46]) = none from rfl, found_no]
            clear V hLd ct
            have ct := hLe.t
            have HK : Hid (Kept (fun _ => False) w we) := hLe.kept
            clear hLe ct W1 W2 W3 W4 W5 HST HPN hda hs hss p2 p3 p4
            go_wp2_with fail
            refine (runs_w we).mono ?_
            rintro e wf ⟨rfl, hkf⟩
            have HKF : Hid (Kept (fun _ => False) w wf) := HK.out.thru hkf
            clear HK hkf
            go_wp2
            go_ret
            exact ⟨rfl, HKF.out⟩
          | true =>
            rw [hda, if_pos rfl] at W2
            as_aux_lemma =>
            rw [found_no]
            go_wp2_with fail
            have V := look_walk hL7 2 (P ++ s) (by omega)
            refine V.mono ?_
            rintro e w8 ⟨rfl, hL8⟩
            rw [W1, found_no]
            clear V hL7 ct
            have ct := hL8.t
            go_wp2_with fail
            have V := look_par hL8 2 (P ++ s) (by omega)
            refine V.mono ?_
            rintro e w9 ⟨rfl, hL9⟩
            rw [W2, par_yes, hs]
            clear V hL8 ct
            have ct := hL9.t
            go_wp2_with fail
            have V := look_walk hL9 a s (by omega)
            refine V.mono ?_
            rintro e wa ⟨rfl, hLa⟩
            rw [W3, found_no]
            clear V hL9 ct
            have ct := hLa.t
            go_wp2_with fail
            refine (look_dis hLa a).mono ?_
            rintro e wb ⟨rfl, hLb⟩
            rw [hda]
            clear hLa ct
            have ct := hLb.t
            go_wp2_with fail
            have V := look_walk hLb 1 (P ++ s ++ ⟨#[47, 46]⟩) (by omega)
            refine V.mono ?_
            rintro e wd ⟨rfl, hLd⟩
            rw [W4, show (none : Option Int).bind (fun n => inF g n [46]) = none from rfl, found_no]
            clear V hLb ct
            have ct := hLd.t
            go_wp2_with fail
            have V := look_walk hLd 1 (P ++ s ++ ⟨#[47, 46, 46]⟩) (by omega)
            refine V.mono ?_
            rintro e we ⟨rfl, hLe⟩
            rw [W5, show (none : Option Int).bind (fun n => inF g n [46, 46]) = none from rfl, found_no]
            clear V hLd ct
            have ct := hLe.t
            have HK : Hid (Kept (fun _ => False) w we) := hLe.kept
            clear hLe ct W1 W2 W3 W4 W5 HST HPN hda hs hss p2 p3 p4
            go_wp2_with fail
            refine (runs_w we).mono ?_
            rintro e wf ⟨rfl, hkf⟩
            have HKF : Hid (Kept (fun _ => False) w wf) := HK.out.thru hkf
            clear HK hkf
            go_wp2
            go_ret
            exact ⟨rfl, HKF.out⟩
        | some n =>
          obtain ⟨g1, g2, g3, g4⟩ := HST.out n rfl
          have HST2 : Hid (stepsA f0 g 1 (L ++ [[c]]) = some n ∧ isI f0 g n = true) := ⟨g1, g2⟩
          rw [g3, if_pos rfl] at W2
          have hda := g3
          clear HST g1 g2 g3
          cases hdn : isDirF f0 g n with
          | true =>
            obtain ⟨i1, i2⟩ := g4 hdn
            have W4' : walkA f0 g 1 (bl (P ++ s ++ ⟨#[47, 46]⟩)) = some n := by rw [W4]; exact i1
            have W5' : walkA f0 g 1 (bl (P ++ s ++ ⟨#[47, 46, 46]⟩)) = some a := by rw [W5]; exact i2
            clear W4 W5 g4 i1 i2
            as_aux_lemma =>
            rw [found_yes]
            go_wp2_with fail
            have V := look_walk hL7 2 (P ++ s) (by omega)
            refine V.mono ?_
            rintro e w8 ⟨rfl, hL8⟩
            rw [W1, found_yes]
            clear V hL7 ct
            have ct := hL8.t
            go_wp2_with fail
            have V := look_par hL8 2 (P ++ s) (by omega)
            refine V.mono ?_
            rintro e w9 ⟨rfl, hL9⟩
            rw [W2, par_yes, hs]
            clear V hL8 ct
            have ct := hL9.t
            go_wp2_with fail
            have V := look_walk hL9 a s (by omega)
            refine V.mono ?_
            rintro e wa ⟨rfl, hLa⟩
            rw [W3, found_yes]
            clear V hL9 ct
            have ct := hLa.t
            go_wp2_with fail
            refine (look_dis hLa a).mono ?_
            rintro e wb ⟨rfl, hLb⟩
            rw [hda]
            clear hLa ct
            have ct := hLb.t
            go_wp2_with fail
            have V := look_walk hLb 1 (P ++ s ++ ⟨#[47, 46]⟩) (by omega)
            refine V.mono ?_
            rintro e wd ⟨rfl, hLd⟩
            rw [W4', found_yes]
            clear V hLb ct
            have ct := hLd.t
            go_wp2_with fail
            have V := look_walk hLd 1 (P ++ s ++ ⟨#[47, 46, 46]⟩) (by omega)
            refine V.mono ?_
            rintro e we ⟨rfl, hLe⟩
            rw [W5', found_yes]
            clear V hLd ct
            have ct := hLe.t
            go_wp2_with fail
            refine (look_dis hLe n).mono ?_
            rintro e wf ⟨rfl, hLf⟩
            rw [hdn]
            clear hLe ct
            have HZ : Hid (PathP (bl (P ++ s ++ ⟨#[47]⟩)) (L ++ [[c]]) (r + 1) ∧ stepsA f0 g 1 (L ++ [[c]]) = some n ∧ isI f0 g n = true ∧ LookIn w T p B q N g wf) := ⟨HPN.out, HST2.out.1, HST2.out.2, hLf⟩
            clear hLf HPN HST2 W1 W2 W3 W4' W5' hda hdn hs p3 p4
            go_wp2_with fail
            go_roundw
            case rel => exact ⟨r + 1, _, _, _, rfl, rfl, by go_num, by omega, by omega, hPn.out, HZ.out⟩
            case measure => simp [intOf]; omega
          | false =>
            have W4' : walkA f0 g 1 (bl (P ++ s ++ ⟨#[47, 46]⟩)) = none := by rw [W4]; exact notD_find hdn _
            have W5' : walkA f0 g 1 (bl (P ++ s ++ ⟨#[47, 46, 46]⟩)) = none := by rw [W5]; exact notD_find hdn _
            clear W4 W5 g4
            as_aux_lemma =>
            rw [found_yes]
            go_wp2_with fail
            have V := look_walk hL7 2 (P ++ s) (by omega)
            refine V.mono ?_
            rintro e w8 ⟨rfl, hL8⟩
            rw [W1, found_yes]
            clear V hL7 ct
            have ct := hL8.t
            go_wp2_with fail
            have V := look_par hL8 2 (P ++ s) (by omega)
            refine V.mono ?_
            rintro e w9 ⟨rfl, hL9⟩
            rw [W2, par_yes, hs]
            clear V hL8 ct
            have ct := hL9.t
            go_wp2_with fail
            have V := look_walk hL9 a s (by omega)
            refine V.mono ?_
            rintro e wa ⟨rfl, hLa⟩
            rw [W3, found_yes]
            clear V hL9 ct
            have ct := hLa.t
            go_wp2_with fail
            refine (look_dis hLa a).mono ?_
            rintro e wb ⟨rfl, hLb⟩
            rw [hda]
            clear hLa ct
            have ct := hLb.t
            go_wp2_with fail
            have V := look_walk hLb 1 (P ++ s ++ ⟨#[47, 46]⟩) (by omega)
            refine V.mono ?_
            rintro e wd ⟨rfl, hLd⟩
            rw [W4', found_no]
            clear V hLb ct
            have ct := hLd.t
            go_wp2_with fail
            have V := look_walk hLd 1 (P ++ s ++ ⟨#[47, 46, 46]⟩) (by omega)
            refine V.mono ?_
            rintro e we ⟨rfl, hLe⟩
            rw [W5', found_no]
            clear V hLd ct
            have ct := hLe.t
            go_wp2_with fail
            refine (look_dis hLe n).mono ?_
            rintro e wf ⟨rfl, hLf⟩
            rw [hdn]
            clear hLe ct
            have HZ : Hid (PathP (bl (P ++ s ++ ⟨#[47]⟩)) (L ++ [[c]]) (r + 1) ∧ stepsA f0 g 1 (L ++ [[c]]) = some n ∧ isI f0 g n = true ∧ LookIn w T p B q N g wf) := ⟨HPN.out, HST2.out.1, HST2.out.2, hLf⟩
            clear hLf HPN HST2 W1 W2 W3 W4' W5' hda hdn hs p3 p4
            go_wp2_with fail
            go_roundw
            case rel => exact ⟨r + 1, _, _, _, rfl, rfl, by go_num, by omega, by omega, hPn.out, HZ.out⟩
            case measure => simp [intOf]; omega
end Go.Proofs.Ythonlakpgncinaa
