
/- Ways through directories, the code's side; no conditions but lengths. -/
import Derived.Test.YthonlakpgncinaaDiA
import Derived.Test.YthonlakpgncinaaNSpl
import Derived.Deep.CutBlock
namespace Go.Proofs.Ythonlakpgncinaa
open Go.RowKit
set_option maxRecDepth 100000
set_option linter.unusedSimpArgs false

/-- Where a way of names ends, and what the view has noted behind it. -/
def stepsA (f : StF) : VwF → Int → List Bs → Option Int
  | _, a, [] => some a
  | g, a, s :: l => match foundE (dirE f g a) s with
    | none => none
    | some n => if isI f (findT g a) n = true then stepsA f (findT (findT g a) n) n l else none
def stepsT (f : StF) : VwF → Int → List Bs → VwF
  | g, _, [] => g
  | g, a, s :: l => match foundE (dirE f g a) s with
    | none => findT g a
    | some n => if isI f (findT g a) n = true then stepsT f (findT (findT g a) n) n l else findT (findT g a) n
def alongA (f : StF) (g : VwF) (a : Int) (l : List Bs) : Option Int := if isI f g a = true then stepsA f (findT g a) a l else none
def alongT (f : StF) (g : VwF) (a : Int) (l : List Bs) : VwF := if isI f g a = true then stepsT f (findT g a) a l else findT g a
def headF (cwd : Int) (r : Bool) : Int := if r = true then 1 else cwd
def walkA (f : StF) (g : VwF) (cwd : Int) (p : Bs) : Option Int := if Nm.okF p = true then alongA f g (headF cwd (Nm.absF p)) (Nm.namesF p) else none
def walkT (f : StF) (g : VwF) (cwd : Int) (p : Bs) : VwF := if Nm.okF p = true then alongT f g (headF cwd (Nm.absF p)) (Nm.namesF p) else g
/-- The directory of a path's last name. -/
def parA (f : StF) (g : VwF) (cwd : Int) (p : Bs) : Option (Int × Bs) :=
  if Nm.okF p = true ∧ Nm.namesF p ≠ [] then
    match alongA f g (headF cwd (Nm.absF p)) (Nm.namesF p).dropLast with
    | none => none
    | some d => if isDirF f (alongT f g (headF cwd (Nm.absF p)) (Nm.namesF p).dropLast) d = true then some (d, (Nm.namesF p).getLastD []) else none
  else none
def parT (f : StF) (g : VwF) (cwd : Int) (p : Bs) : VwF :=
  if Nm.okF p = true ∧ Nm.namesF p ≠ [] then
    match alongA f g (headF cwd (Nm.absF p)) (Nm.namesF p).dropLast with
    | none => alongT f g (headF cwd (Nm.absF p)) (Nm.namesF p).dropLast
    | some d => findT (alongT f g (headF cwd (Nm.absF p)) (Nm.namesF p).dropLast) d
  else g
def parV (o : Option (Int × Bs)) : Value := .tuple #[.int .i64 ((o.getD (0, [])).1), .string (bs (o.getD (0, [])).2), .bool o.isSome]

theorem steps_nil (f : StF) (g : VwF) (a : Int) : stepsA f g a [] = some a ∧ stepsT f g a [] = g := ⟨rfl, rfl⟩
theorem steps_no {f : StF} {g : VwF} {a : Int} {s : Bs} (l : List Bs) (h : foundE (dirE f g a) s = none) : stepsA f g a (s :: l) = none ∧ stepsT f g a (s :: l) = findT g a := by
  unfold stepsA stepsT; rw [h]; exact ⟨rfl, rfl⟩
theorem steps_gone {f : StF} {g : VwF} {a n : Int} {s : Bs} (l : List Bs) (h : foundE (dirE f g a) s = some n) (hi : isI f (findT g a) n = false) : stepsA f g a (s :: l) = none ∧ stepsT f g a (s :: l) = findT (findT g a) n := by
  unfold stepsA stepsT; rw [h]; simp only [hi]; exact ⟨rfl, rfl⟩
theorem steps_on {f : StF} {g : VwF} {a n : Int} {s : Bs} (l : List Bs) (h : foundE (dirE f g a) s = some n) (hi : isI f (findT g a) n = true) : stepsA f g a (s :: l) = stepsA f (findT (findT g a) n) n l ∧ stepsT f g a (s :: l) = stepsT f (findT (findT g a) n) n l := by
  rw [stepsA, stepsT, h]; simp only [hi]; exact ⟨if_pos trivial, if_pos trivial⟩
theorem found_no : foundV none = .tuple #[.int .i64 0, .bool false] := rfl
theorem found_yes (n : Int) : foundV (some n) = .tuple #[.int .i64 n, .bool true] := rfl

theorem MapIn.offP {κ ν : Type} {enc : κ → Value} {encv : ν → Value} {f : κ → Option ν} {B : Nat} {w : World} (h : MapIn enc encv B f w) {k o : Nat} {v : Value} (hc : w.cell? ⟨k, o, none⟩ = some v) : k ≠ B := by
  obtain ⟨es, clock, hb, _⟩ := h
  intro e
  subst e
  simp [World.cell?, hb] at hc

set_option maxHeartbeats 1000000 in
theorem along_w (q N p B : Nat) (f : StF) (g : VwF) (a : Int) (v : Value) (l : List Bs) (w : World) (h : ViewIn q N p g w) (hs : StoreIn p B f w) (hNB : N ≠ B) (hv : Nm.SrcS v l w) (hl : l.length ≤ 1000) (hx : ∀ x ∈ l, x.length ≤ 1000) (hz : ∀ j, (findV f g j).s.size ≤ 100000) :
    Calls Try.prog 24 #[.pointer (some ⟨q, 0, none⟩), .int .i64 a, v] w
    fun e w' => e = .returned (foundV (alongA f g a l)) ∧ ViewIn q N p (alongT f g a l) w' ∧ Kept (fun n => n = N) w w' := by
  obtain ⟨A, hA⟩ : ∃ A, alongA f g a l = A := ⟨_, rfl⟩
  obtain ⟨Z, hZ⟩ : ∃ Z, alongT f g a l = Z := ⟨_, rfl⟩
  rw [hA, hZ]
  obtain ⟨ao, b, o, c, rfl, hao, hc⟩ := hv.form
  have HC : Hid (∀ j, j < l.length → w.cell? ⟨b, o + j, none⟩ = some (.string (bs (Nm.sd l j)))) := hc
  have hN := h.map
  clear hc hv
  go_enter Try.func24, Try.ntmps24
  go_wp2_with fail
  refine (is_w q N p B f g a w h hs hNB).mono ?_
  rintro e w1 ⟨rfl, hv1, hk1⟩
  obtain ⟨ib, hib⟩ : ∃ ib, isI f g a = ib := ⟨_, rfl⟩
  unfold alongA at hA
  unfold alongT at hZ
  rw [hib] at hA hZ ⊢
  cases ib with
  | false =>
    have HR : Hid (A = none ∧ ViewIn q N p Z w1 ∧ Kept (fun n => n = N) w w1) := ⟨hA.symm, by rw [← hZ]; exact hv1, hk1⟩
    clear hA hZ hv1 hk1 h hs hao hN
    go_wp2
    exact bodyPost_ret (v := .tuple #[.int .i64 0, .bool false]) (by simp [results, Try.results24, go_sem]) rfl ⟨by rw [HR.out.1]; rfl, HR.out.2⟩
  | true =>
    rw [if_pos rfl] at hA hZ
    obtain ⟨L, hL⟩ : ∃ L, l.length = L := ⟨_, rfl⟩
    rw [hL] at hao hl ⊢
    have H0 : Hid (ViewIn q N p (findT g a) w1 ∧ Kept (fun n => n = N) w w1 ∧ (∀ j, (findV f (findT g a) j).s.size ≤ 100000) ∧ A = stepsA f (findT g a) a (l.drop 0) ∧ Z = stepsT f (findT g a) a (l.drop 0)) :=
      ⟨hv1, hk1, fun j => by rw [find_find]; exact hz j, hA.symm, hZ.symm⟩
    clear hA hZ hv1 hk1 hz hib
    go_wp2_with fail
    go_loopw [1, 9, 10, 11, 18] (fun x _ _ _ y wr => ∃ (i : Nat) (a' : Int) (g' : VwF), x = .int .i64 a' ∧ y = .int .i64 i ∧ i ≤ L ∧ Hid (ViewIn q N p g' wr ∧ Kept (fun n => n = N) w wr ∧ (∀ j, (findV f g' j).s.size ≤ 100000) ∧ A = stepsA f g' a' (l.drop i) ∧ Z = stepsT f g' a' (l.drop i))) (fun _ _ _ _ y _ => L - (intOf y).toNat)
    case atStart => exact ⟨0, a, findT g a, rfl, rfl, by omega, H0.out⟩
    case round =>
      clear H0
      obtain ⟨i, a', g', rfl, rfl, hi, HI⟩ := hrel
      by_cases hlt : i < L
      · have t1 : (i : Int) < L := by omega
        obtain rfl := hao (by omega)
        obtain ⟨hvr, hkr, hzr, hAr, hZr⟩ := HI.out
        have c0 := hkr.cell (HC.out i (by omega)) (fun e => hN.offP (HC.out i (by omega)) e)
        have he := Nm.sd_get (l := l) (i := i) (by omega)
        have hdr : l.drop i = Nm.sd l i :: l.drop (i + 1) := by
          obtain ⟨h1, h2⟩ := List.getElem?_eq_some_iff.1 he
          rw [List.drop_eq_getElem_cons h1, h2]
        have hxl := hx _ (List.mem_of_getElem? he)
        generalize Nm.sd l i = s at *
        rw [hdr] at hAr hZr
        have hsr := hs.kept hkr (fun e => hN.off hs.cell e) (fun e => hNB e.symm)
        have D := dfind_w q N p B f g' a' (bs s) (by rw [bs_size]; omega) wr hvr hsr hNB (hzr a')
        rw [bl_bs] at D
        clear HI he hdr hxl
        obtain ⟨fo, hfo⟩ : ∃ fo, foundE (dirE f g' a') s = fo := ⟨_, rfl⟩
        rw [hfo] at D
        cases fo with
        | none =>
          obtain ⟨e1, e2⟩ := steps_no (l.drop (i + 1)) hfo
          rw [found_no] at D
          go_wp2_with fail
          refine D.mono ?_
          rintro e w2 ⟨rfl, hv2, hk2⟩
          have HR : Hid (A = none ∧ ViewIn q N p Z w2 ∧ Kept (fun n => n = N) w w2) := ⟨by rw [hAr, e1], by rw [hZr, e2]; exact hv2, hkr.trans hk2 (fun _ _ e => e)⟩
          clear D e1 e2 hAr hZr hv2 hk2 hvr hkr hsr hzr hN hs h hfo c0
          go_wp2_with fail
          exact bodyPost_ret (v := .tuple #[.int .i64 0, .bool false]) (by simp [results, Try.results24, go_sem]) rfl ⟨by rw [HR.out.1]; rfl, HR.out.2⟩
        | some n =>
          rw [found_yes] at D
          go_wp2_with fail
          refine D.mono ?_
          rintro e w2 ⟨rfl, hv2, hk2⟩
          go_wp2_with fail
          refine (is_w q N p B f (findT g' a') n w2 hv2 (hsr.kept hk2 (fun e => hN.off hs.cell e) (fun e => hNB e.symm)) hNB).mono ?_
          rintro e w3 ⟨rfl, hv3, hk3⟩
          obtain ⟨jb, hjb⟩ : ∃ jb, isI f (findT g' a') n = jb := ⟨_, rfl⟩
          rw [hjb]
          have hk : Kept (fun n => n = N) w w3 := (hkr.trans hk2 (fun _ _ e => e)).trans hk3 (fun _ _ e => e)
          cases jb with
          | false =>
            obtain ⟨e1, e2⟩ := steps_gone (l.drop (i + 1)) hfo hjb
            have HR : Hid (A = none ∧ ViewIn q N p Z w3 ∧ Kept (fun n => n = N) w w3) := ⟨by rw [hAr, e1], by rw [hZr, e2]; exact hv3, hk⟩
            clear D e1 e2 hAr hZr hv2 hk2 hv3 hk3 hk hvr hkr hsr hzr hN hs h hfo hjb c0
            go_wp2_with fail
            exact bodyPost_ret (v := .tuple #[.int .i64 0, .bool false]) (by simp [results, Try.results24, go_sem]) rfl ⟨by rw [HR.out.1]; rfl, HR.out.2⟩
          | true =>
            obtain ⟨e1, e2⟩ := steps_on (l.drop (i + 1)) hfo hjb
            have HR : Hid (ViewIn q N p (findT (findT g' a') n) w3 ∧ Kept (fun n => n = N) w w3 ∧ (∀ j, (findV f (findT (findT g' a') n) j).s.size ≤ 100000) ∧ A = stepsA f (findT (findT g' a') n) n (l.drop (i + 1)) ∧ Z = stepsT f (findT (findT g' a') n) n (l.drop (i + 1))) :=
              ⟨hv3, hk, fun j => by rw [find_find, find_find]; exact hzr j, by rw [hAr, e1], by rw [hZr, e2]⟩
            clear D e1 e2 hAr hZr hv2 hk2 hv3 hk3 hk hvr hkr hsr hzr hfo hjb c0
            go_wp2_with fail
            go_roundw
            case rel => exact ⟨i + 1, n, _, rfl, by go_num, by omega, HR.out⟩
            case measure => simp [intOf]; omega
      · obtain rfl : i = L := by omega
        have HR : Hid (A = some a' ∧ ViewIn q N p Z wr ∧ Kept (fun n => n = N) w wr) := by
          obtain ⟨h1, h2, -, h4, h5⟩ := HI.out
          rw [List.drop_of_length_le (by omega)] at h4 h5
          exact ⟨h4, by rw [h5]; exact h1, h2⟩
        clear HI h hs hN
        go_wp2_with fail
        exact bodyPost_ret (v := .tuple #[.int .i64 a', .bool true]) (by simp [results, Try.results24, go_sem]) rfl ⟨by rw [HR.out.1]; rfl, HR.out.2⟩

theorem head_w (cwd : Int) (r : Bool) (w : World) : Calls Try.prog 25 #[.int .i64 cwd, .bool r] w fun e w' => e = .returned (.int .i64 (headF cwd r)) ∧ w' = w := by
  cases r with
  | true =>
    go_enter Try.func25, Try.ntmps25
    go_wp2
    exact bodyPost_ret (v := .int .i64 1) (by simp [results, Try.results25, go_sem]) rfl ⟨rfl, rfl⟩
  | false =>
    go_enter Try.func25, Try.ntmps25
    go_wp2
    exact bodyPost_ret (v := .int .i64 cwd) (by simp [results, Try.results25, go_sem]) rfl ⟨rfl, rfl⟩

theorem names_ok {p : Bs} (x : Bs) (hx : x ∈ Nm.namesF p) : x.length ≤ 1000 := by
  unfold Nm.namesF at hx
  split at hx
  · rename_i h
    have := (Nm.right_iff.1 ((Nm.ok_len h).2.2 x hx)).2.1
    omega
  · cases hx
theorem names_few (p : Bs) (h : p.length ≤ 100000) : (Nm.namesF p).length ≤ 1000 := by
  unfold Nm.namesF
  split
  · rename_i h
    have := (Nm.ok_len h).2.1
    have := Nm.cut_len p []
    omega
  · simp

theorem pwalk_w (q N p B : Nat) (f : StF) (g : VwF) (cwd : Int) (s : ByteArray) (hs0 : s.size ≤ 100000) (w : World) (h : ViewIn q N p g w) (hs : StoreIn p B f w) (hNB : N ≠ B) (hz : ∀ j, (findV f g j).s.size ≤ 100000) :
    Calls Try.prog 8 #[.pointer (some ⟨q, 0, none⟩), .int .i64 cwd, .string s] w
    fun e w' => e = .returned (foundV (walkA f g cwd (bl s))) ∧ ViewIn q N p (walkT f g cwd (bl s)) w' ∧ Kept (fun n => n = N) w w' := by
  obtain ⟨A, hA⟩ : ∃ A, walkA f g cwd (bl s) = A := ⟨_, rfl⟩
  obtain ⟨Z, hZ⟩ : ∃ Z, walkT f g cwd (bl s) = Z := ⟨_, rfl⟩
  rw [hA, hZ]
  unfold walkA at hA
  unfold walkT at hZ
  have hnl := names_few (bl s) (by rw [bl_len]; omega)
  have hnx := names_ok (p := bl s)
  have S := Nm.split_w s (by omega) w
  generalize Nm.namesF (bl s) = l at *
  generalize Nm.absF (bl s) = r at *
  generalize Nm.okF (bl s) = k at *
  go_enter Try.func8, Try.ntmps8
  go_wp2_with fail
  refine S.mono ?_
  rintro e w1 ⟨v, rfl, ho⟩
  clear S
  have hk1 := ho.kept
  cases k with
  | false =>
    have HR : Hid (A = none ∧ ViewIn q N p Z w1 ∧ Kept (fun n => n = N) w w1) := ⟨hA.symm, by rw [← hZ]; exact h.still hk1, hk1.mono (fun _ _ e => e.elim)⟩
    clear hA hZ ho hk1
    go_wp2_with fail
    exact bodyPost_ret (v := .tuple #[.int .i64 0, .bool false]) (by simp [results, Try.results8, go_sem]) rfl ⟨by rw [HR.out.1]; rfl, HR.out.2⟩
  | true =>
    rw [if_pos rfl] at hA hZ
    go_wp2_with fail
    refine (head_w cwd r w1).mono ?_
    rintro e w2 ⟨rfl, rfl⟩
    go_wp2_with fail
    refine (along_w q N p B f g (headF cwd r) v l w2 (h.still hk1) (hs.still hk1) hNB ho.src hnl hnx hz).mono ?_
    rintro e w3 ⟨rfl, hv3, hk3⟩
    have HR : Hid (ViewIn q N p Z w3 ∧ Kept (fun n => n = N) w w3) := ⟨by rw [← hZ]; exact hv3, (hk1.mono (fun _ _ e => e.elim)).trans hk3 (fun _ _ e => e)⟩
    rw [hA]
    clear hA hZ ho hk1 hv3 hk3
    unfold foundV
    go_wp2_with fail
    exact bodyPost_ret (v := .tuple #[.int .i64 (A.getD 0), .bool A.isSome]) (by simp [results, Try.results8, go_sem]) rfl ⟨rfl, HR.out⟩
end Go.Proofs.Ythonlakpgncinaa
