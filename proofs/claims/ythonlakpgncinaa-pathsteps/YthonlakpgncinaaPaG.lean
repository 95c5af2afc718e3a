
/- A tree of directories grows; no conditions but lengths. -/
import Derived.Test.YthonlakpgncinaaPaD
namespace Go.Proofs.Ythonlakpgncinaa
open Go.RowKit
set_option maxRecDepth 100000

/-- A name is added to a directory. -/
theorem dir_addok {g : VwF} {d : Int} {s : Bs} {n : Int} {o : Bs → Option Int} (hd : isDirF f0 g d = true) (h : TabE (dirE f0 g d) o) (hr : Nm.rightF s = true) (hn : hereB n = true) (ho : o s = none) (h8 : (namesE (dirE f0 g d)).length < 8) : addOk f0 g d s n = true := by
  unfold addOk
  rw [hd, hr, hn, h.found hr, ho, decide_eq_true (h.room.2 h8)]
  rfl
theorem dir_add {g : VwF} {d : Int} {s : Bs} {n : Int} {o : Bs → Option Int} (hd : isDirF f0 g d = true) (h : TabE (dirE f0 g d) o) (hr : Nm.rightF s = true) (hn : hereB n = true) (ho : o s = none) (h8 : (namesE (dirE f0 g d)).length < 8) :
    TabE (dirE f0 (addT f0 g d s n) d) (upd o s n) ∧ (namesE (dirE f0 (addT f0 g d s n) d)).length ≤ (namesE (dirE f0 g d)).length + 1 := by
  have hok := dir_addok hd h hr hn ho h8
  have h88 := h.room.2 h8
  obtain ⟨s1, s2⟩ := right_parts hr
  obtain ⟨n1, n2⟩ := here_iff.1 hn
  have hT : addT f0 g d s n = writeT f0 (findT g d) d ((gapA (dirE f0 g d) * 16 : Nat) : Int) (bs (Nm.packF s n)) := by unfold addT; rw [if_pos hok]
  have hgl : gapA (dirE f0 g d) ≤ (dirE f0 g d).length := List.findIdx_le_length
  have hdp := dir_put hd h88 hgl s1 s2 (by omega : 0 ≤ n) n2
  rw [hT, hdp]
  by_cases hx : gapA (dirE f0 g d) < (dirE f0 g d).length
  · rw [if_pos hx]
    have hp := List.findIdx_getElem (w := hx)
    obtain ⟨a, b, e1, e2⟩ := parted (List.getElem?_eq_getElem hx) (s, n)
    rw [e2]
    refine ⟨h.put hr hn ho (fun e he => ?_) e1 (by rw [← e2, List.length_set]; exact h.le), ?_⟩
    · obtain rfl := List.mem_singleton.1 he
      have : gapP (dirE f0 g d)[gapA (dirE f0 g d)] = true := hp
      simpa [gapP] using this
    · have l1 : (namesE (dirE f0 g d)).length = (namesE a).length + (namesE [(dirE f0 g d)[gapA (dirE f0 g d)]]).length + (namesE b).length := by
        have := congrArg (fun l => (namesE l).length) e1
        simp only [names_app, List.length_append] at this
        exact this
      rw [names_app, names_app, List.length_append, List.length_append, l1]
      have := names_len [(s, n)]
      simp only [List.length_singleton] at this
      omega
  · rw [if_neg hx]
    refine ⟨?_, ?_⟩
    · have := h.put hr hn ho (a := dirE f0 g d) (b := []) (m := []) (fun e he => by cases he) (by simp) (by simp; omega)
      simpa using this
    · rw [names_app, List.length_append]
      have := names_len [(s, n)]
      simp only [List.length_singleton] at this
      omega

theorem isD_n0 {f f' : StF} {g g' : VwF} {d : Int} (h : (findV f g d).n0 = (findV f' g' d).n0) : isDirF f g d = isDirF f' g' d := by unfold isDirF; rw [h]
theorem isI_n0 {f f' : StF} {g g' : VwF} {d : Int} (h : (findV f g d).n0 = (findV f' g' d).n0) : isI f g d = isI f' g' d := by unfold isI; rw [h]
theorem add_tbl {f : StF} {g : VwF} (d : Int) (s : Bs) (i : Int) : tblF f (addT f g d s i) = tblF f g := by
  unfold addT
  split
  · rw [write_tbl, tbl_find]
  · rw [tbl_find]
theorem bits_free : ∀ k : Fin 14, freeN ((2 ^ (k.val + 1) - 2 : Nat) : Int) = (k.val : Int) + 1 ∧ orN ((2 ^ (k.val + 1) - 2 : Nat) : Int) ((k.val : Int) + 1) = ((2 ^ (k.val + 2) - 2 : Nat) : Int) := by decide +kernel
theorem empty_tab : TabE [] (fun _ => none) := ⟨by simp, by simp [namesE], fun s n => by simp, fun s hs => by simp at hs⟩

section
variable {g : VwF} {k : Nat} {O : Int → Bs → Option Int}
theorem TreeF.free (h : TreeF g k O) : allocA f0 g = (k : Int) + 1 := by
  rw [alloc_is, h.bits]
  have := h.hi
  exact (bits_free ⟨k, by omega⟩).1
theorem TreeF.got (h : TreeF g k O) : allocV (allocA f0 g) = .tuple #[.int .i64 ((k : Int) + 1), .bool true] := by
  rw [h.free]
  have := h.hi
  unfold allocV
  rw [if_pos (by omega), decide_eq_true (by omega)]
/-- A new inode: not yet in any directory. -/
theorem TreeF.alloc (h : TreeF g k O) {typ : Int} (ht : typ ≠ 0) :
    (∀ j, findV f0 (allocT f0 g typ) j = if j = (k : Int) + 1 then numV typ else findV f0 g j) ∧ (tblF f0 (allocT f0 g typ)).n0 = ((2 ^ (k + 2) - 2 : Nat) : Int) := by
  have hh := h.hi
  have hf := h.free
  constructor
  · intro j
    rw [alloc_find ht (by omega), hf]
  · rw [alloc_tbl typ (by omega), hf]
    show orN (tblF f0 g).n0 ((k : Int) + 1) = _
    rw [h.bits]
    exact (bits_free ⟨k, by omega⟩).2

theorem TreeF.out (h : TreeF g k O) : isDirF f0 g ((k : Int) + 1) = false := by
  cases hd : isDirF f0 g ((k : Int) + 1) with
  | false => rfl
  | true => have := (h.dirIn hd).2; omega
/-- A file is made. -/
theorem TreeF.file (h : TreeF g k O) (hk : k < 12) {d : Int} {s : Bs} (hd : isDirF f0 g d = true) (hr : Nm.rightF s = true) (hs : s ≠ [46] ∧ s ≠ [46, 46]) (hf : inF g d s = none) (h8 : (namesE (dirE f0 g d)).length < 8) :
    addOk f0 (allocT f0 g 2) d s ((k : Int) + 1) = true ∧ ∃ O', TreeF (addT f0 (allocT f0 g 2) d s ((k : Int) + 1)) (k + 1) O' := by
  obtain ⟨a1, a2⟩ := h.alloc (typ := 2) (by decide)
  have hdn := h.dirIn hd
  have hlow := h.low
  have hne : d ≠ (k : Int) + 1 := by omega
  have hn : hereB ((k : Int) + 1) = true := here_iff.2 ⟨by omega, by omega⟩
  have ho : O d s = none := by rw [← h.inO hd hr]; exact hf
  generalize hg1 : allocT f0 g 2 = g1 at *
  have e1 : findV f0 g1 d = findV f0 g d := by rw [a1, if_neg hne]
  have hd1 : isDirF f0 g1 d = true := by rw [isD_n0 (congrArg V.n0 e1)]; exact hd
  have hE1 : dirE f0 g1 d = dirE f0 g d := dirE_eq e1
  have ht1 : TabE (dirE f0 g1 d) (O d) := by rw [hE1]; exact h.tab d hd
  have h81 : (namesE (dirE f0 g1 d)).length < 8 := by rw [hE1]; exact h8
  refine ⟨dir_addok hd1 ht1 hr hn ho h81, fun x => if x = d then upd (O d) s ((k : Int) + 1) else O x, ?_⟩
  obtain ⟨b1, -⟩ := dir_add hd1 ht1 hr hn ho h81
  have n0 : ∀ j, (findV f0 (addT f0 g1 d s ((k : Int) + 1)) j).n0 = if j = (k : Int) + 1 then 2 else (findV f0 g j).n0 := by
    intro j
    rw [add_n0, a1]
    split <;> rfl
  have hD : ∀ j, isDirF f0 (addT f0 g1 d s ((k : Int) + 1)) j = isDirF f0 g j := by
    intro j
    by_cases e : j = (k : Int) + 1
    · rw [e, h.out]
      unfold isDirF
      rw [n0, if_pos rfl]; rfl
    · exact isD_n0 (by rw [n0, if_neg e])
  have hT : tblF f0 (addT f0 g1 d s ((k : Int) + 1)) = tblF f0 g1 := add_tbl _ _ _
  have hOth : ∀ j, j ≠ d → isDirF f0 g j = true → findV f0 (addT f0 g1 d s ((k : Int) + 1)) j = findV f0 g j := by
    intro j hj hdj
    rw [add_other _ _ hj, a1, if_neg]
    have := h.dirIn hdj; omega
  exact {
    low := by omega
    hi := by omega
    bits := by rw [hT, a2]
    is := fun i => by
      by_cases e : i = (k : Int) + 1
      · unfold isI
        rw [n0, if_pos e, decide_eq_true (by omega), decide_eq_true (by omega)]
      · rw [isI_n0 (f' := f0) (g' := g) (by rw [n0, if_neg e]), h.is]
        exact decide_eq_decide.2 (by omega)
    root := by rw [hD]; exact h.root
    tab := fun j hj => by
      rw [hD] at hj
      by_cases e : j = d
      · subst e; simp only [if_true]; exact b1
      · rw [dirE_eq (hOth j e hj)]
        simp only [if_neg e]
        exact h.tab j hj
    dot := fun j hj => by
      rw [hD] at hj
      by_cases e : j = d
      · subst e
        simp only [if_true]
        unfold upd
        rw [if_neg (fun x => hs.1 x.symm)]; exact h.dot _ hd
      · simp only [if_neg e]; exact h.dot j hj
    dots := fun j hj => by
      rw [hD] at hj
      by_cases e : j = d
      · subst e
        simp only [if_true]
        unfold upd
        rw [if_neg (fun x => hs.2 x.symm)]; exact h.dots _ hd
      · simp only [if_neg e]; exact h.dots j hj
    kid := fun j x n hj hx => by
      rw [hD] at hj
      have old : O j x = some n → (1 ≤ n ∧ n ≤ ((k + 1 : Nat) : Int)) ∧ (x ≠ [46] → x ≠ [46, 46] → isDirF f0 (addT f0 g1 d s ((k : Int) + 1)) n = true → (if n = d then upd (O d) s ((k : Int) + 1) else O n) [46, 46] = some j) := by
        intro hx
        obtain ⟨c1, c2⟩ := h.kid j x n hj hx
        refine ⟨by omega, fun y1 y2 y3 => ?_⟩
        rw [hD] at y3
        have := c2 y1 y2 y3
        by_cases e : n = d
        · subst e
          simp only [if_true]
          unfold upd
          rw [if_neg (fun x => hs.2 x.symm)]; exact this
        · simp only [if_neg e]; exact this
      by_cases e : j = d
      · subst e
        simp only [if_true] at hx
        unfold upd at hx
        by_cases ex : x = s
        · rw [if_pos ex] at hx
          obtain rfl := Option.some.inj hx
          refine ⟨by omega, fun _ _ y3 => ?_⟩
          rw [hD, h.out] at y3
          cases y3
        · rw [if_neg ex] at hx; exact old hx
      · simp only [if_neg e] at hx; exact old hx }

/-- A directory is made. -/
theorem TreeF.made (h : TreeF g k O) (hk : k < 12) {d : Int} {s : Bs} (hd : isDirF f0 g d = true) (hr : Nm.rightF s = true) (hs : s ≠ [46] ∧ s ≠ [46, 46]) (hf : inF g d s = none) (h8 : (namesE (dirE f0 g d)).length < 8) :
    addOk f0 (allocT f0 g 1) d s ((k : Int) + 1) = true ∧
    addOk f0 (addT f0 (allocT f0 g 1) d s ((k : Int) + 1)) ((k : Int) + 1) [46] ((k : Int) + 1) = true ∧
    addOk f0 (addT f0 (addT f0 (allocT f0 g 1) d s ((k : Int) + 1)) ((k : Int) + 1) [46] ((k : Int) + 1)) ((k : Int) + 1) [46, 46] d = true ∧
    ∃ O', TreeF (addT f0 (addT f0 (addT f0 (allocT f0 g 1) d s ((k : Int) + 1)) ((k : Int) + 1) [46] ((k : Int) + 1)) ((k : Int) + 1) [46, 46] d) (k + 1) O' := by
  obtain ⟨a1, a2⟩ := h.alloc (typ := 1) (by decide)
  have hdn := h.dirIn hd
  have hlow := h.low
  obtain ⟨n, hnk⟩ : ∃ n : Int, (k : Int) + 1 = n := ⟨_, rfl⟩
  rw [hnk] at a1 ⊢
  have hne : d ≠ n := by omega
  have hn : hereB n = true := here_iff.2 ⟨by omega, by omega⟩
  have hdh : hereB d = true := here_iff.2 ⟨by omega, by omega⟩
  have ho : O d s = none := by rw [← h.inO hd hr]; exact hf
  have hout := h.out
  rw [hnk] at hout
  generalize hg1 : allocT f0 g 1 = g1 at *
  have e1 : findV f0 g1 d = findV f0 g d := by rw [a1, if_neg hne]
  have hd1 : isDirF f0 g1 d = true := by rw [isD_n0 (congrArg V.n0 e1)]; exact hd
  have hE1 : dirE f0 g1 d = dirE f0 g d := dirE_eq e1
  have ht1 : TabE (dirE f0 g1 d) (O d) := by rw [hE1]; exact h.tab d hd
  have h81 : (namesE (dirE f0 g1 d)).length < 8 := by rw [hE1]; exact h8
  refine ⟨dir_addok hd1 ht1 hr hn ho h81, ?_⟩
  obtain ⟨b1, -⟩ := dir_add hd1 ht1 hr hn ho h81
  generalize hg2 : addT f0 g1 d s n = g2 at *
  have v2 : ∀ j, j ≠ d → findV f0 g2 j = findV f0 g1 j := fun j hj => by rw [← hg2]; exact add_other _ _ hj
  have m2 : ∀ j, (findV f0 g2 j).n0 = (findV f0 g1 j).n0 := fun j => by rw [← hg2]; exact add_n0 _ _ _
  have hn2 : findV f0 g2 n = numV 1 := by rw [v2 n (fun e => hne e.symm), a1, if_pos rfl]
  have hdn2 : isDirF f0 g2 n = true := by unfold isDirF; rw [hn2]; rfl
  have hE2 : dirE f0 g2 n = [] := by unfold dirE; rw [if_pos hdn2, hn2]; rfl
  have ht2 : TabE (dirE f0 g2 n) (fun _ => none) := by rw [hE2]; exact empty_tab
  have h82 : (namesE (dirE f0 g2 n)).length < 8 := by rw [hE2]; decide
  refine ⟨dir_addok hdn2 ht2 right_dot.1 hn rfl h82, ?_⟩
  obtain ⟨b2, c2⟩ := dir_add hdn2 ht2 right_dot.1 hn rfl h82
  have c2' : (namesE (dirE f0 (addT f0 g2 n [46] n) n)).length < 8 := by rw [hE2] at c2; have : (namesE []).length = 0 := rfl; omega
  generalize hg3 : addT f0 g2 n [46] n = g3 at *
  have v3 : ∀ j, j ≠ n → findV f0 g3 j = findV f0 g2 j := fun j hj => by rw [← hg3]; exact add_other _ _ hj
  have m3 : ∀ j, (findV f0 g3 j).n0 = (findV f0 g2 j).n0 := fun j => by rw [← hg3]; exact add_n0 _ _ _
  have hdn3 : isDirF f0 g3 n = true := by rw [isD_n0 (m3 n)]; exact hdn2
  have o3 : upd (fun _ => none) [46] n [46, 46] = (none : Option Int) := by unfold upd; rw [if_neg (by decide)]
  refine ⟨dir_addok hdn3 b2 right_dot.2 hdh o3 c2', ?_⟩
  obtain ⟨b3, -⟩ := dir_add hdn3 b2 right_dot.2 hdh o3 c2'
  have hT : tblF f0 (addT f0 g3 n [46, 46] d) = tblF f0 g1 := by rw [add_tbl, ← hg3, add_tbl, ← hg2, add_tbl]
  generalize hg4 : addT f0 g3 n [46, 46] d = g4 at *
  have v4 : ∀ j, j ≠ n → findV f0 g4 j = findV f0 g3 j := fun j hj => by rw [← hg4]; exact add_other _ _ hj
  have m4 : ∀ j, (findV f0 g4 j).n0 = (findV f0 g3 j).n0 := fun j => by rw [← hg4]; exact add_n0 _ _ _
  have n0 : ∀ j, (findV f0 g4 j).n0 = if j = n then 1 else (findV f0 g j).n0 := by
    intro j
    rw [m4, m3, m2, a1]
    split <;> rfl
  have hD : ∀ j, j ≠ n → isDirF f0 g4 j = isDirF f0 g j := fun j e => isD_n0 (by rw [n0, if_neg e])
  have hDn : isDirF f0 g4 n = true := by unfold isDirF; rw [n0, if_pos rfl]; rfl
  have hEd : dirE f0 g4 d = dirE f0 g2 d := dirE_eq (by rw [v4 d hne, v3 d hne])
  have hOth : ∀ j, j ≠ d → j ≠ n → findV f0 g4 j = findV f0 g j := fun j hj e => by rw [v4 j e, v3 j e, v2 j hj, a1, if_neg e]
  refine ⟨fun x => if x = n then upd (upd (fun _ => none) [46] n) [46, 46] d else if x = d then upd (O d) s n else O x, ?_⟩
  have oDot : ∀ j, isDirF f0 g j = true → (if j = d then upd (O d) s n else O j) [46] = some j := by
    intro j hj
    by_cases e : j = d
    · subst e
      simp only [if_true]
      unfold upd
      rw [if_neg (fun x => hs.1 x.symm)]; exact h.dot _ hd
    · simp only [if_neg e]; exact h.dot j hj
  have oDots : ∀ j, (if j = d then upd (O d) s n else O j) [46, 46] = O j [46, 46] := by
    intro j
    by_cases e : j = d
    · subst e
      simp only [if_true]
      unfold upd
      rw [if_neg (fun x => hs.2 x.symm)]
    · simp only [if_neg e]
  exact {
    low := by omega
    hi := by omega
    bits := by rw [hT, a2]
    is := fun i => by
      by_cases e : i = n
      · unfold isI
        rw [n0, if_pos e, decide_eq_true (by omega), decide_eq_true (by omega)]
      · rw [isI_n0 (f' := f0) (g' := g) (by rw [n0, if_neg e]), h.is]
        exact decide_eq_decide.2 (by omega)
    root := by rw [hD 1 (by omega)]; exact h.root
    tab := fun j hj => by
      by_cases e : j = n
      · subst e; simp only [if_true]; exact b3
      · simp only [if_neg e]
        by_cases e2 : j = d
        · subst e2
          simp only [if_true]
          rw [hEd]; exact b1
        · rw [hD j e] at hj
          simp only [if_neg e2]
          rw [dirE_eq (hOth j e2 e)]
          exact h.tab j hj
    dot := fun j hj => by
      by_cases e : j = n
      · subst e
        simp only [if_true]
        unfold upd
        rw [if_neg (by decide), if_pos rfl]
      · rw [hD j e] at hj
        simp only [if_neg e]; exact oDot j hj
    dots := fun j hj => by
      by_cases e : j = n
      · subst e
        simp only [if_true]
        unfold upd
        exact ⟨d, if_pos rfl⟩
      · rw [hD j e] at hj
        simp only [if_neg e]
        rw [oDots]; exact h.dots j hj
    kid := fun j x m hj hx => by
      have key : ∀ m, isDirF f0 g4 m = true → m ≠ n → O m [46, 46] = some j → (if m = n then upd (upd (fun _ => none) [46] n) [46, 46] d else if m = d then upd (O d) s n else O m) [46, 46] = some j := by
        intro m _ e hm
        simp only [if_neg e]
        rw [oDots]; exact hm
      by_cases e : j = n
      · subst e
        simp only [if_true] at hx
        unfold upd at hx
        by_cases x2 : x = [46, 46]
        · rw [if_pos x2] at hx
          obtain rfl := Option.some.inj hx
          exact ⟨by omega, fun _ y => absurd x2 y⟩
        · rw [if_neg x2] at hx
          by_cases x1 : x = [46]
          · rw [if_pos x1] at hx
            obtain rfl := Option.some.inj hx
            exact ⟨by omega, fun y => absurd x1 y⟩
          · rw [if_neg x1] at hx; cases hx
      · rw [hD j e] at hj
        simp only [if_neg e] at hx
        have old : O j x = some m → (1 ≤ m ∧ m ≤ ((k + 1 : Nat) : Int)) ∧ (x ≠ [46] → x ≠ [46, 46] → isDirF f0 g4 m = true → (if m = n then upd (upd (fun _ => none) [46] n) [46, 46] d else if m = d then upd (O d) s n else O m) [46, 46] = some j) := by
          intro hx
          obtain ⟨c1, c2⟩ := h.kid j x m hj hx
          refine ⟨by omega, fun y1 y2 y3 => ?_⟩
          have em : m ≠ n := by omega
          exact key m y3 em (c2 y1 y2 (by rw [← hD m em]; exact y3))
        by_cases e2 : j = d
        · subst e2
          simp only [if_true] at hx
          unfold upd at hx
          by_cases ex : x = s
          · rw [if_pos ex] at hx
            obtain rfl := Option.some.inj hx
            refine ⟨by omega, fun _ _ _ => ?_⟩
            simp only [if_true]
            unfold upd
            rw [if_pos rfl]
          · rw [if_neg ex] at hx; exact old hx
        · simp only [if_neg e2] at hx; exact old hx }
end
end Go.Proofs.Ythonlakpgncinaa
