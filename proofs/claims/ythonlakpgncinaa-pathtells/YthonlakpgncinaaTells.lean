
/- Of any objects, any beginning and any text: where it ends, what is read; no conditions. -/
import Derived.Test.YthonlakpgncinaaPaR
import Derived.Test.YthonlakpgncinaaPaD
import Derived.Test.YthonlakpgncinaaOpenArgs
import Derived.Deep.CutBlock
namespace Go.Proofs.Ythonlakpgncinaa
open Go.RowKit
set_option maxRecDepth 100000
set_option linter.unusedSimpArgs false

def Clean (g : VwF) : Prop := ∀ k, (noteF g k).2.1 = false
theorem clean_new : Clean (fun _ => none) := fun _ => rfl
theorem clean_find {g : VwF} (h : Clean g) (i : Int) : Clean (findT g i) := by
  intro k
  unfold findT
  split
  · rename_i hr
    rw [note_get (plc_ik hr.1 hr.2)]
    split
    · exact h _
    · exact h k
  · exact h k
theorem clean_steps {f : StF} (l : List Bs) {g : VwF} (a : Int) (h : Clean g) : Clean (stepsT f g a l) := by
  induction l generalizing g a with
  | nil => exact h
  | cons s l ih =>
    cases hfo : foundE (dirE f g a) s with
    | none => rw [(steps_no l hfo).2]; exact clean_find h _
    | some n =>
      cases hj : isI f (findT g a) n with
      | false => rw [(steps_gone l hfo hj).2]; exact clean_find (clean_find h _) _
      | true => rw [(steps_on l hfo hj).2]; exact ih n (clean_find (clean_find h _) _)
theorem clean_along {f : StF} {g : VwF} (h : Clean g) (a : Int) (l : List Bs) : Clean (alongT f g a l) := by
  unfold alongT
  split
  · exact clean_steps l a (clean_find h _)
  · exact clean_find h _
theorem clean_walk {f : StF} {g : VwF} (h : Clean g) (c : Int) (p : Bs) : Clean (walkT f g c p) := by
  unfold walkT
  split
  · exact clean_along h _ _
  · exact h
theorem clean_par {f : StF} {g : VwF} (h : Clean g) (c : Int) (p : Bs) : Clean (parT f g c p) := by
  unfold parT
  split
  · split
    · exact clean_along h _ _
    · exact clean_find (clean_along h _ _) _
  · exact h
theorem clean_redo {g : VwF} (h : Clean g) : redoF g = [] := by
  have : wroteF g = [] := by
    unfold wroteF
    rw [upto_same (h := fun _ => false) 55 (fun p _ => by
      cases hs : (g (keyAt p)).isSome with
      | false => exact isF_none hs
      | true => rw [isF_some hs]; exact h _)]
    decide
  unfold redoF
  rw [this]; rfl

theorem keep_look {w0 : World} {T p B q N rp rB rq R W : Nat} {f : StF} {g g2 : VwF} {w : World} (hg : KeepIn w0 T p B q N rp rB rq R W f f g g2 w) (lT : w0.heap.size ≤ T) : Calls Try.prog 13 #[.pointer (some ⟨T, 0, none⟩)] w
    fun e w' => e = .returned (.tuple #[]) ∧ ∃ q' N' rq' R' W', KeepIn w0 T p B q' N' rp rB rq' R' W' f f (fun _ => none) (fun _ => none) w' := by
  refine (two_look T p rp (ptr q) (ptr rq) w hg.cell).mono ?_
  rintro e w9 ⟨rfl, q', N', rq', R', W', hT9, hv9, hx9, hk9, lq, lN, lrq, lR, lW, a6, a7⟩
  have s1 := hg.game.s.map.lt
  have s2 := hg.game.rs.map.lt
  have s3 := hg.game.kept.size
  have oB : ¬ B = T := fun e => hg.game.s.map.off hg.cell e.symm
  have orB : ¬ rB = T := fun e => hg.game.rs.map.off hg.cell e.symm
  have hpT : ¬ p = T := fun e => by have := hg.cell; rw [← e, hg.game.s.cell] at this; simp at this
  have hrpT : ¬ rp = T := fun e => by have := hg.cell; rw [← e, hg.game.rs.cell] at this; simp at this
  refine ⟨rfl, q', N', rq', R', W', hT9, ?_⟩
  exact { hg.game with
    s := hg.game.s.kept hk9 hpT oB
    v := hv9
    rs := hg.game.rs.kept hk9 hrpT orB
    rv := hx9
    kept := hg.game.kept.trans hk9 (fun k h1 h2 => by omega)
    nN := by omega, nR := by omega, nW := by omega
    a1 := by omega, a3 := by omega, a4 := by omega, a5 := by omega, a6 := a6, a7 := a7, a8 := by omega, a9 := by omega }

/-- What the walk keeps from round to round. -/
def TellIn (w0 : World) (T p B q N rp rB rq R W : Nat) (f : StF) (g : VwF) (w : World) : Prop :=
  KeepIn w0 T p B q N rp rB rq R W f f g g w ∧ Small f g ∧ w0.heap.size ≤ T
theorem KeepIn.cell1 {w0 : World} {T p B q N rp rB rq R W : Nat} {f : StF} {g g2 : VwF} {w : World} (h : KeepIn w0 T p B q N rp rB rq R W f f g g2 w) : w.cell? ⟨T, 1, none⟩ = some (.pointer (some ⟨q, 0, none⟩)) ∧ w.cell? ⟨T, 3, none⟩ = some (.pointer (some ⟨rq, 0, none⟩)) := ⟨h.cells.2.1, h.cells.2.2.2⟩

set_option maxHeartbeats 4000000 in
theorem tells_law (ao : Option Addr) (len cap lb off : Nat) (Q : Nat → K2 × V) (hao : 0 < len → ao = some ⟨lb, off, none⟩) (cwd : Int) (bo : Option Addr) (ln cp mb of : Nat) (A : Nat → ByteArray) (hbo : 0 < ln → bo = some ⟨mb, of, none⟩) (w : World)
    (hc : ∀ i, i < len → w.rangeAt lb (off + i * 19) (wc (Q i))) (hd : ∀ i, i < ln → w.cell? ⟨mb, of + i, none⟩ = some (.string (A i))) :
    Calls Try.prog 4 #[.slice ao len cap, .int .i64 cwd, .slice bo ln cp] w fun e w' => e = .returned (.bool true) ∧ Kept (fun _ => False) w w' := by
  have HD : Hid (∀ i, i < ln → w.cell? ⟨mb, of + i, none⟩ = some (.string (A i))) := hd
  go_enter Try.func4, Try.ntmps4
  go_wp2_with fail
  refine (keepnew_w ao len cap lb off Q hao w hc).mono ?_
  rintro e w1 ⟨T, p, B, q, N, rp, rB, rq, R, W, rfl, h1, hT⟩
  have H0 : Hid (TellIn w T p B q N rp rB rq R W (initF Q (min len 60)) (fun _ => none) w1 ∧ Clean (fun _ => none)) := ⟨⟨h1, small_init _ _, hT⟩, clean_new⟩
  clear h1 hc hd
  generalize initF Q (min len 60) = f at *
  go_wp2_with fail
  go_loopw [8, 9, 10, 11, 12, 13, 14, 15, 16, 17, 18, 19] (fun v _ _ _ _ _ _ _ _ _ _ _ wr => ∃ (r : Nat) (q N rq R W : Nat) (g : VwF), v = .int .i64 r ∧ r ≤ ln ∧ r ≤ 6 ∧ Hid (TellIn w T p B q N rp rB rq R W f g wr ∧ Clean g)) (fun v _ _ _ _ _ _ _ _ _ _ _ _ => 6 - (intOf v).toNat)
  case atStart => exact ⟨0, q, N, rq, R, W, _, rfl, by omega, by omega, H0.out⟩
  case round =>
    clear H0
    clear q N rq R W
    obtain ⟨r, q, N, rq, R, W, g, rfl, hr1, hr2, HH⟩ := hrel
    obtain ⟨z, hz⟩ : ∃ z : Bool, decide ((r : Int) < (ln : Int) ∧ (r : Int) < 6) = z := ⟨_, rfl⟩
    go_upto_region 5 with fail
    go_cut [31] from 24 to 31 (fun v wx => v = .bool z ∧ wx = wr)
    case first =>
      by_cases p1 : (r : Int) < (ln : Int)
      · by_cases p2 : (r : Int) < 6
        · have hz' : z = true := by rw [← hz]; simp [p1, p2]
          subst hz'
          clear hz
          go_wp2
          go_meet
          case rel => exact ⟨rfl, rfl⟩
        · have hz' : z = false := by rw [← hz]; simp [p1, p2]
          subst hz'
          clear hz
          go_wp2
          go_meet
          case rel => exact ⟨rfl, rfl⟩
      · have hz' : z = false := by rw [← hz]; simp [p1]
        subst hz'
        clear hz
        go_wp2
        go_meet
        case rel => exact ⟨rfl, rfl⟩
    case rest =>
      obtain ⟨rfl, hwc⟩ := hcut
      subst hwc
      cases z with
      | false =>
        have HK : Hid (Kept (fun _ => False) w wc) := HH.out.1.1.game.kept
        clear hz HH
        go_wp2_with fail
        refine (runs_w wc).mono ?_
        rintro e w4 ⟨rfl, hk4⟩
        have HK4 : Hid (Kept (fun _ => False) w w4) := HK.out.thru hk4
        clear HK hk4
        go_wp2
        go_ret
        exact ⟨rfl, HK4.out⟩
      | true =>
        simp only [decide_eq_true_eq] at hz
        obtain ⟨t1, t2⟩ := hz
        have hl1 : r < ln := by omega
        have h0 := hbo (by omega)
        subst h0
        have c0 := HH.out.1.1.game.kept.cell (HD.out r hl1) (fun x => x)
        obtain ⟨s, hs⟩ : ∃ s, A r = s := ⟨_, rfl⟩
        rw [hs] at c0
        obtain ⟨m, hmin⟩ : ∃ m : Nat, (if (70 : Int) < s.size then 70 else (s.size : Int)) = (m : Int) := ⟨min 70 s.size, by split <;> omega⟩
        have hm1 : (m : Int) ≤ s.size := by rw [← hmin]; split <;> omega
        have hm2 : (0 : Int) ≤ (m : Int) := by omega
        have hm3 : m ≤ 70 := by have : (m : Int) ≤ 70 := by rw [← hmin]; split <;> omega
                                omega
        obtain ⟨t, ht⟩ : ∃ t, s.extract 0 m = t := ⟨_, rfl⟩
        have hts : t.size ≤ 100000 := by rw [← ht, ByteArray.size_extract]; omega
        clear hs hbo
        go_wp2_with fail
        go_quiet (fail)
        have HP : Hid (TellIn w T p B q N rp rB rq R W f g (wc.drewN nq) ∧ Clean g) := ⟨⟨HH.out.1.1.still (Nm.kept_drewN _ nq), HH.out.1.2⟩, HH.out.2⟩
        clear HH c0
        generalize wc.drewN nq = wd at *
        clear ht hmin hm1 hm2 hm3
        have hk := HP.out.1.1
        have hsm := HP.out.1.2.1
        have hsm0 : Small f (fun _ => none) := ⟨hsm.s, fun _ => zero_small⟩
        have c1 := hk.cell1.1
        clear HP
        go_wp2_with fail
        refine (kv_walk hk cwd t hts (few_all hsm)).mono ?_
        rintro e w2 ⟨rfl, hk2, -⟩
        obtain ⟨fa, fb, hfab⟩ : ∃ fa fb, foundV (walkA f g cwd (bl t)) = .tuple #[.int .i64 fa, .bool fb] := ⟨_, _, rfl⟩
        rw [hfab]
        have c2 := hk2.cell1.2
        clear hk c1
        go_wp2_with fail
        refine (kr_walk hk2 cwd t hts (few_all hsm)).mono ?_
        rintro e w3 ⟨rfl, hk3, -⟩
        rw [hfab]
        clear hk2 c2 hfab
        go_wp2_with fail
        refine (two_same hk3).mono ?_
        rintro e w4 ⟨rfl, kp4⟩
        have hk4 := hk3.still kp4
        clear hk3 kp4
        go_wp2_with fail
        refine (keep_look hk4 hT).mono ?_
        rintro e w5 ⟨rfl, q', N', rq', R', W', hk5⟩
        have c1 := hk5.cell1.1
        clear hk4
        go_wp2_with fail
        refine (kv_par hk5 cwd t hts (few_all hsm0)).mono ?_
        rintro e w6 ⟨rfl, hk6, -⟩
        obtain ⟨pa, ps, pb, hpar⟩ : ∃ pa ps pb, parV (parA f (fun _ => none) cwd (bl t)) = .tuple #[.int .i64 pa, .string ps, .bool pb] := ⟨_, _, _, rfl⟩
        rw [hpar]
        have c2 := hk6.cell1.2
        clear hk5 c1
        go_wp2_with fail
        refine (kr_par hk6 cwd t hts (few_all hsm0)).mono ?_
        rintro e w7 ⟨rfl, hk7, -⟩
        rw [hpar]
        clear hk6 c2 hpar
        go_wp2_with fail
        refine (two_same hk7).mono ?_
        rintro e w8 ⟨rfl, kp8⟩
        have hk8 := hk7.still kp8
        have c1 := hk8.cell1.1
        have HC : Hid (Clean (parT f (fun _ => none) cwd (bl t)) ∧ Small f (parT f (fun _ => none) cwd (bl t))) := ⟨clean_par clean_new _ _, small_par hsm0 _ _⟩
        have hre := clean_redo HC.out.1
        clear hk7 kp8 hsm hsm0
        generalize parT f (fun _ => none) cwd (bl t) = gz at *
        go_wp2_with fail
        refine (redo_w q' N' p gz w8 hk8.game.v).mono ?_
        rintro e w9 ⟨v, rfl, ho⟩
        rw [hre] at ho
        have HN : Hid (TellIn w T p B q' N' rp rB rq' R' W' f gz w9 ∧ Clean gz) := ⟨⟨hk8.still ho.kept, HC.out.2, hT⟩, HC.out.1⟩
        obtain ⟨bo2, c3, hv⟩ : ∃ bo2 c3, v = .slice bo2 0 c3 := by
          rcases ho.form with ⟨e, -⟩ | ⟨g1, c3, e, -⟩
          · exact ⟨_, _, e⟩
          · exact ⟨_, _, e⟩
        subst hv
        clear ho hk8 c1 hre HC
        go_wp2_with fail
        go_roundw
        case rel => exact ⟨r + 1, _, _, _, _, _, _, by go_num, by omega, by omega, HN.out⟩
        case measure => simp [intOf]; omega
end Go.Proofs.Ythonlakpgncinaa
