/- What marks, Sort and Within do when they are called; no conditions but that a row has no more than a million keys. -/
import Derived.Test.YtehifngelkenaaaKRow
import Derived.Test.YtehifngelkenaaaSortF
namespace Go.Proofs.Ytehifngelkenaaa
open Go.RowKit

theorem place2 (x y : Int) (w : World) : Calls Try.prog 34 #[.agg #[.int .i64 x, .int .i64 y]] w fun e w' => e = .returned (.int .i64 (plc (x, y))) ∧ Kept (fun _ => False) w w' := place_w (x, y) w

def bcs (f : Nat → Bool) : Array Value := ((List.range 55).map fun p => Value.bool (f p)).toArray

theorem bcs_get (f : Nat → Bool) {q : Nat} (h : q < 55) : (bcs f)[q]? = some (.bool (f q)) := by simp [bcs, h]
theorem bcs_size (f : Nat → Bool) : (bcs f).size = 55 := by simp [bcs]
theorem bcs_set (f : Nat → Bool) (q : Nat) : (bcs f).setIfInBounds q (.bool true) = bcs fun p => f p || (q : Int) == (p : Int) := by
  apply Array.ext
  · simp [bcs]
  · intro i h1 h2
    have hi : i < 55 := by simpa [bcs] using h2
    by_cases e : q = i
    · subst e; simp [bcs]
    · have : ((q : Int) == (i : Int)) = false := by simp; omega
      simp [bcs, e, this]

theorem info_bool : (Try.prog.info? 4).map (fun i => (i.zero, i.size, i.bytes)) = some (some (.bool false), 1, 1) := by kernel_rfl

theorem make_bools (w : World) : (Instr.makeSlice 55 (.int .i64 55) (.int .i64 55)).run Try.prog w =
    .ok (.slice (some ⟨w.heap.size, 0, none⟩) 55 55) (w.alloc (.cells (bcs fun _ => false) 4)) := by
  obtain ⟨i0, hi, hz0, hz1, hz2⟩ := info_parts info_bool
  have hr := run_make (P := Try.prog) w 55 4 i0 _ Try.underlying55 hi hz0 .i64 .i64 55 55 (by omega) (Int.le_refl _) (by rw [hz2]; omega) (by omega)
  rw [hr]
  congr 3
  rw [hz1]
  apply Array.toList_inj.1
  rw [show (Value.bool false).cells = #[Value.bool false] from rfl, toList_madeCells_one]
  rfl

/-- The marks f, in block B. -/
structure MarkIn (B : Nat) (f : Nat → Bool) (w0 w : World) : Prop where
  row : w.heap[B]? = some (.cells (bcs f) 4 (0, 0))
  kept : Kept (fun _ => False) w0 w
  new : w0.heap.size ≤ B

theorem MarkIn.still {B : Nat} {f : Nat → Bool} {w0 w w' : World} (h : MarkIn B f w0 w) (hk : Kept (fun _ => False) w w') : MarkIn B f w0 w' :=
  ⟨hk.at h.row (fun x => x), h.kept.trans hk (fun _ _ e => e), h.new⟩

theorem MarkIn.put {B : Nat} {f g : Nat → Bool} {w0 w : World} (h : MarkIn B f w0 w) (q : Nat) (e : ∀ p, g p = (f p || (q : Int) == (p : Int))) : MarkIn B g w0 (w.setCell ⟨B, q, none⟩ (.bool true)) := by
  obtain rfl : g = fun p => f p || (q : Int) == (p : Int) := funext e
  refine ⟨?_, Kept.setCell h.kept ?_ _, h.new⟩
  · rw [set_at h.row, bcs_set f q]
  · intro hb; have := h.new; exact absurd hb (by simp; omega)

theorem take_mk {l : Ks} {i : Nat} (h : i < l.length) (p : Nat) : mk (l.take (i + 1)) p = (mk (l.take i) p || plc (kd l i) == (p : Int)) := by
  rw [List.take_succ_eq_append_getElem h, mk_app, mk_one, kd_get h]

theorem pair_eta (k : Int × Int) : (k.1, k.2) = k := rfl

set_option maxHeartbeats 800000 in
theorem marks_w (x : Value) (l : Ks) (hl : l.length ≤ 1000000) (w : World) (h : SrcK x l w) :
    Calls Try.prog 45 #[x] w fun e w' => ∃ B, e = .returned (.slice (some ⟨B, 0, none⟩) 55 55) ∧ MarkIn B (mk l) w w' := by
  obtain ⟨ao, b, o, c, rfl, h0, hao, hc⟩ := h
  obtain ⟨B, hB⟩ : ∃ B : Nat, w.heap.size = B := ⟨_, rfl⟩
  have hm := make_bools w
  rw [hB] at hm
  have HC : Hid _ := hc
  clear hc h0
  obtain ⟨n, hn⟩ : ∃ n : Nat, l.length = n := ⟨_, rfl⟩
  rw [hn] at hao hl
  simp only [hn]
  have HM : Hid (MarkIn B (mk (l.take 0)) w (w.alloc (.cells (bcs fun _ => false) 4))) := ⟨alloc_at' _ hB, (Kept.refl _ _).alloc _, by omega⟩
  have HL : Hid (l.length = n) := hn
  clear hn
  go_enter Try.func45, Try.ntmps45
  go_wp2_with fail
  refine (all_w _).mono ?_
  rintro e w1 ⟨rfl, rfl⟩
  go_wp2
  go_loopw [11] (fun s wr => ∃ i : Nat, s = .int .i64 i ∧ i ≤ n ∧ Hid (MarkIn B (mk (l.take i)) w1 wr)) (fun s _ => n - (intOf s).toNat)
  case atStart => exact ⟨0, rfl, Nat.zero_le _, HM.out⟩
  case round =>
    obtain ⟨i, rfl, hi, HR⟩ := hrel
    clear HM hm
    by_cases hlt : i < n
    · have t1 : (i : Int) < (n : Int) := by omega
      obtain ⟨c0, c1⟩ := HC.out i (by have := HL.out; omega)
      replace c0 := HR.out.kept.cell c0 (fun x => x)
      replace c1 := HR.out.kept.cell c1 (fun x => x)
      obtain rfl := hao (by omega)
      have hil : i < l.length := by have := HL.out; omega
      have HT : Hid _ := take_mk hil
      have hp := plc_bounds (kd l i)
      obtain ⟨⟨x, y⟩, hk⟩ : ∃ k, kd l i = k := ⟨_, rfl⟩
      rw [hk] at c0 c1 HT hp
      simp only at c0 c1
      obtain ⟨E, hE⟩ : ∃ E : Nat, wr.heap.size = E := ⟨_, rfl⟩
      have HS : Hid _ := HR.out.still ((Kept.refl _ _).alloc (.cells #[.int .i64 x, .int .i64 y] 25))
      have tb : b < E := by have := World.block_lt_of_cell? _ _ c0; simpa [hE] using this
      clear HC hao hil hk
      go_wp2_with fail
      refine (place2 x y _).mono ?_
      rintro e w2 ⟨rfl, hk2⟩
      have HS2 : Hid _ := HS.out.still hk2
      clear hk2 HS HR c0 c1
      by_cases hpl : plc (x, y) = -1
      · rw [hpl] at HT ⊢
        go_wp2
        go_roundw
        case rel =>
          refine ⟨i + 1, by go_num, by omega, ?_⟩
          have e : mk (l.take (i + 1)) = mk (l.take i) := funext fun p => by rw [HT.out p, show ((-1 : Int) == (p : Int)) = false by simp, Bool.or_false]
          rw [e]; exact HS2.out
        case measure => simp [intOf]; omega
      · obtain ⟨q, hq⟩ : ∃ q : Nat, plc (x, y) = q := ⟨(plc (x, y)).toNat, by omega⟩
        rw [hq] at HT hp ⊢
        have hq55 : q < 55 := by omega
        have cq := cell_at HS2.out.row (bcs_get _ hq55)
        have fq := free_at HS2.out.row q
        have t2 : ¬ (q : Int) = -1 := by omega
        generalize mk (l.take i) q = z at cq
        clear hpl hq hp
        go_wp2
        go_roundw
        case rel => exact ⟨i + 1, by go_num, by omega, HS2.out.put q HT.out⟩
        case measure => simp [intOf]; omega
    · obtain rfl : i = n := by omega
      clear HC
      go_wp2
      go_ret
      refine ⟨B, rfl, ?_⟩
      have := HR.out
      rw [List.take_of_length_le (by rw [HL.out]; exact Nat.le_refl _)] at this
      exact this

theorem SrcK.lone {w : World} {E : Nat} {x y : Int} (h : w.heap[E]? = some (.cells #[.int .i64 x, .int .i64 y] 25 (0, 0))) : SrcK (.slice (some ⟨E, 0, Option.none⟩) 1 1) [(x, y)] w :=
  SrcK.row (l := [(x, y)]) (l' := []) h rfl 1

theorem keyat2 (p : Nat) (hp : p < 55) (w : World) : Calls Try.prog 33 #[.int .i64 (p : Int)] w fun e w' => e = .returned (.tuple #[.agg #[.int .i64 (keyAt p).1, .int .i64 (keyAt p).2], .bool true]) ∧ Kept (fun _ => False) w w' := by
  have := keyat_w p (by omega) w
  rw [isAt_yes (by omega) (by omega)] at this
  exact this

theorem row_off {w : World} {base : Nat} {e : TypeId} {size : Nat} {v : Value} {n : Nat} {xs : List Value} (h : w.ownsRow base e size v n xs) {k : Nat} {c : Array Value} {t : TypeId} (hc : w.heap[k]? = some (.cells c t (0, 0))) (ht : t ≠ e) : v.ownBlock ≠ some k := by
  intro hk
  rcases h.2 with ⟨rfl, _⟩ | ⟨g, cap, cur, rfl, _, hgb, _⟩
  · simp [Value.ownBlock] at hk
  · have : g = k := by simpa [Value.ownBlock] using hk
    subst this
    rw [hc] at hgb
    simp at hgb
    exact ht hgb.2

theorem MarkIn.grown {B : Nat} {f : Nat → Bool} {w0 w w' : World} {base n : Nat} {v : Value} {xs : List Value} (h : MarkIn B f w0 w) (ho : w.ownsRow base 25 2 v n xs) (hg : w.grownBy w' v.ownBlock) (hk : Kept (fun _ => False) w0 w') : MarkIn B f w0 w' :=
  ⟨(hg.block B (lt_at h.row) (fun e => row_off ho h.row (by decide) e.symm)).trans h.row, hk, h.new⟩

theorem all_step {i : Nat} {g : Nat → Bool} (h : ∀ p, p < i → g p = true) (hi : g i = true) : ∀ p, p < i + 1 → g p = true := by
  intro p hp
  rcases Nat.lt_or_ge p i with h1 | h1
  · exact h p h1
  · obtain rfl : p = i := by omega
    exact hi

set_option maxHeartbeats 800000 in
theorem within_w (x y : Value) (a b : Ks) (ha : a.length ≤ 1000000) (hb : b.length ≤ 1000000) (w : World) (hx : SrcK x a w) (hy : SrcK y b w) :
    Calls Try.prog 31 #[x, y] w fun e w' => e = .returned (.bool (withinOf a b)) ∧ Kept (fun _ => False) w w' := by
  have M1 := marks_w y b hb w hy
  have HX : Hid _ := hx
  clear hx hy
  go_enter Try.func31, Try.ntmps31
  go_wp2_with fail
  refine M1.mono ?_
  rintro e w1 ⟨B, rfl, hM⟩
  clear M1
  have M2 := marks_w x a ha w1 (SrcK.kept HX.out hM.kept)
  have HM : Hid _ := hM
  clear HX hM
  go_wp2_with fail
  refine M2.mono ?_
  rintro e w2 ⟨A, rfl, hN⟩
  clear M2
  have HK : Hid _ := HM.out.kept.trans hN.kept (fun _ _ e => e)
  have hB := hN.kept.at HM.out.row (fun x => x)
  have HB : Hid _ := hB
  have HA : Hid _ := hN.row
  clear hB hN HM
  go_wp2
  go_loop [13] (fun s => ∃ i : Nat, s = .int .i64 i ∧ i ≤ 55 ∧ Hid (∀ p, p < i → (!mk a p || mk b p) = true)) (fun s => 55 - (intOf s).toNat)
  case atStart => exact ⟨0, rfl, Nat.zero_le _, fun p hp => by omega⟩
  case round =>
    obtain ⟨i, rfl, hi, HR⟩ := hrel
    by_cases hlt : i < 55
    · have t1 : (i : Int) < 55 := by omega
      have cA := cell_at HA.out (bcs_get _ hlt)
      have cB := cell_at HB.out (bcs_get _ hlt)
      clear HA HB
      cases hma : mk a i with
      | false =>
        have HP : Hid _ := all_step HR.out (by rw [hma]; rfl)
        rw [hma] at cA
        clear hma HR
        go_wp2
        go_round
        case rel => exact ⟨i + 1, by go_num, by omega, HP.out⟩
        case measure => simp [intOf]; omega
      | true =>
        cases hmb : mk b i with
        | true =>
          have HP : Hid _ := all_step HR.out (by rw [hmb]; simp)
          rw [hma] at cA
          rw [hmb] at cB
          clear hma hmb HR
          go_wp2
          go_round
          case rel => exact ⟨i + 1, by go_num, by omega, HP.out⟩
          case measure => simp [intOf]; omega
        | false =>
          have HW : Hid (withinOf a b = false) := by
            show withinOf a b = false
            rw [← Bool.not_eq_true]
            intro h
            have := List.all_eq_true.1 h i (by simpa using hlt)
            rw [hma, hmb] at this
            simp at this
          rw [hma] at cA
          rw [hmb] at cB
          clear hma hmb HR
          go_wp2
          go_ret
          exact ⟨by rw [HW.out]; rfl, HK.out⟩
    · obtain rfl : i = 55 := by omega
      have HW : Hid (withinOf a b = true) := List.all_eq_true.2 fun p hp => HR.out p (by simpa using hp)
      clear HA HB HR
      go_wp2
      go_ret
      exact ⟨by rw [HW.out]; rfl, HK.out⟩

set_option maxHeartbeats 800000 in
theorem same_w (x y : Value) (l : Ks) (hl : l.length ≤ 1000000) (w : World) (h : SrcK x l w) (h' : SrcK y l w) :
    Calls Try.prog 14 #[x, y] w fun e w' => e = .returned (.bool true) ∧ Kept (fun _ => False) w w' := by
  obtain ⟨ao, b, o, c, rfl, -, hao, hc⟩ := h
  obtain ⟨bo, b', o', c', rfl, -, hbo, hc'⟩ := h'
  obtain ⟨n, hn⟩ : ∃ n : Nat, l.length = n := ⟨_, rfl⟩
  rw [hn] at hl hao hc hbo hc'
  simp only [hn]
  clear hn
  have HC : Hid _ := hc
  have HC' : Hid _ := hc'
  clear hc hc'
  go_enter Try.func14, Try.ntmps14
  go_wp2
  go_loopw [5] (fun s wr => ∃ i m : Nat, s = .int .i64 i ∧ i ≤ n ∧ wr = w.drewN m) (fun s _ => n - (intOf s).toNat)
  case atStart => exact ⟨0, 0, rfl, Nat.zero_le _, rfl⟩
  case round =>
    obtain ⟨i, m, rfl, hi, rfl⟩ := hrel
    by_cases hlt : i < n
    · obtain ⟨c0, c1⟩ := HC.out i hlt
      obtain ⟨d0, d1⟩ := HC'.out i hlt
      obtain rfl := hao (by omega)
      obtain rfl := hbo (by omega)
      have t1 : (i : Int) < (n : Int) := by omega
      clear HC HC' hao hbo
      generalize (kd l i).1 = k1 at *
      generalize (kd l i).2 = k2 at *
      go_wp2_with fail
      go_quiet (fail)
      go_wp2
      go_roundw
      case rel => exact ⟨i + 1, _, by go_num, by omega, rfl⟩
      case measure => simp [intOf]; omega
    · clear HC HC' hao hbo
      go_wp2
      go_ret
      exact ⟨rfl, kept_drewN _ _⟩
end Go.Proofs.Ytehifngelkenaaa
