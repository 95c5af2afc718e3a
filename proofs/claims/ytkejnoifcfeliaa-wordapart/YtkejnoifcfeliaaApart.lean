/- The statement on accesses that stop, and on words apart; no conditions. -/
import Derived.Test.YtkejnoifcfeliaaRuns
import Derived.Test.YtkejnoifcfeliaaWithin
import Derived.BigRegion
import Derived.Deep.CutBlock
namespace Go.Proofs.Ytkejnoifcfeliaa
open Go.RowKit

theorem apart_c1 (q r : Addr) (p b : Nat) (ws : List Int) (c out : Int) (ho : (ws.length : Int) ≤ out) (w : World) (hq : w.cell? q = some (.pointer (some ⟨p, 0, none⟩))) (hr : w.cell? r = some (.int .i64 out)) (h : MemIn p b ws c w) :
    Calls Try.prog 23 #[.pointer (some q), .pointer (some r)] w fun e w' => (Out.halts 2 out).ends e ∧ w' = w := by
  have A := store_no p b ws c out 5 (by omega) w h
  go_enter Try.func23, Try.ntmps23
  go_wp2_with fail
  refine A.mono ?_
  rintro e w1 ⟨he, rfl⟩
  rcases ends_cases he with ⟨h, rfl⟩ | ⟨hst, v, older, hv, rfl, hold⟩
  · cases h
  · exact ⟨rfl, ends_stop hv hold, rfl⟩

theorem apart_c2 (q r : Addr) (p b : Nat) (ws : List Int) (c out : Int) (ho : (ws.length : Int) ≤ out) (ho' : out ≤ 1000) (w : World) (hq : w.cell? q = some (.pointer (some ⟨p, 0, none⟩))) (hr : w.cell? r = some (.int .i64 out)) (h : MemIn p b ws c w) :
    Calls Try.prog 24 #[.pointer (some q), .pointer (some r)] w fun e w' => (Out.halts 2 (-1 - out)).ends e ∧ w' = w := by
  have A := add_no p b ws c (-1 - out) 5 (by omega) w h
  have ho0 : (0 : Int) ≤ out := by omega
  go_enter Try.func24, Try.ntmps24
  go_wp2_with fail
  refine A.mono ?_
  rintro e w1 ⟨he, rfl⟩
  rcases ends_cases he with ⟨h, rfl⟩ | ⟨hst, v, older, hv, rfl, hold⟩
  · cases h
  · exact ⟨rfl, ends_stop hv hold, rfl⟩

theorem apart_c3 (q r : Addr) (p b : Nat) (ws : List Int) (c out : Int) (ho : (ws.length : Int) ≤ out) (w : World) (hq : w.cell? q = some (.pointer (some ⟨p, 0, none⟩))) (hr : w.cell? r = some (.int .i64 out)) (h : MemIn p b ws c w) :
    Calls Try.prog 25 #[.pointer (some q), .pointer (some r)] w fun e w' => (Out.halts 2 out).ends e ∧ w' = w := by
  have A := swap_no p b ws c out 5 (by omega) w h
  go_enter Try.func25, Try.ntmps25
  go_wp2_with fail
  refine A.mono ?_
  rintro e w1 ⟨he, rfl⟩
  rcases ends_cases he with ⟨h, rfl⟩ | ⟨hst, v, older, hv, rfl, hold⟩
  · cases h
  · exact ⟨rfl, ends_stop hv hold, rfl⟩

/-- What the statement has made: a memory, the variable that names it, a row of its own. -/
structure ApartIn (B : Nat) (ws os : List Int) (c : Int) (w0 w : World) : Prop where
  mem : MemIn (B + 1) B ws c w
  box : w.heap[B + 2]? = some (.cells #[.pointer (some ⟨B + 1, 0, none⟩)] 22 (0, 0))
  own : w.heap[B + 2 + 1]? = some (.cells (os.map (Value.int .i64)).toArray 3 (0, 0))
  kept : Kept (fun _ => False) w0 w
  base : w0.heap.size = B

theorem ApartIn.still {B : Nat} {ws os : List Int} {c : Int} {w0 w w' : World} (h : ApartIn B ws os c w0 w) (hk : Kept (fun _ => False) w w') : ApartIn B ws os c w0 w' :=
  ⟨h.mem.kept hk (by simp) (by simp), hk.at h.box (by simp), hk.at h.own (by simp), h.kept.trans hk (fun _ _ h => h), h.base⟩

theorem ApartIn.moved {B : Nat} {ws ws' os : List Int} {c c' : Int} {w0 w w' : World} (h : ApartIn B ws os c w0 w) (hm : MemIn (B + 1) B ws' c' w') (hk : Kept (fun k => k = B + 1 ∨ k = B) w w') : ApartIn B ws' os c' w0 w' :=
  ⟨hm, hk.at h.box (by omega), hk.at h.own (by omega), h.kept.trans hk (fun k hk' e => by have := h.base; omega), h.base⟩

theorem ApartIn.put {B : Nat} {ws os : List Int} {c : Int} {w0 w : World} (h : ApartIn B ws os c w0 w) (a : Nat) (v : Int) : ApartIn B ws (os.set a v) c w0 (w.setCell ⟨B + 2 + 1, a, none⟩ (.int .i64 v)) := by
  have kk : Kept (fun k => k = B + 2 + 1) w (w.setCell ⟨B + 2 + 1, a, none⟩ (.int .i64 v)) := kept_counted (X := fun k => k = B + 2 + 1) (Kept.refl _ _) rfl _ _
  exact ⟨h.mem.kept kk (by omega) (by omega), kk.at h.box (by omega), row_put h.own a v, h.kept.trans kk (fun k hk' e => by have := h.base; omega), h.base⟩

theorem ApartIn.cell {B : Nat} {ws os : List Int} {c : Int} {w0 w : World} (h : ApartIn B ws os c w0 w) : w.cell? ⟨B + 2, 0, none⟩ = some (.pointer (some ⟨B + 1, 0, none⟩)) := cell_at h.box (i := 0) rfl

/-- A guard of what stops, and turns nothing. -/
theorem guard_stops (F : Nat) (cap : Array Value) (hF : Enters F) (o : Out) (w : World) (h : Calls Try.prog F cap (inGuard w) fun e w' => o.ends e ∧ w' = inGuard w) :
    Calls Try.prog 12 #[.func (.func F) #[] cap] w fun e w' => e = .returned (.tuple #[o.told, .bool o.stopped]) ∧ Kept (fun _ => False) w w' :=
  guard_fn F cap hF o w (h.mono fun _ _ ⟨he, hw⟩ => ⟨he, hw ▸ Kept.refl _ _⟩)

theorem inGuard_kept (w : World) : Kept (fun _ => False) w (inGuard w) := ((Kept.refl _ w).alloc _).alloc _

theorem apart_g1 (B r : Nat) (ws os : List Int) (c out : Int) (ho : (ws.length : Int) ≤ out) (w0 w : World) (h : ApartIn B ws os c w0 w) (hr : w.heap[r]? = some (.cells #[.int .i64 out] 3 (0, 0))) :
    Calls Try.prog 12 #[.func (.func 23) #[] #[.pointer (some ⟨B + 2, 0, none⟩), .pointer (some ⟨r, 0, none⟩)]] w fun e w' => e = .returned (.tuple #[.agg #[.int .i64 2, .int .i64 out], .bool true]) ∧ Kept (fun _ => False) w w' := by
  have k0 := inGuard_kept w
  exact guard_stops 23 _ (fun _ _ => by kernel_rfl) (.halts 2 out) w (apart_c1 _ _ _ _ _ _ out ho _ ((h.still k0).cell) (cell_at (k0.at hr (by simp)) (i := 0) rfl) (h.still k0).mem)

theorem apart_g2 (B r : Nat) (ws os : List Int) (c out : Int) (ho : (ws.length : Int) ≤ out) (ho' : out ≤ 1000) (w0 w : World) (h : ApartIn B ws os c w0 w) (hr : w.heap[r]? = some (.cells #[.int .i64 out] 3 (0, 0))) :
    Calls Try.prog 12 #[.func (.func 24) #[] #[.pointer (some ⟨B + 2, 0, none⟩), .pointer (some ⟨r, 0, none⟩)]] w fun e w' => e = .returned (.tuple #[.agg #[.int .i64 2, .int .i64 (-1 - out)], .bool true]) ∧ Kept (fun _ => False) w w' := by
  have k0 := inGuard_kept w
  exact guard_stops 24 _ (fun _ _ => by kernel_rfl) (.halts 2 (-1 - out)) w (apart_c2 _ _ _ _ _ _ out ho ho' _ ((h.still k0).cell) (cell_at (k0.at hr (by simp)) (i := 0) rfl) (h.still k0).mem)

theorem apart_g3 (B r : Nat) (ws os : List Int) (c out : Int) (ho : (ws.length : Int) ≤ out) (w0 w : World) (h : ApartIn B ws os c w0 w) (hr : w.heap[r]? = some (.cells #[.int .i64 out] 3 (0, 0))) :
    Calls Try.prog 12 #[.func (.func 25) #[] #[.pointer (some ⟨B + 2, 0, none⟩), .pointer (some ⟨r, 0, none⟩)]] w fun e w' => e = .returned (.tuple #[.agg #[.int .i64 2, .int .i64 out], .bool true]) ∧ Kept (fun _ => False) w w' := by
  have k0 := inGuard_kept w
  exact guard_stops 25 _ (fun _ _ => by kernel_rfl) (.halts 2 out) w (apart_c3 _ _ _ _ _ _ out ho _ ((h.still k0).cell) (cell_at (k0.at hr (by simp)) (i := 0) rfl) (h.still k0).mem)

set_option maxRecDepth 100000 in
set_option maxHeartbeats 1600000 in
theorem apart_w (n : Int) (ao : Option Addr) (len cap lb off : Nat) (K A V : Nat → Int) (hao : 0 < len → ao = some ⟨lb, off, none⟩) (hnil : ao = none → len = 0 ∧ cap = 0) (hlc : len ≤ cap) (hm : cap ≤ 9223372036854775807) (w : World)
    (hc : ∀ i, i < len → w.cell? ⟨lb, off + i * 3, none⟩ = some (.int .i64 (K i)) ∧ w.cell? ⟨lb, off + i * 3 + 1, none⟩ = some (.int .i64 (A i)) ∧ w.cell? ⟨lb, off + i * 3 + 2, none⟩ = some (.int .i64 (V i))) :
    Calls Try.prog 6 #[.int .i64 n, .slice ao len cap] w fun e w' => e = .returned (.bool true) ∧ Kept (fun _ => False) w w' := by
  obtain ⟨N, hN50, hNl, hNA, hNB⟩ : ∃ N : Nat, N ≤ 25 ∧ N ≤ len ∧ (len ≤ 25 → N = len) ∧ (25 < len → N = 25) := ⟨min len 25, by omega, by omega, by omega, by omega⟩
  obtain ⟨k, hk, hk1, hk20⟩ : ∃ k : Nat, 1 + n % 12 = k ∧ 1 ≤ k ∧ k ≤ 12 := ⟨(1 + n % 12).toNat, by omega, by omega, by omega⟩
  obtain ⟨B, hB⟩ : ∃ B : Nat, w.heap.size = B := ⟨_, rfl⟩
  have mk := make_ints k (by omega)
  have hmf := makeF
  go_enter Try.func6, Try.ntmps6
  go_wp2_with fail
  refine (within_any n 1 12 (by decide) (by decide) (by decide) _).mono ?_
  rintro e w1 ⟨rfl, rfl⟩
  simp only [show (1 : Int) + n % (12 - 1 + 1) = k from by omega]
  clear hk
  go_wp2_with fail
  refine (new_ok k (by omega) w1).mono ?_
  rintro e w2 ⟨rfl, hM, hk2, hs2⟩
  rw [hB] at hs2 hM
  simp only [hB]
  have HM : Hid _ := hM
  have HK : Hid _ := hk2
  clear hM hk2
  go_upto_block 0 with fail
  go_cut [8] from 27 to 115 (fun _ wr => ∃ (ws : List Int) (c : Int), ws.length = k ∧ ApartIn B ws ws c w1 wr)
  case first =>
    go_wp2_with fail
    go_loopw [8] (fun i wr => ∃ (j : Nat) (ws : List Int) (c : Int), j ≤ N ∧ i = .int .i64 j ∧ ws.length = k ∧ 0 ≤ c ∧ c ≤ 13 * j ∧ ApartIn B ws ws c w1 wr)
      (fun i _ => N - (intOf i).toNat)
    case atStart =>
      have k3 : Kept (fun _ => False) w2 ((w2.alloc (.cells #[.pointer (some ⟨B + 1, 0, none⟩)] 22)).alloc (.cells (Array.replicate k (.int .i64 0)) 3)) := ((Kept.refl _ _).alloc _).alloc _
      refine ⟨0, List.replicate k 0, 0, by omega, rfl, by simp, by omega, by omega, HM.out.kept k3 (by simp) (by simp), alloc_off (alloc_at' _ hs2), ?_, HK.out.trans k3 (fun _ _ h => h), hB⟩
      simpa using alloc_at' (w := w2.alloc (.cells #[.pointer (some ⟨B + 1, 0, none⟩)] 22)) _ (by simp [hs2])
    case round =>
      obtain ⟨j, ws, c, hj, rfl, hws, hc0, hcj, hAI⟩ := hrel
      clear HM HK mk hs2
      by_cases hjN : j < N
      · have hjl : (j : Int) < (len : Int) := by omega
        have hj25 : (j : Int) < 25 := by omega
        obtain ⟨_, hc1, hc2⟩ := hc j (by omega)
        have hlb : lb < B := hB ▸ World.block_lt_of_cell? w1 _ hc2
        have d1 := hAI.kept.cell hc1 (by simp)
        have d2 := hAI.kept.cell hc2 (by simp)
        obtain rfl := hao (by omega)
        obtain ⟨a, ha, hak⟩ : ∃ a : Nat, 0 + A j % ((k : Int) - 1 - 0 + 1) = a ∧ a < k := ⟨(A j % k).toNat, by rw [show (k : Int) - 1 - 0 + 1 = k by omega]; have := Int.emod_nonneg (A j) (show (k : Int) ≠ 0 by omega); omega, by have := Int.emod_nonneg (A j) (show (k : Int) ≠ 0 by omega); have := Int.emod_lt_of_pos (A j) (show (0 : Int) < k by omega); omega⟩
        obtain ⟨o, ho, ho9⟩ : ∃ o : Nat, 0 + V j % (9 - 0 + 1) = o ∧ o ≤ 9 := ⟨(V j % 10).toNat, by omega, by omega⟩
        have hak' : (a : Int) < (k : Int) := by omega
        have hAd : ApartIn B ws ws c w1 wr.drew := hAI.still (Kept.refl _ _).drew
        have ST := store_ok _ _ _ _ a (V j) (by omega) (by omega) _ hAd.mem
        have cb := hAI.cell
        have HAd : Hid _ := hAd
        have HC : Hid _ := hc2
        clear hc hc1 hc2 hao hnil hAd hAI
        go_wp2_with fail
        refine (within_any (A j) 0 (k - 1) (by decide) (by omega) (by omega) _).mono ?_
        rintro e w3 ⟨rfl, rfl⟩
        simp only [ha]
        go_wp2_with fail
        go_region_held3 (fun w' => w'.cell? ⟨lb, off + j * 3 + 2, none⟩ = some (.int .i64 (V j)) ∧ w'.cell? ⟨B + 2, 0, none⟩ = some (.pointer (some ⟨B + 1, 0, none⟩))) (simp [*])
          (first
            | (go_at_call 8; refine ST.mono ?_; rintro e w4 ⟨rfl, hM4, hk4⟩; have hA4 := HAd.out.moved hM4 hk4; have d4 := hA4.kept.cell (p := ⟨lb, off + j * 3 + 2, none⟩) HC.out (by simp); have cb4 := hA4.cell))
        have f4 := free_at hA4.own a
        have r4 := row_at hA4.own (a := a) (by omega)
        have hA5 := hA4.put a (V j)
        have HA5 : Hid _ := hA5
        have CT := count_w _ _ _ _ _ hA5.mem
        have cb5 := hA5.cell
        clear hM4 hk4 hA4 ST HAd d1 d2 cb hA5
        go_wp2_with fail
        refine CT.mono ?_
        rintro e w5 ⟨rfl, hw5⟩
        have hA5 := HA5.out
        rw [← hw5] at hA5
        have d5 := hA5.kept.cell (p := ⟨lb, off + j * 3 + 2, none⟩) HC.out (by simp)
        have hws5 : (ws.set a (V j)).length = k := by simp [hws]
        generalize ws.set a (V j) = ws5 at hA5 hws5
        clear HA5 CT hw5 d4 cb4 cb5 f4 r4 hws
        have HA5 : Hid _ := hA5
        clear hA5
        go_wp2_with fail
        refine (within_any (V j) 0 9 (by decide) (by decide) (by decide) _).mono ?_
        rintro e w6 ⟨rfl, rfl⟩
        simp only [ho]
        have hA6 := HA5.out.still ((Kept.refl _ w6).alloc (.cells #[.int .i64 ((k : Int) + o)] 3))
        have r6 : (w6.alloc (.cells #[.int .i64 ((k : Int) + o)] 3)).heap[w6.heap.size]? = some (.cells #[.int .i64 ((k : Int) + o)] 3 (0, 0)) := alloc_at _ _
        have G1 := apart_g1 B w6.heap.size ws5 ws5 _ ((k : Int) + o) (by omega) _ _ hA6 r6
        have HA6 : Hid _ := hA6
        have HR6 : Hid _ := r6
        clear hA6 r6 HA5 d5
        go_wp2_with fail
        refine G1.mono ?_
        rintro e w7 ⟨rfl, hk7⟩
        have hA7 := HA6.out.still (hk7.alloc (.cells #[.int .i64 2, .int .i64 ((k : Int) + o)] 28))
        have r7 := (hk7.alloc (.cells #[.int .i64 2, .int .i64 ((k : Int) + o)] 28)).at HR6.out (by simp)
        have G2 := apart_g2 B w6.heap.size ws5 ws5 _ ((k : Int) + o) (by omega) (by omega) _ _ hA7 r7
        have HA7 : Hid _ := hA7
        have HR7 : Hid _ := r7
        clear hA7 r7 HA6 HR6 G1 hk7
        go_wp2_with fail
        refine G2.mono ?_
        rintro e w8 ⟨rfl, hk8⟩
        have hA8 := HA7.out.still (hk8.alloc (.cells #[.int .i64 2, .int .i64 (-1 - ((k : Int) + o))] 28))
        have r8 := (hk8.alloc (.cells #[.int .i64 2, .int .i64 (-1 - ((k : Int) + o))] 28)).at HR7.out (by simp)
        have G3 := apart_g3 B w6.heap.size ws5 ws5 _ ((k : Int) + o) (by omega) _ _ hA8 r8
        have HA8 : Hid _ := hA8
        clear hA8 r8 HA7 HR7 G2 hk8
        go_wp2_with fail
        refine G3.mono ?_
        rintro e w9 ⟨rfl, hk9⟩
        have hA9 := HA8.out.still (hk9.alloc (.cells #[.int .i64 2, .int .i64 ((k : Int) + o)] 28))
        have CT := count_w _ _ _ _ _ hA9.mem
        have cb9 := hA9.cell
        have cb9' := (HA8.out.still hk9).cell
        have lb9 := lt_at (HA8.out.still hk9).box
        have HA9 : Hid _ := hA9
        clear hA9 HA8 G3 hk9
        go_wp2_with fail
        refine CT.mono ?_
        rintro e w10 ⟨rfl, hw10⟩
        have hA10 := HA9.out
        rw [← hw10] at hA10
        have hA10' : ApartIn B ws5 ws5 (c + 1 + (0 : Nat)) w1 w10 := by simpa using hA10
        have HA10 : Hid _ := hA10'
        clear hA10'
        clear hA10 HA9 hw10 CT cb9 cb9' lb9
        go_wp2_with fail
        go_loopw [104] (fun i wr => ∃ x : Nat, x ≤ k ∧ i = .int .i64 x ∧ ApartIn B ws5 ws5 (c + 1 + x) w1 wr)
          (fun i _ => k - (intOf i).toNat)
        case atStart => exact ⟨0, by omega, rfl, HA10.out⟩
        case round =>
          obtain ⟨x, hx, rfl, hAx⟩ := hrel
          clear HA10
          by_cases hxk : x < k
          · have hxk' : (x : Int) < (k : Int) := by omega
            have hAd : ApartIn B ws5 ws5 (c + 1 + x) w1 wr.drew := hAx.still (Kept.refl _ _).drew
            have LD := load_ok _ _ _ _ x (by omega) (by omega) _ hAd.mem
            have cb := hAx.cell
            have rx := row_at hAx.own (a := x) (by omega)
            have HAd : Hid _ := hAd
            clear hAd hAx
            go_wp2_with fail
            go_region_held3 (fun w' => w'.cell? ⟨B + 2 + 1, x, none⟩ = some (.int .i64 (wd ws5 x)) ∧ w'.cell? ⟨B + 2, 0, none⟩ = some (.pointer (some ⟨B + 1, 0, none⟩))) (simp [*])
              (first
                | (go_at_call 11; refine LD.mono ?_; rintro e w11 ⟨rfl, hM11, hk11⟩; have hA11 := HAd.out.moved hM11 (hk11.mono fun _ _ e => Or.inl e); have cb11 := hA11.cell; have rx11 := row_at hA11.own (a := x) (by omega)))
            have HA11 : Hid _ := hA11
            clear hA11 hM11 hk11 LD HAd cb rx
            go_wp2
            go_roundw
            case rel => exact ⟨x + 1, by omega, by go_num, by simpa [Int.add_assoc] using HA11.out⟩
            case measure => simp [intOf]; omega
          · have hxx : x = k := by omega
            subst hxx
            have HAx : Hid _ := hAx
            clear hx hxk hAx
            go_wp2
            go_roundw
            case rel => exact ⟨j + 1, ws5, _, by omega, by go_num, hws5, by omega, by omega, HAx.out⟩
            case measure => simp [intOf]; omega
      · have hjj : j = N := by omega
        subst hjj
        clear hc
        have HA0 : Hid _ := hAI
        clear hAI
        rcases (show (len ≤ 25 ∧ j = len) ∨ (25 < len ∧ j = 25) by omega) with ⟨hl25, hjl⟩ | ⟨hl25, hjl⟩
        · have t1 : ¬ (j : Int) < (len : Int) := by omega
          clear hjl hNA hNB hl25
          go_wp2
          go_meet
          case rel => exact ⟨ws, c, hws, HA0.out⟩
        · have t1 : (j : Int) < (len : Int) := by omega
          have t2 : ¬ (j : Int) < 25 := by omega
          clear hjl hNA hNB hl25
          go_wp2
          go_meet
          case rel => exact ⟨ws, c, hws, HA0.out⟩
  case rest =>
    obtain ⟨ws, c, hws, hAI⟩ := hcut
    have LN := len_w _ _ _ _ _ hAI.mem
    rw [hws] at LN
    have cb := hAI.cell
    have HA0 : Hid _ := hAI
    clear HM HK mk hs2 hc hAI
    go_wp2_with fail
    refine LN.mono ?_
    rintro e w3 ⟨rfl, rfl⟩
    clear LN
    go_wp2_with fail
    refine (runs_w _).mono ?_
    rintro e w4 ⟨rfl, hk4⟩
    have HK4 : Hid _ := hk4
    clear hk4
    go_wp2
    go_ret
    exact ⟨rfl, HA0.out.kept.trans HK4.out (fun _ _ h => h)⟩
end Go.Proofs.Ytkejnoifcfeliaa
