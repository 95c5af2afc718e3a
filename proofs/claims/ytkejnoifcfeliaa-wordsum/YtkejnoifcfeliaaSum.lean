/- The statement on sums; no conditions. -/
import Derived.Test.YtkejnoifcfeliaaRuns
import Derived.Test.YtkejnoifcfeliaaWithin
import Derived.BigRegion
import Derived.Deep.CutBlock
namespace Go.Proofs.Ytkejnoifcfeliaa
open Go.RowKit

/-- What goes into word m when words are swapped round. -/
def prev (ws : List Int) (m : Nat) : Int := if m = 0 then 7 else wd ws (m - 1)
def rot (ws : List Int) (m : Nat) : List Int := (List.range ws.length).map fun i => if i < m then prev ws i else wd ws i

theorem rot_length (ws : List Int) (m : Nat) : (rot ws m).length = ws.length := by simp [rot]

theorem wd_rot {ws : List Int} {m i : Nat} (hi : i < ws.length) : wd (rot ws m) i = if i < m then prev ws i else wd ws i := by
  simp [wd, rot, hi, List.getD]

theorem rot_zero (ws : List Int) : rot ws 0 = ws := by
  apply List.ext_getElem
  · simp [rot]
  · intro i h1 h2
    simp [rot, wd, h2]

theorem rot_succ {ws : List Int} {m : Nat} (_hm : m < ws.length) : (rot ws m).set m (prev ws m) = rot ws (m + 1) := by
  apply List.ext_getElem
  · simp [rot]
  · intro i h1 h2
    simp only [rot, List.getElem_set, List.getElem_map, List.getElem_range]
    by_cases h : m = i
    · subst h; simp
    · by_cases h3 : i < m
      · simp [h, h3, show i < m + 1 by omega]
      · simp [h, h3, show ¬ i < m + 1 by omega]

theorem info_ask : (Try.prog.info? 39).map (fun i => i.size) = some 3 := by kernel_rfl

theorem slice_to (ao : Option Addr) (len cap h : Nat) (H : Int) (hH : H = h) (hc : h ≤ cap) (w : World) :
    (Instr.slice 33 (.slice ao len cap) none (some (.int .i64 H)) none).run Try.prog w = .ok (.slice ao h cap) w := by
  subst hH
  obtain ⟨i, hi, _⟩ := Option.map_eq_some_iff.1 info_ask
  have e : (if cap = 0 then ao else Option.map (fun x => x.add 0) ao) = ao := by
    split
    · rfl
    · cases ao with
      | none => rfl
      | some a => simp [Addr.add_zero']
  simp [Instr.slice, run_underlying Try.underlying33, Instr.sliceBounds, Instr.sliceBound, asIntOf, sizeOf, typeInfo, hi, e]
  intro h2
  omega

set_option maxRecDepth 100000 in
set_option maxHeartbeats 1600000 in
theorem sum_w (n : Int) (ao : Option Addr) (len cap lb off : Nat) (K A V : Nat → Int) (hao : 0 < len → ao = some ⟨lb, off, none⟩) (hnil : ao = none → len = 0 ∧ cap = 0) (hlc : len ≤ cap) (hm : cap ≤ 9223372036854775807) (w : World)
    (hc : ∀ i, i < len → w.cell? ⟨lb, off + i * 3, none⟩ = some (.int .i64 (K i)) ∧ w.cell? ⟨lb, off + i * 3 + 1, none⟩ = some (.int .i64 (A i)) ∧ w.cell? ⟨lb, off + i * 3 + 2, none⟩ = some (.int .i64 (V i))) :
    Calls Try.prog 5 #[.int .i64 n, .slice ao len cap] w fun e w' => e = .returned (.bool true) ∧ Kept (fun _ => False) w w' := by
  obtain ⟨N, hN50, hNl, hNA, hNB⟩ : ∃ N : Nat, N ≤ 50 ∧ N ≤ len ∧ (len ≤ 50 → N = len) ∧ (50 < len → N = 50) := ⟨min len 50, by omega, by omega, by omega, by omega⟩
  obtain ⟨k, hk, hk1, hk20⟩ : ∃ k : Nat, 1 + n % 20 = k ∧ 1 ≤ k ∧ k ≤ 20 := ⟨(1 + n % 20).toNat, by omega, by omega, by omega⟩
  have mk := make_ints k (by omega)
  go_enter Try.func5, Try.ntmps5
  go_wp2_with fail
  refine (within_any n 1 20 (by decide) (by decide) (by decide) _).mono ?_
  rintro e w1 ⟨rfl, rfl⟩
  simp only [show (1 : Int) + n % (20 - 1 + 1) = k from by omega]
  clear hk
  go_wp2_with fail
  refine (new_ok k (by omega) w1).mono ?_
  rintro e w2 ⟨rfl, hM, hk2, hs2⟩
  have hM3 := hM.kept ((Kept.refl (fun _ => False) _).alloc (.cells ((List.replicate k (0 : Int)).map (Value.int .i64)).toArray 3)) (by simp) (by simp)
  have HM : Hid _ := hM3
  have HK : Hid _ := hk2.alloc (.cells ((List.replicate k (0 : Int)).map (Value.int .i64)).toArray 3)
  clear hM hM3 hk2
  go_upto_block 0 with fail
  go_cut [8] from 22 to 65 (fun _ wr => ∃ ws : List Int, ws.length = k ∧ MemIn (w1.heap.size + 1) w1.heap.size ws N wr ∧ wr.heap[w1.heap.size + 2]? = some (.cells (ws.map (Value.int .i64)).toArray 3 (0, 0)) ∧ Kept (fun _ => False) w1 wr)
  case first =>
    go_wp2_with fail
    go_loopw [8] (fun i wr => ∃ (j : Nat) (ws : List Int), j ≤ N ∧ i = .int .i64 j ∧ ws.length = k ∧ MemIn (w1.heap.size + 1) w1.heap.size ws j wr ∧ wr.heap[w1.heap.size + 2]? = some (.cells (ws.map (Value.int .i64)).toArray 3 (0, 0)) ∧ Kept (fun _ => False) w1 wr)
      (fun i _ => N - (intOf i).toNat)
    case atStart =>
      refine ⟨0, List.replicate k 0, by omega, rfl, by simp, by simpa using HM.out, ?_, by simpa using HK.out⟩
      simpa using alloc_at' _ hs2
    case round =>
      obtain ⟨j, ws, hj, rfl, hws, hMr, hSr, hKr⟩ := hrel
      clear HM HK mk hs2
      by_cases hjN : j < N
      · have hjl : (j : Int) < (len : Int) := by omega
        have hj50 : (j : Int) < 50 := by omega
        obtain ⟨_, hc1, hc2⟩ := hc j (by omega)
        have hlb : lb < w1.heap.size := World.block_lt_of_cell? w1 _ hc2
        have d1 := hKr.cell hc1 (by simp)
        have d2 := hKr.cell hc2 (by simp)
        obtain rfl := hao (by omega)
        obtain ⟨a, ha, hak⟩ : ∃ a : Nat, 0 + A j % ((k : Int) - 1 - 0 + 1) = a ∧ a < k := ⟨(A j % k).toNat, by rw [show (k : Int) - 1 - 0 + 1 = k by omega]; have := Int.emod_nonneg (A j) (show (k : Int) ≠ 0 by omega); omega, by have := Int.emod_nonneg (A j) (show (k : Int) ≠ 0 by omega); have := Int.emod_lt_of_pos (A j) (show (0 : Int) < k by omega); omega⟩
        have hak' : (a : Int) < (k : Int) := by omega
        have hMd : MemIn (w1.heap.size + 1) w1.heap.size ws j wr.drew := hMr.kept (X := fun _ => False) (Kept.refl _ _).drew (by simp) (by simp)
        have AD := add_ok _ _ _ _ a (V j) (by omega) (by omega) _ hMd
        have r1 := row_at hSr (a := a) (by omega)
        have HS : Hid _ := hSr
        have HKr : Hid _ := hKr
        clear hc hc1 hc2 hao hnil hMr hMd hSr hKr
        go_wp2_with fail
        refine (within_any (A j) 0 (k - 1) (by decide) (by omega) (by omega) _).mono ?_
        rintro e w3 ⟨rfl, rfl⟩
        simp only [ha]
        go_wp2_with fail
        go_region_held3 (fun w' => w'.cell? ⟨lb, off + j * 3 + 2, none⟩ = some (.int .i64 (V j)) ∧ w'.cell? ⟨w1.heap.size + 2, a, none⟩ = some (.int .i64 (wd ws a))) (simp [*])
          (first
            | (go_at_call 9; refine AD.mono ?_; rintro e w4 ⟨rfl, hM4, hk4⟩; have d4 := hk4.cell (p := ⟨lb, off + j * 3 + 2, none⟩) d2 (by simp; omega); have hS4 := hk4.at HS.out (by omega); have r4 := row_at hS4 (a := a) (by omega)))
        have HM4 : Hid _ := hM4
        have HK4 : Hid (Kept (fun _ => False) w1 w4) := Kept.trans HKr.out.drew hk4 (by intro x hx h; omega)
        have HS4 : Hid _ := hS4
        have f4 := free_at hS4 a
        clear hM4 hk4 hS4 AD HS HKr d1 d2 r1
        go_wp2
        go_region
        all_goals (try go_wp2)
        go_roundw
        case rel =>
          have kk : Kept (fun x => x = w1.heap.size + 2) w4 (w4.setCell ⟨w1.heap.size + 2, a, none⟩ (.int .i64 (wrap64 (wd ws a + V j)))).drew := Kept.drew (kept_counted (X := fun x => x = w1.heap.size + 2) (Kept.refl _ _) rfl _ _)
          refine ⟨j + 1, ws.set a (wrap64 (wd ws a + V j)), by omega, by go_num, by simp [hws], ?_, ?_, ?_⟩
          · exact HM4.out.kept kk (by omega) (by omega)
          · exact row_put HS4.out a _
          · exact HK4.out.trans kk (by intro x hx h; omega)
        case measure => simp [intOf]; omega
      · have hjj : j = N := by omega
        subst hjj
        clear hc
        have HM0 : Hid _ := hMr
        have HK0 : Hid _ := hKr
        have HS0 : Hid _ := hSr
        clear hMr hKr hSr
        rcases (show (len ≤ 50 ∧ j = len) ∨ (50 < len ∧ j = 50) by omega) with ⟨hl50, hjl⟩ | ⟨hl50, hjl⟩
        · have t1 : ¬ (j : Int) < (len : Int) := by omega
          have t2 : (len : Int) ≤ 50 := by omega
          clear hjl hNA hNB hl50
          go_wp2
          go_meet
          case rel => exact ⟨ws, hws, HM0.out, HS0.out, HK0.out⟩
        · have t1 : (j : Int) < (len : Int) := by omega
          have t2 : ¬ (j : Int) < 50 := by omega
          clear hjl hNA hNB hl50
          go_wp2
          go_meet
          case rel => exact ⟨ws, hws, HM0.out, HS0.out, HK0.out⟩
  case rest =>
    obtain ⟨ws, hws, hMr, hSr, hKr⟩ := hcut
    clear HM HK mk hs2 hc
    have hr0 : MemIn (w1.heap.size + 1) w1.heap.size (rot ws 0) ((N : Int) + (0 : Nat)) wc := by rw [rot_zero]; simpa using hMr
    have HM0 : Hid _ := hr0
    have HK0 : Hid _ := hKr
    have HS0 : Hid _ := hSr
    have hmin : (if (50 : Int) < (len : Int) then (50 : Int) else len) = N := by split <;> omega
    have HN : Hid _ := hmin
    clear hr0 hMr hKr hSr hNA hNB hmin
    go_wp2
    go_loopw [10, 68] (fun v i wr => ∃ m : Nat, m ≤ k ∧ i = .int .i64 m ∧ v = .int .i64 (prev ws m) ∧ MemIn (w1.heap.size + 1) w1.heap.size (rot ws m) ((N : Int) + m) wr ∧ wr.heap[w1.heap.size + 2]? = some (.cells (ws.map (Value.int .i64)).toArray 3 (0, 0)) ∧ Kept (fun _ => False) w1 wr)
      (fun _ i _ => k - (intOf i).toNat)
    case atStart => exact ⟨0, by omega, rfl, rfl, HM0.out, HS0.out, HK0.out⟩
    case round =>
      obtain ⟨m, hm, rfl, rfl, hMr, hSr, hKr⟩ := hrel
      clear HM0 HK0 HS0
      by_cases hmk : m < k
      · have hmk' : (m : Int) < (k : Int) := by omega
        have SW := swap_ok _ _ _ _ m (prev ws m) (by rw [rot_length]; omega) (by omega) _ hMr
        rw [rot_succ (by omega), wd_rot (by omega), if_neg (Nat.lt_irrefl m)] at SW
        have HS : Hid _ := hSr
        have HKr : Hid _ := hKr
        clear hSr hKr hMr
        go_wp2_with fail
        refine SW.mono ?_
        rintro e w3 ⟨rfl, hM3, hk3⟩
        have hS3 := hk3.at HS.out (by omega)
        have r3 := row_at hS3 (a := m) (by omega)
        have HM3 : Hid _ := hM3
        have HK3 : Hid (Kept (fun _ => False) w1 w3) := Kept.trans HKr.out hk3 (by intro x hx h; omega)
        have HS3 : Hid _ := hS3
        clear hM3 hk3 hS3 SW HS HKr
        go_wp2
        go_roundw
        case rel => exact ⟨m + 1, by omega, by go_num, rfl, by simpa [Int.add_assoc] using HM3.out, HS3.out, HK3.out⟩
        case measure => simp [intOf]; omega
      · have hmm : m = k := by omega
        subst hmm
        clear hm hmk
        have hM0 : MemIn (w1.heap.size + 1) w1.heap.size (rot ws m) ((N : Int) + m + (0 : Nat)) wr := by simpa using hMr
        have HM0 : Hid _ := hM0
        have HK0 : Hid _ := hKr
        have HS0 : Hid _ := hSr
        clear hMr hKr hSr hM0
        go_wp2
        go_loopw [84] (fun i wr => ∃ x : Nat, x ≤ m ∧ i = .int .i64 x ∧ MemIn (w1.heap.size + 1) w1.heap.size (rot ws m) ((N : Int) + m + x) wr ∧ wr.heap[w1.heap.size + 2]? = some (.cells (ws.map (Value.int .i64)).toArray 3 (0, 0)) ∧ Kept (fun _ => False) w1 wr)
          (fun i _ => m - (intOf i).toNat)
        case atStart => exact ⟨0, by omega, rfl, HM0.out, HS0.out, HK0.out⟩
        case round =>
          obtain ⟨x, hx, rfl, hMr, hSr, hKr⟩ := hrel
          clear HM0 HK0 HS0
          by_cases hxm : x < m
          · have hxm' : (x : Int) < (m : Int) := by omega
            have LD := load_ok _ _ _ _ x (by rw [rot_length]; omega) (by omega) _ hMr
            rw [wd_rot (by omega), if_pos hxm] at LD
            have HS : Hid _ := hSr
            have HKr : Hid _ := hKr
            have hpre : 0 < x → wr.cell? ⟨w1.heap.size + 2, x - 1, none⟩ = some (.int .i64 (prev ws x)) := fun h0 => by
              rw [row_at hSr (a := x - 1) (by omega), prev, if_neg (by omega)]
            clear hSr hKr hMr
            by_cases hx0 : x = 0
            · subst hx0
              clear hpre
              rw [show prev ws 0 = 7 from rfl] at LD
              go_wp2_with fail
              refine LD.mono ?_
              rintro e w3 ⟨rfl, hM3, hk3⟩
              have HM3 : Hid _ := hM3
              have HK3 : Hid (Kept (fun _ => False) w1 w3) := Kept.trans HKr.out hk3 (by intro x hx h; omega)
              have HS3 : Hid _ := hk3.at HS.out (by omega)
              clear hM3 hk3 LD HS HKr
              go_wp2
              go_roundw
              case rel => exact ⟨1, by omega, by go_num, by simpa [Int.add_assoc] using HM3.out, HS3.out, HK3.out⟩
              case measure => simp [intOf]; omega
            · have hp := hpre (by omega)
              have hx1 : (0 : Int) < (x : Int) := by omega
              clear hpre
              go_wp2_with fail
              refine LD.mono ?_
              rintro e w3 ⟨rfl, hM3, hk3⟩
              have HM3 : Hid _ := hM3
              have HK3 : Hid (Kept (fun _ => False) w1 w3) := Kept.trans HKr.out hk3 (by intro x hx h; omega)
              have HS3 : Hid _ := hk3.at HS.out (by omega)
              clear hM3 hk3 LD HS HKr
              go_wp2
              go_roundw
              case rel => exact ⟨x + 1, by omega, by go_num, by simpa [Int.add_assoc] using HM3.out, HS3.out, HK3.out⟩
              case measure => simp [intOf]; omega
          · have hxx : x = m := by omega
            subst hxx
            clear hx hxm hSr
            have CT := count_w _ _ _ _ _ (hMr.kept (X := fun _ => False) (Kept.refl _ _).drew (by simp) (by simp))
            have HKr : Hid _ := hKr
            clear hKr hMr
            have hmin := HN.out
            have q3 : (N : Int) ≤ (cap : Int) := by omega
            have q4 : (0 : Int) ≤ (N : Int) := by omega
            have q5 : IntKind.i64.wrap ((N : Int) + 2 * (x : Int)) = (N : Int) + x + x := by
              rw [IntKind.wrap_i64]; omega
            have q6 : IntKind.i64.wrap (2 * (x : Int)) = 2 * (x : Int) := by rw [IntKind.wrap_i64]; omega
            clear HN
            go_wp2
            go_region_held3 (fun _ => True) (trivial)
              (first
                | (go_at_call 14; refine CT.mono ?_; rintro e w5 ⟨rfl, rfl⟩)
                | (go_at_call 3; refine (runs_w _).mono ?_; rintro e w5 ⟨rfl, hk5⟩))
            all_goals
              have HK5 : Hid _ := hk5
              clear hk5 CT
              go_wp2
              go_ret
              exact ⟨rfl, HKr.out.drew.trans HK5.out (fun _ _ h => h)⟩
end Go.Proofs.Ytkejnoifcfeliaa
