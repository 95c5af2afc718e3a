
/- What Write does when it is called; no conditions but a length. -/
import Derived.Test.YtkpcillgoeidaaaRead
import Derived.Test.YtkpcillgoeidaaaAlloc
import Derived.Deep.CutBlock
namespace Go.Proofs.Ytkpcillgoeidaaa
open Go.RowKit
set_option maxRecDepth 100000
set_option linter.unusedSimpArgs false

def cutD (d : ByteArray) (o : Nat) : ByteArray := bs ((bl d).take (128 - o))
def overF (s : ByteArray) (o : Nat) (d : ByteArray) : ByteArray := bs ((bl s).take o ++ bl d ++ (bl s).drop (o + d.size))
def wrOk (f : StF) (g : VwF) (i off : Int) : Bool := isI f g i && decide (0 ≤ off) && decide (off ≤ 128) && decide (off ≤ (findV f g i).s.size)
def withS (x : V) (s : ByteArray) : V := { x with s := s }
def writeA (f : StF) (g : VwF) (i off : Int) (d : ByteArray) : Int := if wrOk f g i off = true then ((cutD d off.toNat).size : Int) else -1
def writeT (f : StF) (g : VwF) (i off : Int) (d : ByteArray) : VwF := if wrOk f g i off = true then vputT (findT g i) (10, i) (withS (findV f g i) (overF (findV f g i).s off.toNat (cutD d off.toNat))) else findT g i

theorem cutD_size (d : ByteArray) (o : Nat) : (cutD d o).size = min (128 - o) d.size := by unfold cutD; rw [bs_size, List.length_take, bl_len]
theorem cutD_ext {d : ByteArray} {o m : Nat} (h : m = min (128 - o) d.size) : d.extract 0 m = cutD d o := by
  unfold cutD
  rw [extract_bs]
  congr 1
  rw [List.drop_zero, Nat.sub_zero, List.take_eq_take_iff, bl_len]
  omega

/-- 'copy(dst, s)' from a text: as much as there is room for. -/
theorem run_copy_part {P : Program} (w : World) (dT sT ty elem : TypeId) (g o dLen dCap : Nat) (s : ByteArray) (cur : Array Value) (t : TypeId)
    (hu : P.underlying dT = some (.slice elem)) (hs : (P.info? elem).map (·.size) = some 1) (hg : w.heap[g]? = some (.cells cur t (0, 0))) (hfit : o + min s.size dLen ≤ cur.size) :
    (Builtin.copy_ #[dT, sT] ty #[.slice (some ⟨g, o, none⟩) dLen dCap, .string s]).run P w =
      .ok (goInt ((min s.size dLen : Nat) : Int)) (w.setRow g (cur.toList.take o ++ Lib.byteCells (s.data.toList.take (min s.size dLen)) ++ cur.toList.drop (o + min s.size dLen)).toArray) := by
  have hlen : (Lib.byteCells (s.data.toList.take (min s.size dLen))).length = min s.size dLen := by
    rw [Lib.byteCells_length, List.length_take, ← Lib.size_eq]; omega
  have hst := run_storeCells_at P g o t (Lib.byteCells (s.data.toList.take (min s.size dLen))) 0 cur w hg (by rw [hlen]; simpa using hfit) (Lib.byteCells_one _)
  have htk : List.take (min s.size dLen) (List.map (fun b : UInt8 => Value.int IntKind.u8 (b.toNat : Int)) s.data.toList) = Lib.byteCells (s.data.toList.take (min s.size dLen)) := by
    rw [← List.map_take]; rfl
  rw [hlen] at hst
  simp only [Nat.add_zero] at hst
  cases hq : P.info? elem with
  | none => simp [hq] at hs
  | some i =>
    simp [Builtin.copy_, run_underlying hu, Builtin.lenOf, Builtin.firstCells, sizeOf, typeInfo, hq]
    rw [htk, hst]
    simp [Result.andThen]

/-- A row of bytes. -/
def RowB (G : Nat) (l : Bs) (w : World) : Prop := ∃ Y t, w.heap[G]? = some (.cells Y t (0, 0)) ∧ Y.toList = Lib.byteCells l

theorem cells_take (l : Bs) (n : Nat) : (Lib.byteCells l).take n = Lib.byteCells (l.take n) := by unfold Lib.byteCells; rw [List.map_take]
theorem cells_drop (l : Bs) (n : Nat) : (Lib.byteCells l).drop n = Lib.byteCells (l.drop n) := by unfold Lib.byteCells; rw [List.map_drop]

theorem copy_in {w : World} {G : Nat} {l : Bs} (h : RowB G l w) (ty : TypeId) (o n c : Nat) (s : ByteArray) (hn : o + s.size ≤ l.length) (hs : s.size ≤ n) :
    ∃ m wY, (Builtin.copy_ #[52, 9] ty #[.slice (some ⟨G, o, none⟩) n c, .string s]).run Try.prog w = .ok m wY ∧ RowB G (l.take o ++ bl s ++ l.drop (o + s.size)) wY ∧ Kept (fun k => k = G) w wY := by
  obtain ⟨Y, t, hg, hY⟩ := h
  have hinfo : (Try.prog.info? 5).map (·.size) = some 1 := by kernel_rfl
  have hYs : Y.size = l.length := by rw [← Array.length_toList, hY, Lib.byteCells_length]
  have hm : min s.size n = s.size := Nat.min_eq_left hs
  refine ⟨_, _, run_copy_part (P := Try.prog) w 52 9 ty 5 G o n c s Y t Try.underlying52 hinfo hg (by omega), ⟨_, t, setRow_heap _ _ _ _ _ _ hg, ?_⟩, ⟨rfl, rfl, rfl, by simp, fun k hk hx => setRow_other _ _ _ _ hx⟩⟩
  have hall : List.take s.size s.data.toList = bl s := List.take_of_length_le (by rw [← Lib.size_eq]; exact Nat.le_refl _)
  rw [List.toList_toArray, hm, hY, cells_take, cells_drop, hall, ← Lib.byteCells_append, ← Lib.byteCells_append]

theorem row_text {G : Nat} {l : Bs} {w : World} (h : RowB G l w) (c : Nat) : (convert 52 9 (.slice (some ⟨G, 0, none⟩) l.length c)).run Try.prog w = .ok (.string (bs l)) w := by
  obtain ⟨Y, t, hg, hY⟩ := h
  refine run_convert_bytes_back (P := Try.prog) w 52 9 5 ⟨G, 0, none⟩ c l Try.underlying52 Try.underlying5 Try.underlying9 (fun j hj => ?_)
  rw [Addr.add_lit, Nat.zero_add]
  refine cell_at hg ?_
  rw [← Array.getElem?_toList, hY]
  simp [Lib.byteCells, hj]

theorem make_bytes (L : Nat) (hL : L ≤ 1000000) (w : World) : ∃ w', (Instr.makeSlice 52 (.int .i64 (L : Int)) (.int .i64 (L : Int))).run Try.prog w = .ok (.slice (some ⟨w.heap.size, 0, none⟩) L L) w' ∧ RowB w.heap.size (List.replicate L 0) w' ∧ Kept (fun _ => False) w w' := by
  obtain ⟨i0, hi, hz0, hz1, hz2⟩ := info_parts info_byte
  have h := run_make (P := Try.prog) w 52 5 i0 (.int .u8 0) Try.underlying52 hi hz0 .i64 .i64 (L : Int) (L : Int) (by omega) (by omega) (by rw [hz2]; omega) (by omega)
  refine ⟨_, by simpa using h, ⟨_, _, alloc_at _ _, ?_⟩, (Kept.refl _ _).alloc _⟩
  rw [hz1]
  simp [madeCells, Lib.byteCells, Value.cells, Nat.mod_one, Array.toList_range]
  rw [List.eq_replicate_iff]
  simp

theorem over_row {s d : ByteArray} {o L : Nat} (ho : o ≤ s.size) (hL : L = max s.size (o + d.size)) :
    ((List.replicate L (0 : UInt8)).take 0 ++ bl s ++ (List.replicate L 0).drop (0 + s.size)).length = L ∧
    (((List.replicate L (0 : UInt8)).take 0 ++ bl s ++ (List.replicate L 0).drop (0 + s.size)).take o ++ bl d ++ ((List.replicate L 0).take 0 ++ bl s ++ (List.replicate L 0).drop (0 + s.size)).drop (o + d.size)) = bl (overF s o d) ∧ (bl (overF s o d)).length = L := by
  have e1 : (bl s).length = s.size := bl_len s
  have e2 : (bl d).length = d.size := bl_len d
  have hl : ((List.replicate L (0 : UInt8)).take 0 ++ bl s ++ (List.replicate L 0).drop (0 + s.size)).length = L := by simp; omega
  have h2 : ((List.replicate L (0 : UInt8)).take 0 ++ bl s ++ (List.replicate L 0).drop (0 + s.size)).take o = (bl s).take o := by
    simp only [List.take_zero, List.nil_append]
    exact List.take_append_of_le_length (by omega)
  have h3 : ((List.replicate L (0 : UInt8)).take 0 ++ bl s ++ (List.replicate L 0).drop (0 + s.size)).drop (o + d.size) = (bl s).drop (o + d.size) := by
    simp only [List.take_zero, List.nil_append, List.drop_replicate, List.drop_append, e1]
    have : (List.replicate (L - (0 + s.size)) (0 : UInt8)).drop (o + d.size - s.size) = [] := List.drop_eq_nil_of_le (by simp; omega)
    rw [List.drop_replicate] at this
    rw [this, List.append_nil]
  refine ⟨hl, by rw [h2, h3]; rfl, ?_⟩
  unfold overF
  rw [bl_bs]
  simp [e1, e2]
  omega

set_option maxHeartbeats 2000000 in
theorem write_w (q N p B : Nat) (f : StF) (g : VwF) (i off : Int) (d : ByteArray) (w : World) (h : ViewIn q N p g w) (hs : StoreIn p B f w) (hNB : N ≠ B) (hsz : (findV f g i).s.size ≤ 100000) : Calls Try.prog 70 #[.pointer (some ⟨q, 0, none⟩), .int .i64 i, .int .i64 off, .string d] w
    fun e w' => e = .returned (.int .i64 (writeA f g i off d)) ∧ ViewIn q N p (writeT f g i off d) w' ∧ Kept (fun n => n = N) w w' := by
  have hN : N < w.heap.size := h.map.lt
  have hq : q < w.heap.size := lt_at h.cell
  go_enter Try.func70, Try.ntmps70
  go_wp2_with fail
  refine (find_w q N p B f g i w h hs hNB).mono ?_
  rintro e w1 ⟨rfl, hv1, hk1⟩
  obtain ⟨F, hF⟩ : ∃ F : Nat, w1.heap.size = F := ⟨_, rfl⟩
  have lF : w.heap.size ≤ F := by have := hk1.size; omega
  obtain ⟨x, hx⟩ : ∃ x, findV f g i = x := ⟨_, rfl⟩
  obtain ⟨ib, hib⟩ : ∃ ib, isI f g i = ib := ⟨_, rfl⟩
  obtain ⟨ok, hok⟩ : ∃ ok, wrOk f g i off = ok := ⟨_, rfl⟩
  have HA : Hid (writeA f g i off d = if ok = true then ((cutD d off.toNat).size : Int) else -1) := by show _ = _; unfold writeA; rw [hok]
  have HT : Hid (writeT f g i off d = if ok = true then vputT (findT g i) (10, i) (withS x (overF x.s off.toNat (cutD d off.toNat))) else findT g i) := by show _ = _; unfold writeT; rw [hok, hx]
  unfold wrOk at hok
  rw [hx] at hsz hok ⊢
  rw [hib] at hok ⊢
  clear hx hib h hs
  obtain ⟨w2, h2⟩ : ∃ w2, w1.alloc (.cells (vc x).toArray 64) = w2 := ⟨_, rfl⟩
  have hb2 : w2.heap[F]? = some (.cells (vc x).toArray 64 (0, 0)) := by subst h2; exact alloc_at' _ hF
  have k12 : Kept (fun _ => False) w1 w2 := by subst h2; exact (Kept.refl _ _).alloc _
  have c16 : w2.cell? ⟨F, 16, none⟩ = some (.string x.s) := cell_at hb2 rfl
  have hv2 : ViewIn q N p (findT g i) w2 := hv1.still k12
  have k2 : Kept (fun n => n = N) w w2 := hk1.trans k12 (fun _ _ e => e.elim)
  clear hv1 hk1 k12
  by_cases hno : ok = false
  · subst hno
    have HZ : Hid (writeA f g i off d = -1 ∧ ViewIn q N p (writeT f g i off d) w2 ∧ Kept (fun n => n = N) w w2) := ⟨by rw [HA.out]; rfl, by rw [HT.out, if_neg (by simp)]; exact hv2, k2⟩
    clear HA HT hv2 k2
    cases ib with
    | false =>
      clear hok
      go_wp2_with (first | (refine list_wnew rfl wide_V _ _ rfl F rfl (vc x) rfl _ rfl hF rfl (vc_one _) ?_))
      go_ret
      exact ⟨by rw [HZ.out.1]; rfl, HZ.out.2⟩
    | true =>
      by_cases b1 : off < 0
      · clear hok
        go_wp2_with (first | (refine list_wnew rfl wide_V _ _ rfl F rfl (vc x) rfl _ rfl hF rfl (vc_one _) ?_))
        go_ret
        exact ⟨by rw [HZ.out.1]; rfl, HZ.out.2⟩
      · by_cases b2 : 128 < off
        · clear hok
          go_wp2_with (first | (refine list_wnew rfl wide_V _ _ rfl F rfl (vc x) rfl _ rfl hF rfl (vc_one _) ?_))
          go_ret
          exact ⟨by rw [HZ.out.1]; rfl, HZ.out.2⟩
        · have b3 : (x.s.size : Int) < off := by simp at hok; omega
          clear hok
          go_wp2_with (first | (refine list_wnew rfl wide_V _ _ rfl F rfl (vc x) rfl _ rfl hF rfl (vc_one _) ?_))
          go_ret
          exact ⟨by rw [HZ.out.1]; rfl, HZ.out.2⟩
  · obtain rfl : ok = true := by simpa using hno
    clear hno
    simp only [Bool.and_eq_true, decide_eq_true_eq] at hok
    obtain ⟨⟨⟨rfl, b1⟩, b2⟩, b3⟩ := hok
    obtain ⟨o, rfl⟩ : ∃ o : Nat, off = o := ⟨off.toNat, by omega⟩
    obtain ⟨t, ht⟩ : ∃ t, cutD d o = t := ⟨_, rfl⟩
    have hts : t.size = min (128 - o) d.size := by rw [← ht, cutD_size]
    have hext : ∀ m : Nat, m = min (128 - o) d.size → d.extract 0 m = t := fun m hm => by rw [cutD_ext hm, ht]
    have HA2 : Hid (writeA f g i o d = t.size) := by show _ = _; rw [HA.out, if_pos rfl, Int.toNat_natCast, ht]
    have HT2 : Hid (writeT f g i o d = vputT (findT g i) (10, i) (withS x (overF x.s o t))) := by show _ = _; rw [HT.out, if_pos rfl, Int.toNat_natCast, ht]
    clear HA HT ht
    have hts2 : t.size ≤ 128 := by omega
    have HX : Hid (∀ m : Nat, m = min (128 - o) d.size → d.extract 0 m = t) := hext
    have HTS : Hid (t.size = min (128 - o) d.size) := hts
    clear hext hts
    go_upto_region 4 with (first | (refine list_wnew rfl wide_V _ _ rfl F rfl (vc x) rfl _ rfl hF rfl (vc_one _) ?_))
    try rw [h2]
    go_cut [3] from 18 to 41 (fun v wx => v = .string t ∧ wx = w2)
    case first =>
      by_cases hm : (128 : Int) - o < d.size
      · have e1 := HX.out (128 - o) (by omega)
        have e2 : ((128 : Int) - (o : Int)).toNat = 128 - o := by omega
        go_wp2
        go_meet
        case rel => exact ⟨rfl, rfl⟩
      · have e1 := HX.out d.size (by omega)
        go_wp2
        go_meet
        case rel => exact ⟨rfl, rfl⟩
    case rest =>
      obtain ⟨rfl, hwc⟩ := hcut
      subst hwc
      clear h2 HX HTS b1
      obtain ⟨L, hL⟩ : ∃ L : Nat, L = max x.s.size (o + t.size) := ⟨_, rfl⟩
      obtain ⟨G, hG⟩ : ∃ G : Nat, wc.heap.size = G := ⟨_, rfl⟩
      have lG : F < G := by have := lt_at hb2; omega
      obtain ⟨w3, hmk, hr3, k3⟩ := make_bytes L (by omega) wc
      rw [hG] at hmk hr3
      obtain ⟨hl1, hl2, hl3⟩ := over_row (s := x.s) (d := t) (o := o) (L := L) (by omega) hL
      have hb3 := k3.at hb2 (fun x => x)
      have c163 : w3.cell? ⟨F, 16, none⟩ = some (.string x.s) := cell_at hb3 rfl
      obtain ⟨m4, w4, hc4, hr4, k4⟩ := copy_in hr3 3 0 L L x.s (by rw [List.length_replicate]; omega) (by omega)
      generalize (List.replicate L (0 : UInt8)).take 0 ++ bl x.s ++ (List.replicate L 0).drop (0 + x.s.size) = l1 at *
      have HO : Hid (l1.length = L ∧ l1.take o ++ bl t ++ l1.drop (o + t.size) = bl (overF x.s o t) ∧ (bl (overF x.s o t)).length = L ∧ RowB G l1 w4) := ⟨hl1, hl2, hl3, hr4⟩
      have hv4 : ViewIn q N p (findT g i) w4 := (hv2.still k3).kept k4 (by omega) (by omega)
      have hK4 : Kept (fun n => n = N) w w4 := (k2.trans k3 (fun _ _ e => e.elim)).trans k4 (fun k h1 h2 => by omega)
      have hb4 := k4.at hb3 (show ¬ F = G by omega)
      have hLL : Hid (L = max x.s.size (o + t.size)) := hL
      clear hl1 hl2 hl3 hr3 hr4 k3 k4 hb2 hb3 hv2 k2
      go_upto_region 5 with fail
      go_cut [11] from 42 to 50 (fun v wx => v = .slice (some ⟨G, 0, none⟩) L L ∧ wx = w3)
      case first =>
        by_cases hmx : (x.s.size : Int) < (o : Int) + t.size
        · obtain rfl : L = o + t.size := by omega
          simp only [Int.natCast_add] at hmk
          clear hL
          go_wp2
          go_meet
          case rel => exact ⟨rfl, rfl⟩
        · obtain rfl : L = x.s.size := by omega
          clear hL
          go_wp2
          go_meet
          case rel => exact ⟨rfl, rfl⟩
      case rest =>
        obtain ⟨rfl, hwc⟩ := hcut
        subst hwc
        clear hL c16 hmk
        have hoL : o ≤ L := by have := hLL.out; omega
        have t1 : (o : Int) ≤ L := by omega
        go_upto_region 7 with fail
        go_cut [11] from 42 to 59 (fun v wx => v = .slice (some ⟨G, 0, none⟩) L L ∧ Hid (RowB G (bl (overF x.s o t)) wx ∧ Kept (fun k => k = G) w4 wx))
        case first =>
          by_cases hLo : L = o
          · have ht0 : t.size = 0 := by have := hLL.out; omega
            obtain ⟨m7, w7, hc7, hr7, k7⟩ := copy_in HO.out.2.2.2 3 0 0 0 t (by omega) (by omega)
            have HR : Hid (RowB G (bl (overF x.s o t)) w7 ∧ Kept (fun k => k = G) w4 w7) := by
              refine ⟨?_, k7⟩
              have e2 : bl t = [] := List.eq_nil_of_length_eq_zero (by rw [bl_len]; exact ht0)
              have e3 : bl (overF x.s o t) = List.take 0 l1 ++ bl t ++ List.drop (0 + t.size) l1 := by
                rw [← HO.out.2.1, e2, ht0]; simp
              rw [e3]; exact hr7
            subst hLo
            clear ht0 hr7 k7 HO hLL hc4 t1
            go_wp2
            go_meet
            case rel => exact ⟨rfl, HR.out⟩
          · obtain ⟨m7, w7, hc7, hr7, k7⟩ := copy_in HO.out.2.2.2 3 o (L - o) (L - o) t (by have := HO.out.1; have := hLL.out; omega) (by have := hLL.out; omega)
            have HR : Hid (RowB G (bl (overF x.s o t)) w7 ∧ Kept (fun k => k = G) w4 w7) := by
              refine ⟨?_, k7⟩
              rw [← HO.out.2.1]; exact hr7
            have hLo2 : ¬ L - o = 0 := by omega
            clear hr7 k7 HO hLL hc4
            go_wp2
            go_meet
            case rel => exact ⟨rfl, HR.out⟩
        case rest =>
          obtain ⟨rfl, HC⟩ := hcut
          obtain ⟨y, hy⟩ : ∃ y, overF x.s o t = y := ⟨_, rfl⟩
          rw [hy] at HC HT2
          have hyl : (bl y).length = L := by rw [← hy]; exact HO.out.2.2.1
          have hcv := row_text HC.out.1 L
          rw [bs_bl, hyl] at hcv
          have hbF := HC.out.2.at hb4 (show ¬ F = G by omega)
          have hvc : ViewIn q N p (findT g i) wc := hv4.kept HC.out.2 (by omega) (by omega)
          have hKc : Kept (fun n => n = N) w wc := hK4.trans HC.out.2 (fun k h1 h2 => by omega)
          have e16 : wc.cell? ⟨F, 16, none⟩ = some (.string x.s) := cell_at hbF rfl
          have f16 := free_at hbF 16
          have hb8 : (wc.setCell ⟨F, 16, none⟩ (.string y)).heap[F]? = some (.cells (vc (withS x y)).toArray 64 (0, 0)) := by rw [set_at hbF]; rfl
          have k8 : Kept (fun n => n = F) wc (wc.setCell ⟨F, 16, none⟩ (.string y)) := by refine Kept.setCell (Kept.refl _ _) ?_ _; intro _; rfl
          have hv8 := hvc.kept k8 (by omega) (by omega)
          have hK8 : Kept (fun n => n = N) w (wc.setCell ⟨F, 16, none⟩ (.string y)) := hKc.trans k8 (fun k h1 h2 => by omega)
          clear hy hyl HC hb4 hv4 hK4 hbF hvc hKc k8 HO hLL hc4 c163 t1
          go_wp2_with fail
          clear hcv e16 f16
          generalize wc.setCell ⟨F, 16, none⟩ (.string y) = w8 at *
          have KS : ∀ w', Kept (fun n => n = N) w8 w' → True := fun _ _ => trivial
          have KV : ∀ w', Kept (fun n => n = N) w8 w' → w'.rangeAt F 0 (vc (withS x y)) := fun w' hk' => range_kept (whole_range hb8) hk' (by omega)
          refine wp_region_held_drew (S := fun w' => Kept (fun n => n = N) w8 w') (by kernel_rfl) ((Kept.refl _ _).drew) (fun hHeld => ?_)
          refine h_take 0 (some 63) (Op.move (Operand.tmp 0)) 27 ?v1 rfl rfl (by kernel_rfl) (by kernel_rfl) (by kernel_rfl) (fun _ _ _ h => h) ?hy1 hHeld ?_
          case hy1 => (intro _ _ _ w hSw; have hcs := KS _ hSw; go_simp; try with_reducible rfl)
          simp only [Act.put, List.setIfInBounds_toArray, List.set_cons_zero, List.set_cons_succ]
          refine h_take 1 (some 64) (Op.move (Operand.tmp 1)) 3 ?v2 rfl rfl (by kernel_rfl) (by kernel_rfl) (by kernel_rfl) (fun _ _ _ h => h) ?hy2 hHeld ?_
          case hy2 => (intro _ _ _ w hSw; have hcs := KS _ hSw; go_simp; try with_reducible rfl)
          simp only [Act.put, List.setIfInBounds_toArray, List.set_cons_zero, List.set_cons_succ]
          refine h_take 3 (some 66) (Op.load 64 (Operand.tmp 9)) 64 (vv (withS x y)) rfl rfl (by kernel_rfl) (by kernel_rfl) (by kernel_rfl) (fun _ _ _ h => h) (fun _ _ _ w hSw => exec_load rfl (load_wide wide_V (KV w hSw) rfl)) hHeld ?_
          simp only [Act.put, List.setIfInBounds_toArray, List.set_cons_zero, List.set_cons_succ]
          refine h_step 2 (some 65) (Op.call { callee := Callee.value (Operand.func 38), args := #[Operand.tmp 64], argTypes := #[3] }) 61 rfl rfl (by kernel_rfl) (fun _ _ _ K hK => ?_)
          go_simp
          refine (object_w i _).mono ?_
          rintro e w5 ⟨rfl, hk5⟩
          replace hk5 : Kept (fun _ => False) w8 w5 := (Kept.refl _ w8).drew.thru hk5
          go_wp2_with fail
          refine hK.out _ _ (hk5.mono (fun _ _ e => e.elim)) (fun hHeld => ?_)
          clear hK K
          try simp only [Act.put, List.setIfInBounds_toArray, List.set_cons_zero, List.set_cons_succ]
          refine h_step 4 (some 67) (Op.call { callee := Callee.value (Operand.func 37), args := #[Operand.tmp 63, Operand.tmp 65, Operand.tmp 66], argTypes := #[27, 61, 64] }) 0 rfl rfl (by kernel_rfl) (fun _ _ _ K hK => ?_)
          go_simp
          refine (vput_w q N p (findT g i) 10 i (withS x y) w5 (hv8.still hk5)).mono ?_
          rintro e wz ⟨rfl, hvz, hkz⟩
          replace hkz : Kept (fun n => n = N) w8 wz := (hk5.mono (fun _ _ e => e.elim)).trans hkz (fun _ _ e => e)
          go_wp2_with fail
          refine hK.out _ _ (hkz) (fun hHeld => ?_)
          clear hK K
          try simp only [Act.put, List.setIfInBounds_toArray, List.set_cons_zero, List.set_cons_succ]
          refine wpAnyH_done (by kernel_rfl) ?_ _
          have hKz : Kept (fun n => n = N) w wz := hK8.trans hkz (fun _ _ e => e)
          have HZ : Hid (ViewIn q N p (writeT f g i o d) wz) := by show ViewIn _ _ _ _ _; rw [HT2.out]; exact hvz
          clear hHeld KS KV hk5 hv8 hK8 hkz hvz hb8 HT2
          go_wp2_with fail
          go_ret
          exact ⟨by rw [HA2.out]; rfl, HZ.out, hKz⟩
end Go.Proofs.Ytkpcillgoeidaaa
