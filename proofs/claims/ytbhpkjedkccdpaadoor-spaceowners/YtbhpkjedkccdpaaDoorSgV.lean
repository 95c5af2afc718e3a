
/- A page is one's: free, on its way, or just one process's; memory has as many bytes as pages; what is new is noughts; whatever code does what space does. -/
import Derived.Test.YtbhpkjedkccdpaaDoorSgP
import Derived.Test.YtbhpkjedkccdpaaDoorSgO
import Derived.Deep.CutBlock
namespace Go.Proofs.YtbhpkjedkccdpaaDoor
open Go.RowKit
set_option maxRecDepth 100000
set_option linter.unusedSimpArgs false

abbrev toI (l : List Nat) : List Int := l.map (fun j : Nat => (j : Int))
theorem SrcI.cut {b o c : Nat} {l : List Int} {w : World} (h : SrcI (.slice (some ⟨b, o, none⟩) l.length c) l w) (k n : Nat) (hk : k + n ≤ l.length) (a2 : Option Addr) (c2 : Nat) (ha : a2 = some ⟨b, o + k, none⟩ ∨ n = 0 ∧ a2 = some ⟨b, o, none⟩) : SrcI (.slice a2 n c2) ((l.drop k).take n) w := by
  have hn : ((l.drop k).take n).length = n := by rw [List.length_take, List.length_drop]; omega
  rcases h with ⟨b', o', c', e, hb, hc⟩ | ⟨e, _⟩
  · cases e
    rcases ha with rfl | ⟨rfl, rfl⟩
    · refine .inl ⟨b, o + k, c2, by rw [hn], hb, fun j u hu => ?_⟩
      have hj : j < n := by rw [← hn]; exact (List.getElem?_eq_some_iff.1 hu).1
      rw [List.getElem?_take, if_pos hj, List.getElem?_drop] at hu
      have := hc (k + j) u hu
      rw [← Nat.add_assoc] at this
      exact this
    · exact .inl ⟨b, o, c2, by rw [hn], hb, fun j u hu => by simp at hu⟩
  · cases e
theorem sh_list {F : Int} {f : StF} {P : Nat → List Nat} {W : List Nat} {g : VwF} (V : SpV f F P W g) {p n : Nat} (hp : p < 2) (hn : n ≤ (P p).length) : shL f g (p : Int) (n : Int) = toI ((P p).drop ((P p).length - n)) := by
  unfold shL
  rw [V.shrinks hp, decide_eq_true hn, if_pos rfl, (V.gone hp n).1]
theorem sh_none2 {f : StF} {g : VwF} {i n : Int} (h : shOk f g i n = false) : shL f g i n = [] := by
  unfold shL
  rw [h]
  rfl
/-- Old places. -/
def LowS (F T p B q N : Nat) (w0 : World) : Prop := T < F ∧ p < F ∧ B < F ∧ q < F ∧ N < F ∧ w0.heap.size ≤ F
/-- What the statement has between two calls. -/
def OwnS (F : Int) (w0 wL : World) (T p B q N : Nat) (u : Value) (P : Nat → List Nat) (W : List Nat) (g : VwF) (w : World) : Prop :=
  SideG (fP F) w0 T p B q N g w ∧ SpV (fP F) F P W g ∧ OwnX (fun b => b = N) wL u (toI W) w ∧ LowS wL.heap.size T p B q N w0

/-- What the first processes have. -/
def preP (P : Nat → List Nat) : Nat → List Int
  | 0 => []
  | j + 1 => preP P j ++ toI (P j)
theorem preP_len {P : Nat → List Nat} (h : ∀ p, p < 2 → (P p).length ≤ 6) : ∀ j, j ≤ 2 → (preP P j).length ≤ 6 * j
  | 0, _ => Nat.zero_le _
  | j + 1, hj => by
    have h1 := preP_len h j (by omega)
    have h2 := h j (by omega)
    show (preP P j ++ toI (P j)).length ≤ _
    rw [List.length_append, List.length_map]
    omega
theorem bit_mod (n : Int) (k : Nat) : n / 2 ^ k % 2 = ((hbN n k).toNat : Int) := by
  unfold hbN hasB
  rw [Int.toNat_natCast]
  rcases Int.emod_two_eq (n / 2 ^ k) with h | h <;> rw [h] <;> rfl
theorem OcN.le {o : Int → Option Int} {l : List Int} (h : OcN o l) (k : Int) : 0 ≤ (o k).getD 0 ∧ (o k).getD 0 ≤ (l.length : Int) := by
  have := h k
  have := List.count_le_length (a := k) (l := l)
  omega
/-- The statement's own count of one page. -/
theorem own_count {f : StF} {F : Int} {P : Nat → List Nat} {W : List Nat} {g : VwF} (V : SpV f F P W g) {o : Int → Option Int} {l : List Nat} {k : Nat} (ho : OcN o (preP P 2 ++ toI W ++ toI l)) (hl : ∀ y ∈ l, y < k) (hk : k < 64) :
    (o (k : Int)).getD 0 + ((hbN (poV f g).n0 k).toNat : Int) = ((hbN F k).toNat : Int) := by
  have h1 := ho (k : Int)
  have h2 := V.one hk
  have e : preP P 2 = toI (P 0) ++ toI (P 1) := rfl
  have h0 : l.count k = 0 := List.count_eq_zero.2 (fun h => by have := hl k h; omega)
  rw [e, List.count_append, List.count_append, List.count_append, count_cast, count_cast, count_cast, count_cast, h0] at h1
  omega
/-- What the count goes over. -/
structure CntS (F : Int) (w0 wL : World) (T p B q N PB OB : Nat) (u : Value) (P : Nat → List Nat) (W : List Nat) (x : V) (o : Int → Option Int) (g : VwF) (w : World) : Prop where
  side : SideG (fP F) w0 T p B q N g w
  v : SpV (fP F) F P W g
  own : OwnX (fun b => b = N) wL u (toI W) w
  pb : w.heap[PB]? = some (.cells (vc x).toArray 51 (0, 0))
  m : MapIn iv iw OB o w
  low : LowS wL.heap.size T p B q N w0
  pl : PB < OB ∧ wL.heap.size ≤ PB
  ub : ∀ k, u.ownBlock = some k → k < PB
  px : poV (fP F) g = x
section
variable {F : Int} {w0 wL w w' : World} {T p B q N PB OB : Nat} {u : Value} {P : Nat → List Nat} {W : List Nat} {x : V} {o o' : Int → Option Int} {g g' : VwF}
theorem CntS.still (h : CntS F w0 wL T p B q N PB OB u P W x o g w) (hk : Kept (fun _ => False) w w') : CntS F w0 wL T p B q N PB OB u P W x o g w' :=
  { h with side := h.side.still hk, own := h.own.still (hk.mono (Y := fun b => b = N) (fun _ _ e => e.elim)) (fun b e => by have := h.low.2.2.2.2.1; omega), pb := hk.at h.pb (fun e => e), m := h.m.still hk }
theorem CntS.look (h : CntS F w0 wL T p B q N PB OB u P W x o g w) (hs : SideG (fP F) w0 T p B q N g' w') (hg : ∀ j, vgetF (fP F) g' j = vgetF (fP F) g j) (hk : Kept (fun b => b = N) w w') : CntS F w0 wL T p B q N PB OB u P W x o g' w' := by
  have hN := h.low.2.2.2.2.1
  have hp := h.pl
  exact { h with
    side := hs
    v := h.v.same hg
    own := h.own.still hk (fun b e => by omega)
    pb := hk.at h.pb (fun e => by omega)
    m := h.m.kept hk (fun e => by omega)
    px := by rw [← h.px]; exact hg (2, 0) }
theorem CntS.put (h : CntS F w0 wL T p B q N PB OB u P W x o g w) (hm : MapIn iv iw OB o' w') (hk : Kept (fun b => b = OB) w w') : CntS F w0 wL T p B q N PB OB u P W x o' g w' := by
  have hp := h.pl
  exact { h with
    side := h.side.young hk (fun k e => by subst e; omega) h.low
    own := ⟨h.own.kept.trans hk (fun k h1 h2 => by omega), own_kept h.own.own hk (fun k e x => by have := h.ub k e; omega)⟩
    pb := hk.at h.pb (fun e => by omega)
    m := hm }
/-- One more is counted. -/
theorem CntS.add (h : CntS F w0 wL T p B q N PB OB u P W x o g w) {l : List Int} (hc : OcN o l) (n : Int) : ∃ w', (Instr.mapUpdate 55 (.map (some OB)) (.int .i64 n) (.int .i64 ((o n).getD 0 + 1))).run Tryd.prog w = .ok () w' ∧
    CntS F w0 wL T p B q N PB OB u P W x (upd o n ((o n).getD 0 + 1)) g w' ∧ OcN (upd o n ((o n).getD 0 + 1)) (l ++ [n]) ∧ Kept (fun b => b = OB) w w' := by
  obtain ⟨w', h1, h2, h3⟩ := store_o h.m n ((o n).getD 0 + 1)
  exact ⟨w', h1, h.put h2 h3, hc.add n, h3⟩
end

set_option maxHeartbeats 4000000 in
theorem owners_of (S : SpaceDoes) (a0 : Int) (ao : Option Addr) (len cap lb off : Nat) (A : Nat → QB) (hao : 0 < len → ao = some ⟨lb, off, none⟩) (w : World) (hc : ∀ i, i < len → QBt w lb (off + i * 3) (A i)) (ht : TabIn w) :
    Calls Tryd.prog 5 #[.int .i64 a0, .slice ao len cap] w fun e w' => e = .returned (.bool true) ∧ Kept (fun _ => False) w w' := by
  have HT : Hid (TabIn w) := ht
  clear ht
  have HC : Hid (∀ i, i < len → QBt w lb (off + i * 3) (A i)) := hc
  clear hc
  go_enter Tryd.func5, Tryd.ntmps5
  go_wp2_with fail
  refine (pool_w a0 w HT.out).mono ?_
  rintro e wL ⟨T, p, B, q, N, rfl, h1⟩
  have c1 := h1.t
  have H0 : Hid (∃ P W g, OwnS a0 w wL T p B q N (.slice none 0 0) P W g wL ∧ W.length ≤ 6 * 0) := ⟨_, [], _, ⟨h1, pool_v a0, OwnX.nil wL, h1.lows⟩, Nat.le_refl _⟩
  clear h1
  go_wp2_with fail
  clear c1
  go_loopw [7, 8] (fun u v wr => ∃ r : Nat, v = .int .i64 r ∧ r ≤ len ∧ r ≤ 30 ∧ Hid (∃ P W g, OwnS a0 w wL T p B q N u P W g wr ∧ W.length ≤ 6 * r)) (fun _ v _ => 30 - (intOf v).toNat)
  case atStart => exact ⟨0, rfl, by omega, by omega, H0.out⟩
  case round =>
    clear H0
    obtain ⟨r, rfl, hr1, hr2, HH⟩ := hrel
    obtain ⟨z, hz⟩ : ∃ z : Bool, decide ((r : Int) < (len : Int) ∧ (r : Int) < 30) = z := ⟨_, rfl⟩
    go_upto_region 7 with fail
    go_cut [41] from 34 to 41 (fun v wx => v = .bool z ∧ wx = wr)
    case first =>
      as_aux_lemma =>
      by_cases p1 : (r : Int) < (len : Int)
      · by_cases p2 : (r : Int) < 30
        · have hz' : z = true := by rw [← hz]; simp [p1, p2]
          subst hz'
          clear hz
          go_wp2
          go_meet
          case rel => exact ⟨rfl, rfl⟩
        · have hz' : z = false := by rw [← hz]; simp [p1, p2]
          subst hz'
          clear hz
          go_wp2
          go_meet
          case rel => exact ⟨rfl, rfl⟩
      · have hz' : z = false := by rw [← hz]; simp [p1]
        subst hz'
        clear hz
        go_wp2
        go_meet
        case rel => exact ⟨rfl, rfl⟩
    case rest =>
      obtain ⟨rfl, hwc⟩ := hcut
      subst hwc
      cases z with
      | true =>
        as_aux_lemma =>
        simp only [decide_eq_true_eq] at hz
        obtain ⟨t1, t2⟩ := hz
        have hl1 : r < len := by omega
        have h0 := hao (by omega)
        subst h0
        obtain ⟨P, W, g, hS, hWr⟩ := HH.out
        obtain ⟨e0, e1, e2, -⟩ := (HC.out r hl1).still hS.1.kept
        have e00 := (HC.out r hl1).1
        have HS : Hid (OwnS a0 w wL T p B q N u7 P W g wc ∧ W.length ≤ 6 * r) := ⟨hS, hWr⟩
        clear HH hS hWr hao
        generalize A r = y at *
        obtain ⟨p1, hp1, hp2⟩ : ∃ p1 : Nat, (p1 : Int) = 0 + y.p % (1 - 0 + 1) ∧ p1 < 2 := ⟨(0 + y.p % (1 - 0 + 1)).toNat, by omega, by omega⟩
        obtain ⟨n1, hn1, hn2⟩ : ∃ n1 : Nat, (n1 : Int) = 0 + y.n % (4 - 0 + 1) ∧ n1 ≤ 4 := ⟨(0 + y.n % (4 - 0 + 1)).toNat, by omega, by omega⟩
        have q1 := fun w => within_any y.p 0 1 (by omega) (by omega) (by omega) w
        have q2 := fun w => within_any y.n 0 4 (by omega) (by omega) (by omega) w
        rw [← hp1] at q1
        rw [← hn1] at q2
        clear hp1 hn1
        go_upto_region 9 with fail
        go_cut [9, 10] from 44 to 55 (fun a b wx => a = .int .i64 p1 ∧ b = .int .i64 n1 ∧ Kept (fun _ => False) wc wx)
        case first =>
          as_aux_lemma =>
          have KS : ∀ w', Kept (fun _ => False) wc w' → (w'.cell? ⟨lb, off + r * 3 + 1, none⟩ = some (.int .i64 y.p) ∧ w'.cell? ⟨lb, off + r * 3 + 2, none⟩ = some (.int .i64 y.n)) := fun w' hk' => ⟨hk'.cell e1 (fun x => x), hk'.cell e2 (fun x => x)⟩
          clear HS e0 e1 e2 HC
          refine wp_region_held_drew (S := fun w' => Kept (fun _ => False) wc w') (by kernel_rfl) ((Kept.refl _ _).drew) (fun hHeld => ?_)
          refine h_take 0 (some 44) (Op.move (Operand.tmp 1)) 40 ?v1 rfl rfl (by kernel_rfl) (by kernel_rfl) (by kernel_rfl) (fun _ _ _ h => h) ?hy1 hHeld ?_
          case hy1 => (intro _ _ _ w hSw; have hcs := KS _ hSw; go_simp; try with_reducible rfl)
          simp only [Act.put, List.setIfInBounds_toArray, List.set_cons_zero, List.set_cons_succ]
          refine h_take 1 (some 45) (Op.move (Operand.tmp 8)) 3 ?v2 rfl rfl (by kernel_rfl) (by kernel_rfl) (by kernel_rfl) (fun _ _ _ h => h) ?hy2 hHeld ?_
          case hy2 => (intro _ _ _ w hSw; have hcs := KS _ hSw; go_simp; try with_reducible rfl)
          simp only [Act.put, List.setIfInBounds_toArray, List.set_cons_zero, List.set_cons_succ]
          refine h_take 2 (some 46) (Op.indexAddr 40 (Operand.tmp 44) (Operand.tmp 45)) 0 ?v3 rfl rfl (by kernel_rfl) (by kernel_rfl) (by kernel_rfl) (fun _ _ _ h => h) ?hy3 hHeld ?_
          case hy3 => (intro _ _ _ w hSw; have hcs := KS _ hSw; go_simp; try with_reducible rfl)
          simp only [Act.put, List.setIfInBounds_toArray, List.set_cons_zero, List.set_cons_succ]
          refine h_take 3 (some 47) (Op.fieldAddr 43 (Operand.tmp 46) 1) 0 ?v4 rfl rfl (by kernel_rfl) (by kernel_rfl) (by kernel_rfl) (fun _ _ _ h => h) ?hy4 hHeld ?_
          case hy4 => (intro _ _ _ w hSw; have hcs := KS _ hSw; go_simp; try with_reducible rfl)
          simp only [Act.put, List.setIfInBounds_toArray, List.set_cons_zero, List.set_cons_succ]
          refine h_take 4 (some 48) (Op.load 3 (Operand.tmp 47)) 3 ?v5 rfl rfl (by kernel_rfl) (by kernel_rfl) (by kernel_rfl) (fun _ _ _ h => h) ?hy5 hHeld ?_
          case hy5 => (intro _ _ _ w hSw; have hcs := KS _ hSw; go_simp; try with_reducible rfl)
          simp only [Act.put, List.setIfInBounds_toArray, List.set_cons_zero, List.set_cons_succ]
          refine h_take 6 (some 50) (Op.move (Operand.tmp 1)) 40 ?v6 rfl rfl (by kernel_rfl) (by kernel_rfl) (by kernel_rfl) (fun _ _ _ h => h) ?hy6 hHeld ?_
          case hy6 => (intro _ _ _ w hSw; have hcs := KS _ hSw; go_simp; try with_reducible rfl)
          simp only [Act.put, List.setIfInBounds_toArray, List.set_cons_zero, List.set_cons_succ]
          refine h_take 7 (some 51) (Op.move (Operand.tmp 8)) 3 ?v7 rfl rfl (by kernel_rfl) (by kernel_rfl) (by kernel_rfl) (fun _ _ _ h => h) ?hy7 hHeld ?_
          case hy7 => (intro _ _ _ w hSw; have hcs := KS _ hSw; go_simp; try with_reducible rfl)
          simp only [Act.put, List.setIfInBounds_toArray, List.set_cons_zero, List.set_cons_succ]
          refine h_take 8 (some 52) (Op.indexAddr 40 (Operand.tmp 50) (Operand.tmp 51)) 0 ?v8 rfl rfl (by kernel_rfl) (by kernel_rfl) (by kernel_rfl) (fun _ _ _ h => h) ?hy8 hHeld ?_
          case hy8 => (intro _ _ _ w hSw; have hcs := KS _ hSw; go_simp; try with_reducible rfl)
          simp only [Act.put, List.setIfInBounds_toArray, List.set_cons_zero, List.set_cons_succ]
          refine h_take 9 (some 53) (Op.fieldAddr 43 (Operand.tmp 52) 2) 0 ?v9 rfl rfl (by kernel_rfl) (by kernel_rfl) (by kernel_rfl) (fun _ _ _ h => h) ?hy9 hHeld ?_
          case hy9 => (intro _ _ _ w hSw; have hcs := KS _ hSw; go_simp; try with_reducible rfl)
          simp only [Act.put, List.setIfInBounds_toArray, List.set_cons_zero, List.set_cons_succ]
          refine h_take 10 (some 54) (Op.load 3 (Operand.tmp 53)) 3 ?v10 rfl rfl (by kernel_rfl) (by kernel_rfl) (by kernel_rfl) (fun _ _ _ h => h) ?hy10 hHeld ?_
          case hy10 => (intro _ _ _ w hSw; have hcs := KS _ hSw; go_simp; try with_reducible rfl)
          simp only [Act.put, List.setIfInBounds_toArray, List.set_cons_zero, List.set_cons_succ]
          have j0 : Kept (fun _ => False) wc wc.drew := (Kept.refl _ _).drew
          obtain ⟨x0, hx0⟩ : ∃ x0, wc.drew = x0 := ⟨_, rfl⟩
          rw [hx0] at j0 hHeld ⊢
          clear hx0
          refine h_step 5 (some 49) (Op.call { callee := Callee.value (Operand.func 22), args := #[Operand.tmp 48, Operand.const (Value.int IntKind.i64 0), Operand.const (Value.int IntKind.i64 1)], argTypes := #[3, 3, 3] }) 3 rfl rfl (by kernel_rfl) (fun _ _ _ K hK => ?_)
          go_simp
          refine (q1 _).mono ?_
          rintro e x1 ⟨rfl, hx⟩
          subst hx
          go_wp2_with fail
          refine hK.out _ _ (j0) (fun hHeld => ?_)
          clear hK K
          try simp only [Act.put, List.setIfInBounds_toArray, List.set_cons_zero, List.set_cons_succ]
          refine h_step 11 (some 55) (Op.call { callee := Callee.value (Operand.func 22), args := #[Operand.tmp 54, Operand.const (Value.int IntKind.i64 0), Operand.const (Value.int IntKind.i64 4)], argTypes := #[3, 3, 3] }) 3 rfl rfl (by kernel_rfl) (fun _ _ _ K hK => ?_)
          go_simp
          refine (q2 _).mono ?_
          rintro e x2 ⟨rfl, hx⟩
          subst hx
          go_wp2_with fail
          refine hK.out _ _ (j0) (fun hHeld => ?_)
          clear hK K
          try simp only [Act.put, List.setIfInBounds_toArray, List.set_cons_zero, List.set_cons_succ]
          refine h_take 12 (some 9) (Op.assign (Operand.tmp 49)) 3 ?v11 rfl rfl (by kernel_rfl) (by kernel_rfl) (by kernel_rfl) (fun _ _ _ h => h) ?hy11 hHeld ?_
          case hy11 => (intro _ _ _ w hSw; have hcs := KS _ hSw; go_simp; try with_reducible rfl)
          simp only [Act.put, List.setIfInBounds_toArray, List.set_cons_zero, List.set_cons_succ]
          refine h_take 13 (some 10) (Op.assign (Operand.tmp 55)) 3 ?v12 rfl rfl (by kernel_rfl) (by kernel_rfl) (by kernel_rfl) (fun _ _ _ h => h) ?hy12 hHeld ?_
          case hy12 => (intro _ _ _ w hSw; have hcs := KS _ hSw; go_simp; try with_reducible rfl)
          simp only [Act.put, List.setIfInBounds_toArray, List.set_cons_zero, List.set_cons_succ]
          refine wpAnyH_done (by kernel_rfl) ?_ _
          clear hHeld KS
          go_wp2
          go_meet
          case rel => exact ⟨rfl, rfl, j0⟩
        case rest =>
          obtain ⟨rfl, rfl, hkw⟩ := hcut
          obtain ⟨⟨hG, hV, hO, hL⟩, hWr⟩ := HS.out
          have hN : N < wL.heap.size := hL.2.2.2.2.1
          have hG := hG.still hkw
          have hO := hO.still (hkw.mono (Y := fun b => b = N) (fun _ _ e => e.elim)) (fun b e => by rw [e]; exact hN)
          clear HS e0 e1 e2 hkw q1 q2 HC
          go_wp2_with fail
          refine (S.pagesC hG (p1 : Int)).mono ?_
          rintro e w5 ⟨vs, rfl, cs, xs, ys, h5, k5⟩
          have lN5 := hG.v.map.lt
          rw [hV.pages hp2] at xs
          have V5 := hV.same (get_pgT (p1 : Int))
          have O5 := hO.still k5 (fun b e => by rw [e]; exact hN)
          have XS5 : SrcN N vs (toI (P p1)) w5 := SrcN.of xs ys lN5
          clear hG hV hO xs ys lN5
          generalize pgT (fP a0) g (p1 : Int) = g5 at *
          go_wp2_with fail
          refine (S.free h5).mono ?_
          rintro e w6 ⟨rfl, h6, k6⟩
          have V6 := V5.same (g' := vgetT g5 (2, 0)) (fun j => get_get)
          have O6 := O5.still k6 (fun b e => by rw [e]; exact hN)
          have XS6 := XS5.still k6
          have hm : (poV (fP a0) g5).n0 = (poV (fP a0) (vgetT g5 (2, 0))).n0 := by show (vgetF _ _ _).n0 = (vgetF _ _ _).n0; rw [get_get]
          rw [hm]
          clear hm h5 V5 O5 XS5 k5 k6
          generalize vgetT g5 (2, 0) = g6 at *
          have e6 := h6.kept.cell e00 (fun x => x)
          obtain ⟨m, hm⟩ : ∃ m, (P p1).length = m := ⟨_, rfl⟩
          have hm6 := V6.six p1 hp2
          rw [hm] at hm6
          obtain ⟨ao, c1, hvs, ha⟩ : ∃ ao c1, vs = .slice ao m c1 ∧ ((∃ b o, ao = some ⟨b, o, none⟩) ∨ (m = 0 ∧ ao = none ∧ c1 = 0)) := by
            rcases XS6.1.form with ⟨b, o, c, rfl⟩ | ⟨rfl, hl⟩
            · exact ⟨_, c, by rw [List.length_map, hm], .inl ⟨b, o, rfl⟩⟩
            · have e0 : P p1 = [] := List.map_eq_nil_iff.1 hl
              have e1 : m = 0 := by rw [← hm, e0]; rfl
              exact ⟨none, 0, by rw [e1], .inr ⟨e1, rfl, rfl⟩⟩
          have hmc := cs _ _ _ hvs
          subst hvs
          have HQ : Hid (SideG (fP a0) w T p B q N g6 w6 ∧ SpV (fP a0) a0 P W g6 ∧ OwnX (fun b => b = N) wL u7 (toI W) w6 ∧ SrcN N (.slice ao m c1) (toI (P p1)) w6 ∧ LowS wL.heap.size T p B q N w ∧ W.length ≤ 6 * r) := ⟨h6, V6, O6, XS6, hL, hWr⟩
          clear h6 V6 O6 XS6 hN hL hWr e00 cs
          obtain ⟨d, hd⟩ : ∃ d, cntB (poV (fP a0) g6).n0 = d := ⟨_, rfl⟩
          have hd64 : d ≤ 64 := by rw [← hd]; exact cntN_le _ _
          rw [hd]
          go_upto_block 2 with fail
          go_cut [7, 13, 14, 15] from 66 to 145 (fun u _ _ _ wx => Hid (∃ P' W' g', OwnS a0 w wL T p B q N u P' W' g' wx ∧ W'.length ≤ 6 * (r + 1)))
          case first =>
            generalize y.k = k at *
            by_cases h2 : k = 2
            ·
              as_aux_lemma =>
              subst h2
              obtain ⟨h6, V6, O6, XS6, hL, hWr⟩ := HQ.out
              have hN : N < wL.heap.size := hL.2.2.2.2.1
              have lN6 := h6.v.map.lt
              clear HQ
              go_wp2_with fail
              refine (S.shrink h6 (p1 : Int) (n1 : Int) (by omega)).mono ?_
              rintro e w7 ⟨vx, rfl, x7, y7, h7, k7⟩
              have O7 := O6.still k7 (fun b e => by rw [e]; exact hN)
              have XS7 := XS6.still k7
              have X7 := SrcN.of x7 y7 lN6
              clear h6 O6 XS6 x7 y7 k7
              by_cases hn : n1 ≤ m
              ·
                as_aux_lemma =>
                rw [sh_list V6 hp2 (by omega), hm] at X7
                rw [V6.shrinks hp2, hm, decide_eq_true hn]
                have V7 := V6.shrink hp2 (n := n1) (by omega)
                rw [hm] at V7
                have he : m - (m - n1) = n1 := by omega
                have hD : (toI ((P p1).drop (m - n1))).length ≤ 6 := by rw [List.length_map, List.length_drop]; omega
                have hDn : m = 0 → toI ((P p1).drop (m - n1)) = [] := fun e => List.eq_nil_of_length_eq_zero (by rw [List.length_map, List.length_drop]; omega)
                have XD : ∀ b o, ao = some ⟨b, o, none⟩ → ∀ a2 c2, (a2 = some ⟨b, o + (m - n1), none⟩ ∨ n1 = 0 ∧ a2 = some ⟨b, o, none⟩) → SrcI (.slice a2 n1 c2) (toI ((P p1).drop (m - n1))) w7 := by
                  intro b o e a2 c2 h
                  subst e
                  have h1 := XS7.1
                  have h2 : SrcI (.slice (some ⟨b, o, none⟩) (toI (P p1)).length c1) (toI (P p1)) w7 := by rw [List.length_map, hm]; exact h1
                  have h3 := h2.cut (m - n1) n1 (by rw [List.length_map, hm]; omega) a2 c2 h
                  have e2 : ((toI (P p1)).drop (m - n1)).take n1 = toI ((P p1).drop (m - n1)) := by rw [← List.map_drop, List.take_of_length_le (by rw [List.length_map, List.length_drop]; omega)]
                  rw [e2] at h3
                  exact h3
                have HR : Hid (SideG (fP a0) w T p B q N (shT (fP a0) g6 (p1 : Int) (n1 : Int)) w7 ∧ SpV (fP a0) a0 (upn P p1 ((P p1).take (m - n1))) (W ++ (P p1).drop (m - n1)) (shT (fP a0) g6 (p1 : Int) (n1 : Int)) ∧ OwnX (fun b => b = N) wL u7 (toI W) w7 ∧ LowS wL.heap.size T p B q N w ∧ W.length ≤ 6 * r ∧ (toI ((P p1).drop (m - n1))).length ≤ 6) := ⟨h7, V7, O7, hL, hWr, hD⟩
                have hWl : (toI W).length ≤ 180 := by rw [List.length_map]; omega
                clear V6 V7 h7 O7 hL hWr hN lN6 e6
                generalize (P p1).drop (m - n1) = D at *
                generalize upn P p1 ((P p1).take (m - n1)) = P2 at *
                generalize shT (fP a0) g6 (p1 : Int) (n1 : Int) = g7 at *
                rcases ha with ⟨b, o, rfl⟩ | ⟨hm0, rfl, hc0⟩
                · have XD := XD b o rfl
                  clear XS7
                  by_cases hc : c1 = m - n1
                  · have hn0 : n1 = 0 := by omega
                    have hc1 : c1 = m := by omega
                    subst hn0
                    subst hc1
                    clear hc
                    go_wp2_with fail
                    refine (sameI_w vx _ (toI D) ?_ w7 X7.1 ?_).mono ?_
                    case refine_1 => omega
                    case refine_2 => exact XD _ _ (by simp)
                    as_aux_lemma =>
                    rintro e w8 ⟨rfl, m8, rfl⟩
                    have k8 : Kept (fun _ => False) w7 (w7.drewN m8) := kept_drewN _ _
                    have O8 := HR.out.2.2.1.still (k8.mono (Y := fun b => b = N) (fun _ _ e => e.elim)) (fun b e => by have := HR.out.2.2.2.1.2.2.2.2.1; omega)
                    have h8 := HR.out.1.still k8
                    have X8 : SrcI vx (toI D) (w7.drewN m8) := (X7.quiet k8).1
                    clear X7 k8 XD
                    go_wp2_with (at_builtin; refine listI_app rfl _ _ rfl (fun b => b = N) wL (toI W) (toI D) O8 X8 (by omega) ?_; intro v9 w9 O9 hg9)
                    go_meet
                    case rel =>
                      have hk9 : Kept (fun k => wL.heap.size ≤ k) (w7.drewN m8) w9 := Kept.grown (X := fun k => wL.heap.size ≤ k) (Kept.refl _ _) hg9 (fun k e _ => (O8.young e).1)
                      rw [← List.map_append] at O9
                      refine ⟨_, _, _, ⟨h8.young hk9 (fun _ e => e) HR.out.2.2.2.1, HR.out.2.1, O9, HR.out.2.2.2.1⟩, ?_⟩
                      have h1 := HR.out.2.2.2.2.1
                      have h2 := HR.out.2.2.2.2.2
                      rw [List.length_map] at h2
                      rw [List.length_append]
                      omega
                  · go_wp2_with fail
                    refine (sameI_w vx _ (toI D) ?_ w7 X7.1 ?_).mono ?_
                    case refine_1 => omega
                    case refine_2 => first | exact XD _ _ (.inl rfl) | (rw [he]; exact XD _ _ (.inl rfl))
                    as_aux_lemma =>
                    rintro e w8 ⟨rfl, m8, rfl⟩
                    have k8 : Kept (fun _ => False) w7 (w7.drewN m8) := kept_drewN _ _
                    have O8 := HR.out.2.2.1.still (k8.mono (Y := fun b => b = N) (fun _ _ e => e.elim)) (fun b e => by have := HR.out.2.2.2.1.2.2.2.2.1; omega)
                    have h8 := HR.out.1.still k8
                    have X8 : SrcI vx (toI D) (w7.drewN m8) := (X7.quiet k8).1
                    clear X7 k8 XD
                    go_wp2_with (at_builtin; refine listI_app rfl _ _ rfl (fun b => b = N) wL (toI W) (toI D) O8 X8 (by omega) ?_; intro v9 w9 O9 hg9)
                    go_meet
                    case rel =>
                      have hk9 : Kept (fun k => wL.heap.size ≤ k) (w7.drewN m8) w9 := Kept.grown (X := fun k => wL.heap.size ≤ k) (Kept.refl _ _) hg9 (fun k e _ => (O8.young e).1)
                      rw [← List.map_append] at O9
                      refine ⟨_, _, _, ⟨h8.young hk9 (fun _ e => e) HR.out.2.2.2.1, HR.out.2.1, O9, HR.out.2.2.2.1⟩, ?_⟩
                      have h1 := HR.out.2.2.2.2.1
                      have h2 := HR.out.2.2.2.2.2
                      rw [List.length_map] at h2
                      rw [List.length_append]
                      omega
                · have hn0 : n1 = 0 := by omega
                  subst hm0 hn0 hc0
                  have hD0 : SrcI (.slice none 0 0) (toI D) w7 := by
                    refine .inr ⟨rfl, ?_⟩
                    exact hDn rfl
                  clear XS7 XD
                  go_wp2_with fail
                  refine (sameI_w vx _ (toI D) ?_ w7 X7.1 ?_).mono ?_
                  case refine_1 => omega
                  case refine_2 => exact hD0
                  have XD := hD0
                  as_aux_lemma =>
                  rintro e w8 ⟨rfl, m8, rfl⟩
                  have k8 : Kept (fun _ => False) w7 (w7.drewN m8) := kept_drewN _ _
                  have O8 := HR.out.2.2.1.still (k8.mono (Y := fun b => b = N) (fun _ _ e => e.elim)) (fun b e => by have := HR.out.2.2.2.1.2.2.2.2.1; omega)
                  have h8 := HR.out.1.still k8
                  have X8 : SrcI vx (toI D) (w7.drewN m8) := (X7.quiet k8).1
                  clear X7 k8 XD
                  go_wp2_with (at_builtin; refine listI_app rfl _ _ rfl (fun b => b = N) wL (toI W) (toI D) O8 X8 (by omega) ?_; intro v9 w9 O9 hg9)
                  go_meet
                  case rel =>
                    have hk9 : Kept (fun k => wL.heap.size ≤ k) (w7.drewN m8) w9 := Kept.grown (X := fun k => wL.heap.size ≤ k) (Kept.refl _ _) hg9 (fun k e _ => (O8.young e).1)
                    rw [← List.map_append] at O9
                    refine ⟨_, _, _, ⟨h8.young hk9 (fun _ e => e) HR.out.2.2.2.1, HR.out.2.1, O9, HR.out.2.2.2.1⟩, ?_⟩
                    have h1 := HR.out.2.2.2.2.1
                    have h2 := HR.out.2.2.2.2.2
                    rw [List.length_map] at h2
                    rw [List.length_append]
                    omega
              ·
                as_aux_lemma =>
                have X8 : SrcI vx (toI []) w7 := by have := X7.1; rwa [sh_none2 (by rw [V6.shrinks hp2, hm]; exact decide_eq_false hn)] at this
                rw [V6.shrinks hp2, hm, decide_eq_false hn]
                have V7 := V6.same (sh_no (i := (p1 : Int)) (n := (n1 : Int)) (by rw [V6.shrinks hp2, hm]; exact decide_eq_false hn))
                have hWl : (toI W).length ≤ 180 := by rw [List.length_map]; omega
                have HR : Hid (SideG (fP a0) w T p B q N (shT (fP a0) g6 (p1 : Int) (n1 : Int)) w7 ∧ SpV (fP a0) a0 P W (shT (fP a0) g6 (p1 : Int) (n1 : Int)) ∧ LowS wL.heap.size T p B q N w ∧ W.length ≤ 6 * r) := ⟨h7, V7, hL, hWr⟩
                clear V6 V7 h7 hL hWr hN lN6 e6 X7
                go_wp2_with (at_builtin; refine listI_app rfl _ _ rfl (fun b => b = N) wL (toI W) (toI []) O7 X8 (by simp only [List.map_nil, List.length_nil]; omega) ?_; intro v9 w9 O9 hg9)
                go_meet
                case rel =>
                  have hk9 : Kept (fun k => wL.heap.size ≤ k) w7 w9 := Kept.grown (X := fun k => wL.heap.size ≤ k) (Kept.refl _ _) hg9 (fun k e _ => (O7.young e).1)
                  rw [show toI W ++ toI [] = toI W from List.append_nil _] at O9
                  exact ⟨_, _, _, ⟨HR.out.1.young hk9 (fun _ e => e) HR.out.2.2.1, HR.out.2.1, O9, HR.out.2.2.1⟩, by have := HR.out.2.2.2; omega⟩
            by_cases h3 : k = 3
            ·
              as_aux_lemma =>
              subst h3
              obtain ⟨h6, V6, O6, XS6, hL, hWr⟩ := HQ.out
              have hN : N < wL.heap.size := hL.2.2.2.2.1
              clear HQ XS6 h2
              obtain ⟨V7, hc7⟩ := V6.back
              rw [hd] at hc7
              obtain ⟨ao2, c2, hu⟩ : ∃ ao2 c2, u7 = .slice ao2 W.length c2 := by
                rcases O6.src.form with ⟨b, o, c, rfl⟩ | ⟨rfl, hl⟩
                · exact ⟨_, c, by rw [List.length_map]⟩
                · exact ⟨none, 0, by rw [List.map_eq_nil_iff.1 hl]; rfl⟩
              subst hu
              obtain ⟨nW, hnW⟩ : ∃ nW, W.length = nW := ⟨_, rfl⟩
              have hb : ∀ b, (Value.slice ao2 W.length c2).ownBlock = some b → wL.heap.size ≤ b ∧ b < w6.heap.size := fun b e => O6.young e
              have hsrc := O6.src
              have hkp := O6.kept
              have hlW : (toI W).length ≤ 1000000 := by rw [List.length_map]; omega
              rw [hnW] at hb hsrc hWr hc7 ⊢
              clear V6 O6 hd hnW e6
              go_wp2_with fail
              refine (S.back h6 _ (toI W) hlW hsrc (fun b e => ⟨(hb b e).2, by have := (hb b e).1; omega⟩)).mono ?_
              rintro e w7 ⟨rfl, h7, k7⟩
              have hkp7 : Kept (fun b => b = N) wL w7 := hkp.trans k7 (fun _ _ e => e)
              clear h6 hsrc hb hkp k7
              go_wp2_with fail
              refine (S.free h7).mono ?_
              rintro e w8 ⟨rfl, h8, k8⟩
              rw [show cntB (poV (fP a0) (baT (fP a0) g6 (toI W))).n0 = d + nW from hc7]
              have hnW : nW ≤ 180 := by omega
              have HR : Hid (∃ P' W' g', OwnS a0 w wL T p B q N (.slice none 0 0) P' W' g' w8 ∧ W'.length ≤ 6 * (r + 1)) := ⟨P, [], _, ⟨h8, V7.same (g' := vgetT (baT (fP a0) g6 (toI W)) (2, 0)) (fun j => get_get), own_grown (hkp7.trans k8 (fun _ _ e => e)), hL⟩, by simp⟩
              clear h7 V7 hkp7 h8 k8 hc7 hL hlW hm
              go_wp2_with fail
              go_meet
              case rel => exact HR
            as_aux_lemma =>
            obtain ⟨h6, V6, O6, XS6, hL, hWr⟩ := HQ.out
            have hN : N < wL.heap.size := hL.2.2.2.2.1
            clear HQ
            obtain ⟨P', V7, hP1, hP2⟩ : ∃ P', SpV (fP a0) a0 P' W (grT (fP a0) g6 (p1 : Int) (n1 : Int)) ∧ m ≤ (P' p1).length ∧ (P' p1).take m = P p1 := by
              cases hk : grOk (fP a0) g6 (p1 : Int) (n1 : Int) with
              | true =>
                have h := V6.may hp2 (n := n1)
                rw [hk] at h
                simp at h
                refine ⟨_, V6.grow hp2 (n := n1) h.1 h.2, ?_, ?_⟩
                · unfold upn; rw [if_pos rfl, List.length_append]; omega
                · unfold upn; rw [if_pos rfl, ← hm, List.take_left']; rfl
              | false => exact ⟨P, V6.same (gr_no hk), by omega, by rw [← hm, List.take_length]⟩
            obtain ⟨ok, hok⟩ : ∃ ok, grOk (fP a0) g6 (p1 : Int) (n1 : Int) = ok := ⟨_, rfl⟩
            have hok2 : ok = (decide (n1 ≤ d) && decide (n1 + m ≤ 6)) := by rw [← hok, V6.may hp2, hd, hm]
            have hmem := V6.mem hp2
            clear hd V6 e6
            go_wp2_with fail
            refine (S.grow h6 (p1 : Int) (n1 : Int) hmem.1 hmem.2).mono ?_
            rintro e w7 ⟨rfl, h7, k7⟩
            rw [hok]
            have HR : Hid (SideG (fP a0) w T p B q N (grT (fP a0) g6 (p1 : Int) (n1 : Int)) w7 ∧ SpV (fP a0) a0 P' W (grT (fP a0) g6 (p1 : Int) (n1 : Int)) ∧ OwnX (fun b => b = N) wL u7 (toI W) w7 ∧ LowS wL.heap.size T p B q N w ∧ W.length ≤ 6 * r ∧ SrcN N (.slice ao m c1) (toI (P p1)) w7) := ⟨h7, V7, O6.still k7 (fun b e => by rw [e]; exact hN), hL, hWr, XS6.still k7⟩
            clear h6 h7 V7 O6 XS6 k7 hmem hok hL hWr
            generalize grT (fP a0) g6 (p1 : Int) (n1 : Int) = g7 at *
            have hok2' := hok2
            by_cases a1 : n1 ≤ d
            · by_cases a2 : n1 + m ≤ 6
              · have : ok = true := by rw [hok2, decide_eq_true a1, decide_eq_true a2]; rfl
                subst this
                have b1 : (n1 : Int) ≤ (d : Int) := by omega
                have b2 : (n1 : Int) ≤ 6 - (m : Int) := by omega
                clear hok2 hok2'
                as_aux_lemma =>
                obtain ⟨h7, V7, O7, hL, hWr, XS7⟩ := HR.out
                have hN : N < wL.heap.size := hL.2.2.2.2.1
                clear HR
                go_wp2_with fail
                refine (S.pagesC h7 (p1 : Int)).mono ?_
                rintro e w8 ⟨va, rfl, ca, xa, -, h8, k8⟩
                rw [V7.pages hp2] at xa
                obtain ⟨aa, ma, cc, hva, hma⟩ : ∃ aa ma cc, va = .slice aa ma cc ∧ ma = (P' p1).length := by
                  rcases xa.form with ⟨b, o, c, rfl⟩ | ⟨rfl, hl⟩
                  · exact ⟨_, _, c, rfl, by rw [List.length_map]⟩
                  · exact ⟨none, 0, 0, rfl, by rw [List.map_eq_nil_iff.1 hl]; rfl⟩
                subst hva
                have V8 := V7.same (get_pgT (p1 : Int))
                have O8 := O7.still k8 (fun b e => by rw [e]; exact hN)
                have XS8 := XS7.still k8
                have hge : ¬ (ma : Int) < (m : Int) := by omega
                clear h7 V7 O7 XS7 xa ca k8
                generalize pgT (fP a0) g7 (p1 : Int) = g8 at *
                go_wp2_with fail
                refine (S.pagesC h8 (p1 : Int)).mono ?_
                rintro e w9 ⟨vb, rfl, cb, xb, -, h9, k9⟩
                rw [V8.pages hp2] at xb
                have V9 := V8.same (get_pgT (p1 : Int))
                have O9 := O8.still k9 (fun b e => by rw [e]; exact hN)
                have XS9 := XS8.still k9
                clear h8 V8 O8 XS8 k9
                generalize pgT (fP a0) g8 (p1 : Int) = g9 at *
                have HF : Hid (SideG (fP a0) w T p B q N g9 w9 ∧ SpV (fP a0) a0 P' W g9 ∧ OwnX (fun b => b = N) wL u7 (toI W) w9 ∧ LowS wL.heap.size T p B q N w ∧ W.length ≤ 6 * r ∧ SrcN N (.slice ao m c1) (toI (P p1)) w9) := ⟨h9, V9, O9, hL, hWr, XS9⟩
                clear h9 V9 O9 hL hWr XS9 hN
                rcases xb.form with ⟨b, o, c, rfl⟩ | ⟨rfl, hl⟩
                · have hcap : m ≤ c := by
                    have := cb _ _ _ rfl
                    rw [List.length_map] at this
                    omega
                  have XT : ∀ c2, SrcI (.slice (some ⟨b, o, none⟩) m c2) (toI (P p1)) w9 := by
                    intro c2
                    have := xb.cut 0 m (by rw [List.length_map]; omega) (some ⟨b, o, none⟩) c2 (.inl rfl)
                    rw [List.drop_zero, ← List.map_take, hP2] at this
                    exact this
                  have hml : (toI (P p1)).length ≤ 1000000 := by rw [List.length_map]; omega
                  clear xb cb hP2 hma hge
                  go_wp2_with fail
                  all_goals (
                    refine (sameI_w _ _ (toI (P p1)) hml w9 ?_ HF.out.2.2.2.2.2.1).mono ?_
                    case refine_1 => exact XT _
                    rintro e w10 ⟨rfl, m10, rfl⟩
                    have k10 : Kept (fun _ => False) w9 (w9.drewN m10) := kept_drewN _ _
                    have HE : Hid (∃ P' W' g', OwnS a0 w wL T p B q N u7 P' W' g' (w9.drewN m10) ∧ W'.length ≤ 6 * (r + 1)) := ⟨P', W, _, ⟨HF.out.1.still k10, HF.out.2.1, HF.out.2.2.1.still (k10.mono (Y := fun b => b = N) (fun _ _ e => e.elim)) (fun b e => by have := HF.out.2.2.2.1.2.2.2.2.1; omega), HF.out.2.2.2.1⟩, by have := HF.out.2.2.2.2.1; omega⟩
                    clear HF XT k10
                    go_wp2_with fail
                    go_meet
                    case rel => exact HE
                  )
                · have hP0 : P' p1 = [] := List.map_eq_nil_iff.1 hl
                  have hm0 : m = 0 := by rw [hP0] at hP1; simpa using hP1
                  have hPp : toI (P p1) = [] := by rw [← hP2, hP0]; simp
                  have XT : SrcI (.slice none 0 0) (toI (P p1)) w9 := .inr ⟨rfl, hPp⟩
                  have hml : (toI (P p1)).length ≤ 1000000 := by rw [List.length_map]; omega
                  have hP0l : (P' p1).length = 0 := by rw [hP0]; rfl
                  clear xb cb hP2 hma hge hl hPp hP0 hP1
                  subst hm0
                  go_wp2_with fail
                  all_goals (
                    refine (sameI_w _ _ (toI (P p1)) hml w9 ?_ HF.out.2.2.2.2.2.1).mono ?_
                    case refine_1 => exact XT
                    rintro e w10 ⟨rfl, m10, rfl⟩
                    have k10 : Kept (fun _ => False) w9 (w9.drewN m10) := kept_drewN _ _
                    have HE : Hid (∃ P' W' g', OwnS a0 w wL T p B q N u7 P' W' g' (w9.drewN m10) ∧ W'.length ≤ 6 * (r + 1)) := ⟨P', W, _, ⟨HF.out.1.still k10, HF.out.2.1, HF.out.2.2.1.still (k10.mono (Y := fun b => b = N) (fun _ _ e => e.elim)) (fun b e => by have := HF.out.2.2.2.1.2.2.2.2.1; omega), HF.out.2.2.2.1⟩, by have := HF.out.2.2.2.2.1; omega⟩
                    clear HF XT k10
                    go_wp2_with fail
                    go_meet
                    case rel => exact HE
                  )
              · have : ok = false := by rw [hok2]; simp [a2]
                subst this
                have b1 : (n1 : Int) ≤ (d : Int) := by omega
                have b2 : ¬ (n1 : Int) ≤ 6 - (m : Int) := by omega
                clear hok2 hok2'
                as_aux_lemma =>
                obtain ⟨h7, V7, O7, hL, hWr, XS7⟩ := HR.out
                have hN : N < wL.heap.size := hL.2.2.2.2.1
                clear HR
                go_wp2_with fail
                refine (S.pagesC h7 (p1 : Int)).mono ?_
                rintro e w8 ⟨va, rfl, ca, xa, -, h8, k8⟩
                rw [V7.pages hp2] at xa
                obtain ⟨aa, ma, cc, hva, hma⟩ : ∃ aa ma cc, va = .slice aa ma cc ∧ ma = (P' p1).length := by
                  rcases xa.form with ⟨b, o, c, rfl⟩ | ⟨rfl, hl⟩
                  · exact ⟨_, _, c, rfl, by rw [List.length_map]⟩
                  · exact ⟨none, 0, 0, rfl, by rw [List.map_eq_nil_iff.1 hl]; rfl⟩
                subst hva
                have V8 := V7.same (get_pgT (p1 : Int))
                have O8 := O7.still k8 (fun b e => by rw [e]; exact hN)
                have XS8 := XS7.still k8
                have hge : ¬ (ma : Int) < (m : Int) := by omega
                clear h7 V7 O7 XS7 xa ca k8
                generalize pgT (fP a0) g7 (p1 : Int) = g8 at *
                go_wp2_with fail
                refine (S.pagesC h8 (p1 : Int)).mono ?_
                rintro e w9 ⟨vb, rfl, cb, xb, -, h9, k9⟩
                rw [V8.pages hp2] at xb
                have V9 := V8.same (get_pgT (p1 : Int))
                have O9 := O8.still k9 (fun b e => by rw [e]; exact hN)
                have XS9 := XS8.still k9
                clear h8 V8 O8 XS8 k9
                generalize pgT (fP a0) g8 (p1 : Int) = g9 at *
                have HF : Hid (SideG (fP a0) w T p B q N g9 w9 ∧ SpV (fP a0) a0 P' W g9 ∧ OwnX (fun b => b = N) wL u7 (toI W) w9 ∧ LowS wL.heap.size T p B q N w ∧ W.length ≤ 6 * r ∧ SrcN N (.slice ao m c1) (toI (P p1)) w9) := ⟨h9, V9, O9, hL, hWr, XS9⟩
                clear h9 V9 O9 hL hWr XS9 hN
                rcases xb.form with ⟨b, o, c, rfl⟩ | ⟨rfl, hl⟩
                · have hcap : m ≤ c := by
                    have := cb _ _ _ rfl
                    rw [List.length_map] at this
                    omega
                  have XT : ∀ c2, SrcI (.slice (some ⟨b, o, none⟩) m c2) (toI (P p1)) w9 := by
                    intro c2
                    have := xb.cut 0 m (by rw [List.length_map]; omega) (some ⟨b, o, none⟩) c2 (.inl rfl)
                    rw [List.drop_zero, ← List.map_take, hP2] at this
                    exact this
                  have hml : (toI (P p1)).length ≤ 1000000 := by rw [List.length_map]; omega
                  clear xb cb hP2 hma hge
                  go_wp2_with fail
                  all_goals (
                    refine (sameI_w _ _ (toI (P p1)) hml w9 ?_ HF.out.2.2.2.2.2.1).mono ?_
                    case refine_1 => exact XT _
                    rintro e w10 ⟨rfl, m10, rfl⟩
                    have k10 : Kept (fun _ => False) w9 (w9.drewN m10) := kept_drewN _ _
                    have HE : Hid (∃ P' W' g', OwnS a0 w wL T p B q N u7 P' W' g' (w9.drewN m10) ∧ W'.length ≤ 6 * (r + 1)) := ⟨P', W, _, ⟨HF.out.1.still k10, HF.out.2.1, HF.out.2.2.1.still (k10.mono (Y := fun b => b = N) (fun _ _ e => e.elim)) (fun b e => by have := HF.out.2.2.2.1.2.2.2.2.1; omega), HF.out.2.2.2.1⟩, by have := HF.out.2.2.2.2.1; omega⟩
                    clear HF XT k10
                    go_wp2_with fail
                    go_meet
                    case rel => exact HE
                  )
                · have hP0 : P' p1 = [] := List.map_eq_nil_iff.1 hl
                  have hm0 : m = 0 := by rw [hP0] at hP1; simpa using hP1
                  have hPp : toI (P p1) = [] := by rw [← hP2, hP0]; simp
                  have XT : SrcI (.slice none 0 0) (toI (P p1)) w9 := .inr ⟨rfl, hPp⟩
                  have hml : (toI (P p1)).length ≤ 1000000 := by rw [List.length_map]; omega
                  have hP0l : (P' p1).length = 0 := by rw [hP0]; rfl
                  clear xb cb hP2 hma hge hl hPp hP0 hP1
                  subst hm0
                  go_wp2_with fail
                  all_goals (
                    refine (sameI_w _ _ (toI (P p1)) hml w9 ?_ HF.out.2.2.2.2.2.1).mono ?_
                    case refine_1 => exact XT
                    rintro e w10 ⟨rfl, m10, rfl⟩
                    have k10 : Kept (fun _ => False) w9 (w9.drewN m10) := kept_drewN _ _
                    have HE : Hid (∃ P' W' g', OwnS a0 w wL T p B q N u7 P' W' g' (w9.drewN m10) ∧ W'.length ≤ 6 * (r + 1)) := ⟨P', W, _, ⟨HF.out.1.still k10, HF.out.2.1, HF.out.2.2.1.still (k10.mono (Y := fun b => b = N) (fun _ _ e => e.elim)) (fun b e => by have := HF.out.2.2.2.1.2.2.2.2.1; omega), HF.out.2.2.2.1⟩, by have := HF.out.2.2.2.2.1; omega⟩
                    clear HF XT k10
                    go_wp2_with fail
                    go_meet
                    case rel => exact HE
                  )
            · have : ok = false := by rw [hok2]; simp [a1]
              subst this
              have b1 : ¬ (n1 : Int) ≤ (d : Int) := by omega
              clear hok2 hok2'
              as_aux_lemma =>
              obtain ⟨h7, V7, O7, hL, hWr, XS7⟩ := HR.out
              have hN : N < wL.heap.size := hL.2.2.2.2.1
              clear HR
              go_wp2_with fail
              refine (S.pagesC h7 (p1 : Int)).mono ?_
              rintro e w8 ⟨va, rfl, ca, xa, -, h8, k8⟩
              rw [V7.pages hp2] at xa
              obtain ⟨aa, ma, cc, hva, hma⟩ : ∃ aa ma cc, va = .slice aa ma cc ∧ ma = (P' p1).length := by
                rcases xa.form with ⟨b, o, c, rfl⟩ | ⟨rfl, hl⟩
                · exact ⟨_, _, c, rfl, by rw [List.length_map]⟩
                · exact ⟨none, 0, 0, rfl, by rw [List.map_eq_nil_iff.1 hl]; rfl⟩
              subst hva
              have V8 := V7.same (get_pgT (p1 : Int))
              have O8 := O7.still k8 (fun b e => by rw [e]; exact hN)
              have XS8 := XS7.still k8
              have hge : ¬ (ma : Int) < (m : Int) := by omega
              clear h7 V7 O7 XS7 xa ca k8
              generalize pgT (fP a0) g7 (p1 : Int) = g8 at *
              go_wp2_with fail
              refine (S.pagesC h8 (p1 : Int)).mono ?_
              rintro e w9 ⟨vb, rfl, cb, xb, -, h9, k9⟩
              rw [V8.pages hp2] at xb
              have V9 := V8.same (get_pgT (p1 : Int))
              have O9 := O8.still k9 (fun b e => by rw [e]; exact hN)
              have XS9 := XS8.still k9
              clear h8 V8 O8 XS8 k9
              generalize pgT (fP a0) g8 (p1 : Int) = g9 at *
              have HF : Hid (SideG (fP a0) w T p B q N g9 w9 ∧ SpV (fP a0) a0 P' W g9 ∧ OwnX (fun b => b = N) wL u7 (toI W) w9 ∧ LowS wL.heap.size T p B q N w ∧ W.length ≤ 6 * r ∧ SrcN N (.slice ao m c1) (toI (P p1)) w9) := ⟨h9, V9, O9, hL, hWr, XS9⟩
              clear h9 V9 O9 hL hWr XS9 hN
              rcases xb.form with ⟨b, o, c, rfl⟩ | ⟨rfl, hl⟩
              · have hcap : m ≤ c := by
                  have := cb _ _ _ rfl
                  rw [List.length_map] at this
                  omega
                have XT : ∀ c2, SrcI (.slice (some ⟨b, o, none⟩) m c2) (toI (P p1)) w9 := by
                  intro c2
                  have := xb.cut 0 m (by rw [List.length_map]; omega) (some ⟨b, o, none⟩) c2 (.inl rfl)
                  rw [List.drop_zero, ← List.map_take, hP2] at this
                  exact this
                have hml : (toI (P p1)).length ≤ 1000000 := by rw [List.length_map]; omega
                clear xb cb hP2 hma hge
                go_wp2_with fail
                all_goals (
                  refine (sameI_w _ _ (toI (P p1)) hml w9 ?_ HF.out.2.2.2.2.2.1).mono ?_
                  case refine_1 => exact XT _
                  rintro e w10 ⟨rfl, m10, rfl⟩
                  have k10 : Kept (fun _ => False) w9 (w9.drewN m10) := kept_drewN _ _
                  have HE : Hid (∃ P' W' g', OwnS a0 w wL T p B q N u7 P' W' g' (w9.drewN m10) ∧ W'.length ≤ 6 * (r + 1)) := ⟨P', W, _, ⟨HF.out.1.still k10, HF.out.2.1, HF.out.2.2.1.still (k10.mono (Y := fun b => b = N) (fun _ _ e => e.elim)) (fun b e => by have := HF.out.2.2.2.1.2.2.2.2.1; omega), HF.out.2.2.2.1⟩, by have := HF.out.2.2.2.2.1; omega⟩
                  clear HF XT k10
                  go_wp2_with fail
                  go_meet
                  case rel => exact HE
                )
              · have hP0 : P' p1 = [] := List.map_eq_nil_iff.1 hl
                have hm0 : m = 0 := by rw [hP0] at hP1; simpa using hP1
                have hPp : toI (P p1) = [] := by rw [← hP2, hP0]; simp
                have XT : SrcI (.slice none 0 0) (toI (P p1)) w9 := .inr ⟨rfl, hPp⟩
                have hml : (toI (P p1)).length ≤ 1000000 := by rw [List.length_map]; omega
                have hP0l : (P' p1).length = 0 := by rw [hP0]; rfl
                clear xb cb hP2 hma hge hl hPp hP0 hP1
                subst hm0
                go_wp2_with fail
                all_goals (
                  refine (sameI_w _ _ (toI (P p1)) hml w9 ?_ HF.out.2.2.2.2.2.1).mono ?_
                  case refine_1 => exact XT
                  rintro e w10 ⟨rfl, m10, rfl⟩
                  have k10 : Kept (fun _ => False) w9 (w9.drewN m10) := kept_drewN _ _
                  have HE : Hid (∃ P' W' g', OwnS a0 w wL T p B q N u7 P' W' g' (w9.drewN m10) ∧ W'.length ≤ 6 * (r + 1)) := ⟨P', W, _, ⟨HF.out.1.still k10, HF.out.2.1, HF.out.2.2.1.still (k10.mono (Y := fun b => b = N) (fun _ _ e => e.elim)) (fun b e => by have := HF.out.2.2.2.1.2.2.2.2.1; omega), HF.out.2.2.2.1⟩, by have := HF.out.2.2.2.2.1; omega⟩
                  clear HF XT k10
                  go_wp2_with fail
                  go_meet
                  case rel => exact HE
                )
          case rest =>
            as_aux_lemma =>
            obtain ⟨P2, W2, g2, ⟨hG, hV, hO, hL⟩, hWr⟩ := hcut.out
            have HR9 : Hid (r < len ∧ r < 30) := ⟨by omega, by omega⟩
            clear hcut HQ hm6 hmc ha hd hd64 hm hp2 hn2 hl1 t1 t2 e6
            obtain ⟨ao2, c2, hu⟩ : ∃ ao2 c2, u7 = .slice ao2 W2.length c2 := by
              rcases hO.src.form with ⟨b, o, c, rfl⟩ | ⟨rfl, hl⟩
              · exact ⟨_, c, by rw [List.length_map]⟩
              · exact ⟨none, 0, by rw [List.map_eq_nil_iff.1 hl]; rfl⟩
            subst hu
            obtain ⟨nW, hnW⟩ : ∃ nW, W2.length = nW := ⟨_, rfl⟩
            rw [hnW] at hO ⊢
            have hW180 : nW ≤ 186 := by omega
            have hub := fun k e => (hO.young (k := k) e).2
            go_wp2_with fail
            refine (sg_vget hG 2 0).mono ?_
            rintro e w3 ⟨rfl, h3, k3⟩
            obtain ⟨x, hx⟩ : ∃ x, vgetF (fP a0) g2 (2, 0) = x := ⟨_, rfl⟩
            rw [hx]
            have hV3 := hV.same (g' := vgetT g2 (2, 0)) (fun j => get_get)
            have hpx : poV (fP a0) (vgetT g2 (2, 0)) = x := by rw [← hx]; exact get_get
            have hO3 := hO.still k3 (fun b e => by rw [e]; exact hL.2.2.2.2.1)
            have hs3 := k3.size
            have hz3 : wL.heap.size ≤ w3.heap.size := hO3.kept.size
            clear hG hV hO k3 hx
            generalize vgetT g2 (2, 0) = g3 at *
            obtain ⟨PB, hPB⟩ : ∃ PB : Nat, w3.heap.size = PB := ⟨_, rfl⟩
            obtain ⟨w4, h4⟩ : ∃ w4, w3.alloc (.cells (vc x).toArray 51) = w4 := ⟨_, rfl⟩
            have k4 : Kept (fun _ => False) w3 w4 := by subst h4; exact (Kept.refl _ _).alloc _
            have b4 : w4.heap[PB]? = some (.cells (vc x).toArray 51 (0, 0)) := by subst h4; exact alloc_at' _ hPB
            go_upto_region 26 with (first | (refine list_wnew rfl wide_V _ _ rfl PB rfl (vc x) rfl _ rfl hPB rfl (vc_one _) ?_))
            try rw [h4]
            clear h4
            obtain ⟨OB, hOB⟩ : ∃ OB : Nat, w4.heap.size = OB := ⟨_, rfl⟩
            obtain ⟨w5, h5⟩ : ∃ w5, w4.alloc (.map #[] 0) = w5 := ⟨_, rfl⟩
            have k5 : Kept (fun _ => False) w4 w5 := by subst h5; exact (Kept.refl _ _).alloc _
            have hmk : (Instr.makeMap 55 none).run Tryd.prog w4 = .ok (.map (some OB)) w5 := by rw [← hOB, ← h5]; rfl
            have hC5 : Hid (∃ o g, CntS a0 w wL T p B q N PB OB (.slice ao2 nW c2) P2 W2 x o g w5 ∧ OcN o (preP P2 0)) := by
              refine ⟨fun _ => none, g3, ?_, ocn_nil⟩
              have k35 := k4.thru k5
              exact {
                side := h3.still k35
                v := hV3
                own := hO3.still (k35.mono (Y := fun b => b = N) (fun _ _ e => e.elim)) (fun b e => by have := hL.2.2.2.2.1; omega)
                pb := k5.at b4 (fun e => e)
                m := by rw [← h5]; exact MapIn.made hOB
                low := hL
                pl := ⟨by have := lt_at b4; omega, by omega⟩
                ub := fun k e => by have := hub k e; omega
                px := hpx }
            clear h3 hV3 hO3 b4 k4 k5 hpx hub hs3 hz3 hPB hOB h5 hL
            go_wp2_with fail
            go_loopw [18] (fun v wr => ∃ j : Nat, v = .int .i64 j ∧ j ≤ 2 ∧ Hid (∃ o g, CntS a0 w wL T p B q N PB OB (.slice ao2 nW c2) P2 W2 x o g wr ∧ OcN o (preP P2 j))) (fun v _ => 2 - (intOf v).toNat)
            case atStart => exact ⟨0, rfl, by omega, hC5.out⟩
            case round =>
              clear hC5 hmk
              obtain ⟨j, rfl, hj, HC⟩ := hrel
              by_cases hj2 : j < 2
              · have hlt : (j : Int) < 2 := by omega
                as_aux_lemma =>
                obtain ⟨o, g, hC, ho⟩ := HC.out
                clear HC
                go_wp2_with fail
                refine (sg_vget hC.side 12 (j : Int)).mono ?_
                rintro e w6 ⟨rfl, h6, k6⟩
                have C6 := hC.look h6 (fun i => get_get) k6
                have hms : bl (vgetF (fP a0) g (12, (j : Int))).s = List.replicate (16 * (P2 j).length) 0 := hC.v.m j hj2
                generalize vgetF (fP a0) g (12, (j : Int)) = mv at *
                generalize vgetT g (12, (j : Int)) = g6 at *
                clear hC h6 k6
                have hf := field_s mv
                obtain ⟨t, ht⟩ : ∃ t, mv.s = t := ⟨_, rfl⟩
                rw [ht] at hf hms
                clear ht
                obtain ⟨m, hm⟩ : ∃ m, (P2 j).length = m := ⟨_, rfl⟩
                have hm6 : m ≤ 6 := by rw [← hm]; exact C6.v.six j hj2
                rw [hm] at hms
                have hts : t.size = 16 * m := by rw [size_bl, hms, List.length_replicate]
                have lOB : OB < w6.heap.size := C6.m.lt
                go_wp2_with fail
                refine (S.pagesC C6.side (j : Int)).mono ?_
                rintro e w7 ⟨vs, rfl, -, xs, ys, h7, k7⟩
                have C7 := C6.look h7 (get_pgT (j : Int)) k7
                rw [C6.v.pages hj2] at xs
                generalize pgT (fP a0) g6 (j : Int) = g7 at *
                have hlen : ∃ a1 c1, vs = .slice a1 m c1 := by
                  rcases xs.form with ⟨b, o, c, rfl⟩ | ⟨rfl, hl⟩
                  · exact ⟨_, c, by rw [List.length_map, hm]⟩
                  · have e1 : m = 0 := by rw [← hm, List.map_eq_nil_iff.1 hl]; rfl
                    exact ⟨none, 0, by rw [e1]⟩
                obtain ⟨a1, c1, rfl⟩ := hlen
                obtain ⟨L, hL⟩ : ∃ L : Nat, 16 * m = L := ⟨_, rfl⟩
                rw [hL] at hms hts
                have hLb : L ≤ 96 := by omega
                have hmul : (16 : Int) * (m : Int) = (L : Int) := by omega
                have hwr : IntKind.i64.wrap (L : Int) = (L : Int) := by rw [IntKind.wrap_i64]; omega
                have hteq : (t.size : Int) = (L : Int) := by omega
                have HD : Hid (CntS a0 w wL T p B q N PB OB (.slice ao2 nW c2) P2 W2 x o g7 w7 ∧ OcN o (preP P2 j) ∧ bl t = List.replicate L 0 ∧ t.size = L ∧ m = (P2 j).length) := ⟨C7, ho, hms, hts, hm.symm⟩
                clear C6 C7 h7 k7 xs ys hms hts hL ho lOB hm
                go_wp2_with fail
                go_loopw [20] (fun v wr => ∃ k : Nat, v = .int .i64 k ∧ k ≤ L ∧ wr = w7) (fun v _ => L - (intOf v).toNat)
                case atStart => exact ⟨0, rfl, by omega, rfl⟩
                case round =>
                  obtain ⟨k, rfl, hk, rfl⟩ := hrel
                  by_cases hkl : k < L
                  ·
                    as_aux_lemma =>
                    have hs := HD.out.2.2.2.1
                    have hlt2 : k < t.size := by omega
                    have hlt3 : (k : Int) < (t.size : Int) := by omega
                    have hb := bl_at t hlt2
                    rw [HD.out.2.2.1, List.getElem?_replicate, if_pos hkl] at hb
                    have hx0 : t[k] = 0 := (Option.some.inj hb).symm
                    clear hb hs hmul hwr hteq
                    go_wp2_with fail
                    go_roundw
                    case rel => exact ⟨k + 1, by go_num, by omega, by simp⟩
                    case measure => simp [intOf]; omega
                  ·
                    as_aux_lemma =>
                    have hlt3 : ¬ (k : Int) < (t.size : Int) := by rw [hteq]; omega
                    clear hmul hwr hteq
                    go_wp2_with fail
                    refine (S.pagesC HD.out.1.side (j : Int)).mono ?_
                    rintro e w8 ⟨vs, rfl, -, xs, ys, h8, k8⟩
                    have C8 := HD.out.1.look h8 (get_pgT (j : Int)) k8
                    rw [HD.out.1.v.pages hj2] at xs
                    have hlen : ∃ a1 c1, vs = .slice a1 m c1 := by
                      rcases xs.form with ⟨b, o, c, rfl⟩ | ⟨rfl, hl⟩
                      · exact ⟨_, c, by rw [List.length_map, HD.out.2.2.2.2]⟩
                      · have e1 : m = 0 := by rw [HD.out.2.2.2.2, List.map_eq_nil_iff.1 hl]; rfl
                        exact ⟨none, 0, by rw [e1]⟩
                    obtain ⟨a2, c3, rfl⟩ := hlen
                    have lOB : OB < wr.heap.size := HD.out.1.m.lt
                    have hvb : ∀ b, (Value.slice a2 m c3).ownBlock = some b → OB < b := fun b e => by have := ys b e; omega
                    have hml : Hid (m = (toI (P2 j)).length) := by have h := HD.out.2.2.2.2; show m = _; rw [List.length_map]; exact h
                    have HE : Hid (∃ o, CntS a0 w wL T p B q N PB OB (.slice ao2 nW c2) P2 W2 x o (pgT (fP a0) g7 (j : Int)) w8 ∧ OcN o (preP P2 j ++ (toI (P2 j)).take 0) ∧ SrcI (.slice a2 m c3) (toI (P2 j)) w8) := ⟨_, C8, by rw [List.take_zero, List.append_nil]; exact HD.out.2.1, xs⟩
                    clear HD C8 h8 k8 xs ys lOB hf hlt3
                    generalize pgT (fP a0) g7 (j : Int) = g8 at *
                    go_wp2_with fail
                    go_loopw [181] (fun v wr => ∃ i : Nat, v = .int .i64 i ∧ i ≤ m ∧ Hid (∃ o, CntS a0 w wL T p B q N PB OB (.slice ao2 nW c2) P2 W2 x o g8 wr ∧ OcN o (preP P2 j ++ (toI (P2 j)).take i) ∧ SrcI (.slice a2 m c3) (toI (P2 j)) wr)) (fun v _ => m - (intOf v).toNat)
                    case atStart => exact ⟨0, rfl, by omega, HE.out⟩
                    case round =>
                      clear HE
                      obtain ⟨i, rfl, hi, HF⟩ := hrel
                      by_cases him : i < m
                      ·
                        as_aux_lemma =>
                        obtain ⟨o1, hC, ho1, hx⟩ := HF.out
                        clear HF
                        have hlt4 : (i : Int) < (m : Int) := by omega
                        have hil : i < (toI (P2 j)).length := by have := hml.out; omega
                        obtain ⟨b, off, rfl⟩ : ∃ b off, a2 = some ⟨b, off, none⟩ := by
                          rcases hx.form with ⟨b, o, c, e⟩ | ⟨e, hl⟩
                          · injection e with e1 e2 e3; exact ⟨b, o, e1⟩
                          · rw [hl] at hil; simp at hil
                        have hcl := SrcI.cell hx hil
                        have htk : (toI (P2 j)).take (i + 1) = (toI (P2 j)).take i ++ [zd (toI (P2 j)) i] := by rw [zd_get hil, List.take_succ_eq_append_getElem hil]
                        generalize zd (toI (P2 j)) i = n at *
                        have hlk := look_o hC.m n
                        obtain ⟨w9, hmu, hC9, ho9, k9⟩ := hC.add ho1 n
                        have hle := ho1.le n
                        have hll : (preP P2 j ++ (toI (P2 j)).take i).length ≤ 1000 := by
                          have h1 := preP_len hC.v.six j (by omega)
                          have h2 := List.length_take_le i (toI (P2 j))
                          rw [List.length_append]; omega
                        rw [List.append_assoc, ← htk] at ho9
                        have HN : Hid (∃ o, CntS a0 w wL T p B q N PB OB (.slice ao2 nW c2) P2 W2 x o g8 w9 ∧ OcN o (preP P2 j ++ (toI (P2 j)).take (i + 1)) ∧ SrcI (.slice (some ⟨b, off, none⟩) m c3) (toI (P2 j)) w9) :=
                          ⟨_, hC9, ho9, hx.kept k9 (fun k e c => by have := hvb k e; omega)⟩
                        have hwr : wrap64 ((o1 n).getD 0 + 1) = (o1 n).getD 0 + 1 := by unfold wrap64; omega
                        clear hC hC9 ho9 k9 hx ho1 hle hll htk hil
                        generalize (o1 n).getD 0 = y at *
                        go_wp2_with fail
                        go_roundw
                        case rel => exact ⟨i + 1, by go_num, by omega, HN⟩
                        case measure => simp [intOf]; omega
                      ·
                        as_aux_lemma =>
                        obtain ⟨o1, hC, ho1, -⟩ := HF.out
                        clear HF
                        have hlt4 : ¬ (i : Int) < (m : Int) := by omega
                        have HN : Hid (∃ o g, CntS a0 w wL T p B q N PB OB (.slice ao2 nW c2) P2 W2 x o g wr ∧ OcN o (preP P2 (j + 1))) := by
                          refine ⟨o1, g8, hC, ?_⟩
                          rw [List.take_of_length_le (by have := hml.out; omega)] at ho1
                          exact ho1
                        clear hC ho1
                        go_wp2_with fail
                        exact ⟨⟨j + 1, by go_num, by omega, HN⟩, by simp [intOf]; omega⟩
              · have hlt : ¬ (j : Int) < 2 := by omega
                obtain rfl : j = 2 := by omega
                clear hj hj2
                as_aux_lemma =>
                obtain ⟨o, g, hC, ho⟩ := HC.out
                clear HC
                have hnl : Hid (nW = (toI W2).length) := by show nW = _; rw [List.length_map]; exact hnW.symm
                clear hnW
                have HE : Hid (∃ o, CntS a0 w wL T p B q N PB OB (.slice ao2 nW c2) P2 W2 x o g wr ∧ OcN o (preP P2 2 ++ (toI W2).take 0)) := ⟨o, hC, by rw [List.take_zero, List.append_nil]; exact ho⟩
                clear hC ho
                go_wp2_with fail
                go_loopw [192] (fun v wr => ∃ i : Nat, v = .int .i64 i ∧ i ≤ nW ∧ Hid (∃ o, CntS a0 w wL T p B q N PB OB (.slice ao2 nW c2) P2 W2 x o g wr ∧ OcN o (preP P2 2 ++ (toI W2).take i))) (fun v _ => nW - (intOf v).toNat)
                case atStart => exact ⟨0, rfl, by omega, HE.out⟩
                case round =>
                  clear HE hlt
                  obtain ⟨i, rfl, hi, HF⟩ := hrel
                  by_cases him : i < nW
                  ·
                    as_aux_lemma =>
                    obtain ⟨o1, hC, ho1⟩ := HF.out
                    clear HF
                    have hx := hC.own.src
                    have hlt4 : (i : Int) < (nW : Int) := by omega
                    have hil : i < (toI W2).length := by have := hnl.out; omega
                    obtain ⟨b, off, rfl⟩ : ∃ b off, ao2 = some ⟨b, off, none⟩ := by
                      rcases hx.form with ⟨b, o, c, e⟩ | ⟨e, hl⟩
                      · injection e with e1 e2 e3; exact ⟨b, o, e1⟩
                      · rw [hl] at hil; simp at hil
                    have hcl := SrcI.cell hx hil
                    have htk : (toI W2).take (i + 1) = (toI W2).take i ++ [zd (toI W2) i] := by rw [zd_get hil, List.take_succ_eq_append_getElem hil]
                    generalize zd (toI W2) i = n at *
                    have hlk := look_o hC.m n
                    obtain ⟨w9, hmu, hC9, ho9, k9⟩ := hC.add ho1 n
                    have hle := ho1.le n
                    have hll : (preP P2 2 ++ (toI W2).take i).length ≤ 1000 := by
                      have h1 := preP_len hC.v.six 2 (by omega)
                      have h2 := List.length_take_le i (toI W2)
                      rw [List.length_append]; omega
                    rw [List.append_assoc, ← htk] at ho9
                    have HN : Hid (∃ o, CntS a0 w wL T p B q N PB OB (.slice (some ⟨b, off, none⟩) nW c2) P2 W2 x o g w9 ∧ OcN o (preP P2 2 ++ (toI W2).take (i + 1))) := ⟨_, hC9, ho9⟩
                    have hwr : wrap64 ((o1 n).getD 0 + 1) = (o1 n).getD 0 + 1 := by unfold wrap64; omega
                    clear hC hC9 ho9 k9 hx ho1 hle hll htk hil
                    generalize (o1 n).getD 0 = y at *
                    go_wp2_with fail
                    go_roundw
                    case rel => exact ⟨i + 1, by go_num, by omega, HN⟩
                    case measure => simp [intOf]; omega
                  ·
                    as_aux_lemma =>
                    obtain ⟨o1, hC, ho1⟩ := HF.out
                    clear HF
                    have hlt4 : ¬ (i : Int) < (nW : Int) := by omega
                    rw [List.take_of_length_le (by have := hnl.out; omega)] at ho1
                    have HE : Hid (∃ o l, CntS a0 w wL T p B q N PB OB (.slice ao2 nW c2) P2 W2 x o g wr ∧ OcN o (preP P2 2 ++ toI W2 ++ toI l) ∧ (∀ y ∈ l, y < 0) ∧ l.length ≤ 0) := ⟨o1, [], hC, by rw [show toI [] = [] from rfl, List.append_nil]; exact ho1, fun y h => by simp at h, Nat.le_refl _⟩
                    clear hC ho1 hi him
                    go_wp2_with fail
                    go_loopw [25] (fun v wr => ∃ k : Nat, v = .int .i64 k ∧ k ≤ 64 ∧ Hid (∃ o l, CntS a0 w wL T p B q N PB OB (.slice ao2 nW c2) P2 W2 x o g wr ∧ OcN o (preP P2 2 ++ toI W2 ++ toI l) ∧ (∀ y ∈ l, y < k) ∧ l.length ≤ k)) (fun v _ => 64 - (intOf v).toNat)
                    case atStart => exact ⟨0, rfl, by omega, HE.out⟩
                    case round =>
                      clear HE hlt4
                      obtain ⟨k, rfl, hk, HF⟩ := hrel
                      by_cases hk64 : k < 64
                      ·
                        as_aux_lemma =>
                        obtain ⟨o1, l, hC, ho1, hly, hll⟩ := HF.out
                        clear HF
                        have hlt5 : (k : Int) < 64 := by omega
                        have c0 : wr.cell? ⟨PB, 0, none⟩ = some (.int .i64 x.n0) := cell_at hC.pb rfl
                        have hcnt := own_count hC.v ho1 hly hk64
                        rw [hC.px] at hcnt
                        have ha1 := and_one (x.n0 / 2 ^ k)
                        have ha2 := and_one (a0 / 2 ^ k)
                        rw [bit_mod] at ha1 ha2
                        have hlk := look_o hC.m (k : Int)
                        have hwr : wrap64 ((o1 (k : Int)).getD 0 + 1) = (o1 (k : Int)).getD 0 + 1 := by
                          have h1 := Bool.toNat_le (hbN x.n0 k)
                          have h2 := Bool.toNat_le (hbN a0 k)
                          unfold wrap64; omega
                        cases hb : hbN x.n0 k with
                        | true =>
                          rw [hb] at ha1 hcnt
                          obtain ⟨w9, hmu, hC9, ho9, -⟩ := hC.add ho1 (k : Int)
                          have hlk9 := fun n => look_o (hC9.still (kept_drewN w9 n)).m (k : Int)
                          have hu : (upd o1 (k : Int) ((o1 (k : Int)).getD 0 + 1) (k : Int)).getD 0 = (o1 (k : Int)).getD 0 + 1 := by unfold upd; rw [if_pos rfl]; rfl
                          simp only [hu] at hlk9
                          have HN : Hid (∀ m, ∃ o l, CntS a0 w wL T p B q N PB OB (.slice ao2 nW c2) P2 W2 x o g (w9.drewN m) ∧ OcN o (preP P2 2 ++ toI W2 ++ toI l) ∧ (∀ y ∈ l, y < k + 1) ∧ l.length ≤ k + 1) := by
                            intro m
                            refine ⟨_, l ++ [k], hC9.still (kept_drewN _ _), ?_, fun y hy => ?_, ?_⟩
                            · rw [show toI (l ++ [k]) = toI l ++ [(k : Int)] from List.map_append, ← List.append_assoc]; exact ho9
                            · rcases List.mem_append.1 hy with h | h
                              · have := hly y h; omega
                              · rw [List.mem_singleton] at h; omega
                            · rw [List.length_append]; exact Nat.succ_le_succ hll
                          replace hcnt : ((hbN a0 k).toNat : Int) = (o1 (k : Int)).getD 0 + 1 := hcnt.symm
                          rw [hcnt] at ha2
                          clear hC hC9 ho9 ho1 hly hll hcnt hu hb
                          generalize (o1 (k : Int)).getD 0 = y at *
                          go_wp2_with fail
                          go_quiet (fail)
                          go_wp2
                          go_roundw
                          case rel => exact ⟨k + 1, by go_num, by omega, HN.out _⟩
                          case measure => simp [intOf]; omega
                        | false =>
                          rw [hb] at ha1 hcnt
                          have hlk9 := fun n => look_o (hC.still (kept_drewN wr n)).m (k : Int)
                          have HN : Hid (∀ m, ∃ o l, CntS a0 w wL T p B q N PB OB (.slice ao2 nW c2) P2 W2 x o g (wr.drewN m) ∧ OcN o (preP P2 2 ++ toI W2 ++ toI l) ∧ (∀ y ∈ l, y < k + 1) ∧ l.length ≤ k + 1) :=
                            fun m => ⟨_, l, hC.still (kept_drewN _ _), ho1, fun y hy => by have := hly y hy; omega, by omega⟩
                          replace hcnt : ((hbN a0 k).toNat : Int) = (o1 (k : Int)).getD 0 := by rw [← hcnt]; show _ + ((0 : Nat) : Int) = _; omega
                          rw [hcnt] at ha2
                          clear hC ho1 hly hll hcnt hb
                          generalize (o1 (k : Int)).getD 0 = y at *
                          go_wp2_with fail
                          go_quiet (fail)
                          go_wp2
                          go_roundw
                          case rel => exact ⟨k + 1, by go_num, by omega, HN.out _⟩
                          case measure => simp [intOf]; omega
                      ·
                        as_aux_lemma =>
                        have hlt5 : ¬ (k : Int) < 64 := by omega
                        have HN : Hid (∃ P' W' g', OwnS a0 w wL T p B q N (.slice ao2 nW c2) P' W' g' wr ∧ W'.length ≤ 6 * (r + 1)) := by
                          obtain ⟨o1, l, hC, -⟩ := HF.out
                          exact ⟨P2, W2, g, ⟨hC.side, hC.v, hC.own, hC.low⟩, hWr⟩
                        clear HF
                        go_wp2_with fail
                        go_roundw
                        case rel => exact ⟨r + 1, by go_num, by have := HR9.out; omega, by have := HR9.out; omega, HN⟩
                        case measure => have := HR9.out; simp [intOf]; omega
      | false =>
        as_aux_lemma =>
        have HK : Hid (Kept (fun _ => False) w wc) := by obtain ⟨P, W, g, hS, -⟩ := HH.out; exact hS.1.kept
        clear HH hz hr1 hr2 hao HC
        go_wp2_with fail
        refine (runs_of S wc (HT.out.still HK.out)).mono ?_
        rintro e w2 ⟨rfl, hk⟩
        have HZ : Hid (Kept (fun _ => False) w w2) := HK.out.thru hk
        clear HK hk
        go_wp2_with fail
        go_ret
        exact ⟨rfl, HZ.out⟩
end Go.Proofs.YtbhpkjedkccdpaaDoor
