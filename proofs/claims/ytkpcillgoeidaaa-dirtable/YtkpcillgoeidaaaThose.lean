
/- What a view's Reads and Foot do when they are called; no conditions. -/
import Derived.Test.YtkpcillgoeidaaaVw
namespace Go.Proofs.Ytkpcillgoeidaaa
open Go.RowKit
set_option maxRecDepth 100000
set_option linter.unusedSimpArgs false

section
variable {ops : Array Oper} {rest : List Oper} {o : Oper} {a : Act} {w : World} {Q : Exit → Act → World → Prop}
/-- A wide load that is wanted. -/
theorem list_gload (hw : Region.wanted o (yielded ops a.tmps) = true) {ty : TypeId} {n : Nat} (W : IsWide ty n) (x : Operand) (ho : o.op = .load ty x) (b off : Nat) (hx : a.eval x = .pointer (some ⟨b, off, none⟩)) (cs : List Value) (hc : w.rangeAt b off cs) (hn : cs.length = n)
    (h : wpList Try.prog ops Q rest (a.put o.dst (.agg cs.toArray)) w) : wpList Try.prog ops Q (o :: rest) a w := by
  obtain ⟨d, hu, hd⟩ := W.desc
  unfold wpList
  rw [if_pos hw]
  exact .inl (wp_load_mid ty x ho b off hx cs d hc hu hd (by rw [hn]; exact W.size) h)
end

def isF (φ : Bool × Bool × V → Bool) (g : VwF) (p : Nat) : Bool := match g (keyAt p) with | some t => φ t | none => false

theorem isF_none {φ : Bool × Bool × V → Bool} {g : VwF} {p : Nat} (h : (g (keyAt p)).isSome = false) : isF φ g p = false := by
  unfold isF
  cases hg : g (keyAt p) with
  | none => rfl
  | some t => rw [hg] at h; cases h

theorem isF_some {φ : Bool × Bool × V → Bool} {g : VwF} {p : Nat} (h : (g (keyAt p)).isSome = true) : isF φ g p = φ (noteF g (keyAt p)) := by
  unfold isF noteF
  cases hg : g (keyAt p) with
  | none => rw [hg] at h; cases h
  | some t => rfl

theorem ntv_is (t : Bool × Bool × V) : ntv t = .agg (nc t).toArray := rfl

theorem reads1_w (t : Bool × Bool × V) (w : World) : Calls Try.prog 77 #[.agg (nc t).toArray] w fun e w' => e = .returned (.bool t.1) ∧ Kept (fun _ => False) w w' := by
  obtain ⟨E, hE⟩ : ∃ E : Nat, w.heap.size = E := ⟨_, rfl⟩
  obtain ⟨wA, hA⟩ : ∃ wA, w.alloc (.cells (nc t).toArray 106) = wA := ⟨_, rfl⟩
  have hn : wA.heap[E]? = some (.cells (nc t).toArray 106 (0, 0)) := by subst hA; exact alloc_at' _ hE
  have hk : Kept (fun _ => False) w wA := by subst hA; exact (Kept.refl _ _).alloc _
  have c0 : wA.cell? ⟨E, 0, none⟩ = some (.bool t.1) := cell_at hn rfl
  go_enter Try.func77, Try.ntmps77
  go_wp2
  go_ret
  exact ⟨rfl, hk⟩

theorem redo1_w (t : Bool × Bool × V) (w : World) : Calls Try.prog 74 #[.agg (nc t).toArray] w fun e w' => e = .returned (.bool t.2.1) ∧ Kept (fun _ => False) w w' := by
  obtain ⟨E, hE⟩ : ∃ E : Nat, w.heap.size = E := ⟨_, rfl⟩
  obtain ⟨wA, hA⟩ : ∃ wA, w.alloc (.cells (nc t).toArray 106) = wA := ⟨_, rfl⟩
  have hn : wA.heap[E]? = some (.cells (nc t).toArray 106 (0, 0)) := by subst hA; exact alloc_at' _ hE
  have hk : Kept (fun _ => False) w wA := by subst hA; exact (Kept.refl _ _).alloc _
  have c0 : wA.cell? ⟨E, 1, none⟩ = some (.bool t.2.1) := cell_at hn rfl
  go_enter Try.func74, Try.ntmps74
  go_wp2
  go_ret
  exact ⟨rfl, hk⟩

set_option maxHeartbeats 2000000 in
theorem those_w (φ : Bool × Bool × V → Bool) (F : FuncId) (q N p : Nat) (g : VwF) (w : World) (h : ViewIn q N p g w)
    (hF : ∀ t w, Calls Try.prog F #[.agg (nc t).toArray] w fun e w' => e = .returned (.bool (φ t)) ∧ Kept (fun _ => False) w w') (hf : ∀ args w, Sem.run Try.prog (callFunc F args) w = .ok (.enter F args) w) :
    Calls Try.prog 73 #[.pointer (some ⟨q, 0, none⟩), .func (.func F) #[] #[]] w fun e w' => ∃ v, e = .returned v ∧ OwnK w v (upto (isF φ g) 55) w' := by
  have HH : Hid (ViewIn q N p g w) := h
  have HO : Hid (OwnK w (.slice none 0 0) (upto (isF φ g) 0) w) := OwnK.nil w
  clear h
  go_enter Try.func73, Try.ntmps73
  go_wp2_with fail
  refine (all_w _).mono ?_
  rintro e w1 ⟨rfl, rfl⟩
  go_wp2
  go_loopw [5, 12] (fun v s wr => ∃ i : Nat, s = .int .i64 i ∧ i ≤ 55 ∧ Hid (OwnK w1 v (upto (isF φ g) i) wr)) (fun _ s _ => 55 - (intOf s).toNat)
  case atStart => exact ⟨0, rfl, Nat.zero_le _, HO.out⟩
  case round =>
    obtain ⟨i, rfl, hi, HR⟩ := hrel
    clear HO
    by_cases hlt : i < 55
    · have t1 : (i : Int) < 55 := by omega
      have hup := upto_len (isF φ g) i
      go_wp2_with fail
      refine (keyat2 i hlt _).mono ?_
      rintro e w2 ⟨rfl, hk⟩
      obtain ⟨⟨kx, ky⟩, hkk⟩ : ∃ k, keyAt (i : Int) = k := ⟨_, rfl⟩
      rw [hkk]
      simp only
      obtain ⟨D, hD⟩ : ∃ D : Nat, w2.heap.size = D := ⟨_, rfl⟩
      obtain ⟨wA, hA⟩ : ∃ wA, w2.alloc (.cells #[.int .i64 kx, .int .i64 ky] 61) = wA := ⟨_, rfl⟩
      have hkA : Kept (fun _ => False) wr wA := by subst hA; exact hk.alloc _
      have hK : wA.heap[D]? = some (.cells #[.int .i64 kx, .int .i64 ky] 61 (0, 0)) := by subst hA; exact alloc_at' _ hD
      have HO := HR.out.still hkA
      have h1 := HH.out.still HO.kept
      go_wp2_with fail
      try rw [hA]
      clear hA hk
      obtain ⟨G, hG⟩ : ∃ G : Nat, wA.heap.size = G := ⟨_, rfl⟩
      have KS : ∀ w', Kept (fun _ => False) wA w' → (w'.cell? ⟨q, 1, none⟩ = some (.map (some N)) ∧ w'.cell? ⟨D, 0, none⟩ = some (.int .i64 kx) ∧ w'.cell? ⟨D, 1, none⟩ = some (.int .i64 ky)) :=
        fun w' hk' => ⟨hk'.cell (cell_at h1.cell rfl) (fun x => x), hk'.cell (cell_at hK rfl) (fun x => x), hk'.cell (cell_at hK rfl) (fun x => x)⟩
      have KM : ∀ w', Kept (fun _ => False) wA w' → (Instr.lookup 107 (.map (some N)) (kv (kx, ky)) true).run Try.prog w' = .ok (.tuple #[ntv (noteF g (kx, ky)), .bool (g (kx, ky)).isSome]) w' := fun w' hk' => look_ok (h1.map.still hk') (kx, ky)
      refine wp_region_held_drew (S := fun w' => Kept (fun _ => False) wA w') (by kernel_rfl) ((Kept.refl _ _).drew) (fun hHeld => ?_)
      refine h_take 0 (some 21) (Op.move (Operand.tmp 0)) 27 ?v1 rfl rfl (by kernel_rfl) (by kernel_rfl) (by kernel_rfl) (fun _ _ _ h => h) ?hy1 hHeld ?_
      case hy1 => (intro _ _ _ w hSw; have hcs := KS _ hSw; go_simp; try with_reducible rfl)
      simp only [Act.put, List.setIfInBounds_toArray, List.set_cons_zero, List.set_cons_succ]
      refine h_take 1 (some 22) (Op.nilCheck (Operand.tmp 21)) 0 ?v2 rfl rfl (by kernel_rfl) (by kernel_rfl) (by kernel_rfl) (fun _ _ _ h => h) ?hy2 hHeld ?_
      case hy2 => (intro _ _ _ w hSw; have hcs := KS _ hSw; go_simp; try with_reducible rfl)
      simp only [Act.put, List.setIfInBounds_toArray, List.set_cons_zero, List.set_cons_succ]
      refine h_take 2 (some 23) (Op.fieldAddr 109 (Operand.tmp 22) 1) 0 ?v3 rfl rfl (by kernel_rfl) (by kernel_rfl) (by kernel_rfl) (fun _ _ _ h => h) ?hy3 hHeld ?_
      case hy3 => (intro _ _ _ w hSw; have hcs := KS _ hSw; go_simp; try with_reducible rfl)
      simp only [Act.put, List.setIfInBounds_toArray, List.set_cons_zero, List.set_cons_succ]
      refine h_take 3 (some 24) (Op.load 107 (Operand.tmp 23)) 107 ?v4 rfl rfl (by kernel_rfl) (by kernel_rfl) (by kernel_rfl) (fun _ _ _ h => h) ?hy4 hHeld ?_
      case hy4 => (intro _ _ _ w hSw; have hcs := KS _ hSw; go_simp; try with_reducible rfl)
      simp only [Act.put, List.setIfInBounds_toArray, List.set_cons_zero, List.set_cons_succ]
      refine h_take 4 (some 25) (Op.load 61 (Operand.tmp 7)) 61 ?v5 rfl rfl (by kernel_rfl) (by kernel_rfl) (by kernel_rfl) (fun _ _ _ h => h) ?hy5 hHeld ?_
      case hy5 => (intro _ _ _ w hSw; have hcs := KS _ hSw; go_simp; try with_reducible rfl)
      simp only [Act.put, List.setIfInBounds_toArray, List.set_cons_zero, List.set_cons_succ]
      refine h_take 5 (some 26) (Op.lookup 107 (Operand.tmp 24) (Operand.tmp 25) true) 129 (.tuple #[ntv (noteF g (kx, ky)), .bool (g (kx, ky)).isSome]) rfl rfl (by kernel_rfl) (by kernel_rfl) (by kernel_rfl) (fun _ _ _ h => h) (fun _ _ _ w hSw => exec_look rfl rfl (KM w hSw)) hHeld ?_
      simp only [Act.put, List.setIfInBounds_toArray, List.set_cons_zero, List.set_cons_succ]
      refine h_take 6 (some 20) (Op.move (Operand.tmp 26)) 129 ?v6 rfl rfl (by kernel_rfl) (by kernel_rfl) (by kernel_rfl) (fun _ _ _ h => h) ?hy6 hHeld ?_
      case hy6 => (intro _ _ _ w hSw; have hcs := KS _ hSw; go_simp; try with_reducible rfl)
      simp only [Act.put, List.setIfInBounds_toArray, List.set_cons_zero, List.set_cons_succ]
      refine h_take 7 (some 27) (Op.extract (Operand.tmp 20) 0) 106 ?v7 rfl rfl (by kernel_rfl) (by kernel_rfl) (by kernel_rfl) (fun _ _ _ h => h) ?hy7 hHeld ?_
      case hy7 => (intro _ _ _ w hSw; have hcs := KS _ hSw; go_simp; try with_reducible rfl)
      simp only [Act.put, List.setIfInBounds_toArray, List.set_cons_zero, List.set_cons_succ]
      refine h_take 8 (some 28) (Op.extract (Operand.tmp 20) 1) 4 ?v8 rfl rfl (by kernel_rfl) (by kernel_rfl) (by kernel_rfl) (fun _ _ _ h => h) ?hy8 hHeld ?_
      case hy8 => (intro _ _ _ w hSw; have hcs := KS _ hSw; go_simp; try with_reducible rfl)
      simp only [Act.put, List.setIfInBounds_toArray, List.set_cons_zero, List.set_cons_succ]
      refine h_step 9 (some 9) (Op.alloc 106) 0 rfl rfl (by kernel_rfl) (fun _ _ _ K hK => ?_)
      refine wp_yield (exec_alloc (cs := nc (false, false, zeroV)) (zero_note _) hG) ?_
      have k2 : Kept (fun _ => False) wA (wA.drew.alloc (.cells (nc (false, false, zeroV)).toArray 106)) := (Kept.refl _ wA).drew.alloc _
      have hF2 : (wA.drew.alloc (.cells (nc (false, false, zeroV)).toArray 106)).heap[G]? = some (.cells (nc (false, false, zeroV)).toArray 106 (0, 0)) := alloc_at' _ hG
      generalize wA.drew.alloc (.cells (nc (false, false, zeroV)).toArray 106) = w3 at *
      refine hK.out _ _ (k2) (fun hHeld => ?_)
      clear hK K
      try simp only [Act.put, List.setIfInBounds_toArray, List.set_cons_zero, List.set_cons_succ]
      refine h_step 10 (none) (Op.store 106 (Operand.tmp 9) (Operand.tmp 27)) 0 rfl rfl (by kernel_rfl) (fun _ _ _ K hK => ?_)
      refine wp_skip (exec_store rfl rfl (store_wide wide_N (old := nc (false, false, zeroV)) (cs := nc (noteF g (kx, ky))) hF2 rfl rfl (nc_one _))) ?_
      have k3 : Kept (fun _ => False) wA (w3.setRow G (nc (noteF g (kx, ky))).toArray) := k2.trans (kept_setRow _ _ _) (fun k h1 h2 => by omega)
      have hF3 := setRow_at hF2 (nc (noteF g (kx, ky))).toArray
      generalize w3.setRow G (nc (noteF g (kx, ky))).toArray = w4 at *
      refine hK.out _ _ (k3) (fun hHeld => ?_)
      clear hK K
      try simp only [Act.put, List.setIfInBounds_toArray, List.set_cons_zero, List.set_cons_succ]
      refine h_take 11 (some 10) (Op.assign (Operand.tmp 28)) 4 ?v9 rfl rfl (by kernel_rfl) (by kernel_rfl) (by kernel_rfl) (fun _ _ _ h => h) ?hy9 hHeld ?_
      case hy9 => (intro _ _ _ w hSw; have hcs := KS _ hSw; go_simp; try with_reducible rfl)
      simp only [Act.put, List.setIfInBounds_toArray, List.set_cons_zero, List.set_cons_succ]
      refine wpAnyH_done (by kernel_rfl) ?_ _
      have H4 : Hid (OwnK w1 u5 (upto (isF φ g) i) w4) := HO.still k3
      have hK4 := k3.at hK (fun x => x)
      have e1 := cell_at hK4 (i := 0) rfl
      have e2 := cell_at hK4 (i := 1) rfl
      have hDG : D < G := by have := lt_at hK; omega
      clear hHeld KS KM hF2 k2 hG HO HR k3 hkA h1 hK
      cases hs : (g (kx, ky)).isSome with
      | false =>
        have HU : Hid (upto (isF φ g) (i + 1) = upto (isF φ g) i) := upto_no (isF_none (by rw [hkk]; exact hs))
        clear hs hF3
        go_wp2
        go_roundw
        case rel => exact ⟨i + 1, by go_num, by omega, by rw [HU.out]; exact H4.out⟩
        case measure => simp [intOf]; omega
      | true =>
        have hI : isF φ g i = φ (noteF g (kx, ky)) := by rw [isF_some (by rw [hkk]; exact hs), hkk]
        generalize noteF g (kx, ky) = t at *
        have hr := whole_range hF3
        go_wp2_with (first | (refine list_gload rfl wide_N _ rfl G 0 rfl (nc t) hr rfl ?_))
        refine (hF t w4).mono ?_
        rintro e w5 ⟨rfl, hk5⟩
        have H5 : Hid (OwnK w1 u5 (upto (isF φ g) i) w5) := H4.out.still hk5
        have hK5 := hk5.at hK4 (fun x => x)
        clear hF3 hr H4 hK4 e1 e2 hs hk5
        have e1 := cell_at hK5 (i := 0) rfl
        have e2 := cell_at hK5 (i := 1) rfl
        cases hφ : φ t with
        | false =>
          have HU : Hid (upto (isF φ g) (i + 1) = upto (isF φ g) i) := upto_no (by rw [hI]; exact hφ)
          clear hφ hI
          go_wp2
          go_roundw
          case rel => exact ⟨i + 1, by go_num, by omega, by rw [HU.out]; exact H5.out⟩
          case measure => simp [intOf]; omega
        | true =>
          have HU : Hid (upto (isF φ g) (i + 1) = upto (isF φ g) i ++ [(kx, ky)]) := by
            show _ = _
            rw [upto_yes (by rw [hI]; exact hφ), hkk]
          clear hφ hI
          obtain ⟨E, hE⟩ : ∃ E : Nat, w5.heap.size = E := ⟨_, rfl⟩
          have HS : Hid _ := H5.out.still ((Kept.refl _ _).alloc (.cells #[.int .i64 kx, .int .i64 ky] 61))
          have HN : Hid (SrcK (.slice (some ⟨E, 0, none⟩) 1 1) [(kx, ky)] (w5.alloc (.cells #[.int .i64 kx, .int .i64 ky] 61))) := SrcK.lone (alloc_at' _ hE)
          clear H5 hK5
          go_wp2_with (at_builtin; refine list_app rfl _ _ rfl w1 _ [(kx, ky)] HS.out HN.out (by simp; omega) ?_; intro v w6 h6 hg6)
          have H6 : Hid (OwnK w1 v (upto (isF φ g) (i + 1)) w6) := by rw [HU.out]; exact h6
          clear h6 hg6 HS HN HU
          go_wp2
          go_roundw
          case rel => exact ⟨i + 1, by go_num, by omega, H6.out⟩
          case measure => simp [intOf]; omega
    · obtain rfl : i = 55 := by omega
      go_wp2
      go_ret
      exact ⟨_, rfl, HR.out⟩

def readT (t : Bool × Bool × V) : Bool := t.1
def wroteT (t : Bool × Bool × V) : Bool := t.2.1
def anyT (_ : Bool × Bool × V) : Bool := true

def readsF (g : VwF) : Ks := upto (isF readT g) 55
def footF (g : VwF) : Ks := upto (isF anyT g) 55
def wroteF (g : VwF) : Ks := upto (isF wroteT g) 55

theorem reads_w (q N p : Nat) (g : VwF) (w : World) (h : ViewIn q N p g w) : Calls Try.prog 56 #[.pointer (some ⟨q, 0, none⟩)] w fun e w' => ∃ v, e = .returned v ∧ OwnK w v (readsF g) w' := by
  have T := those_w readT 77 q N p g w h reads1_w Try.call77
  clear h
  go_enter Try.func56, Try.ntmps56
  go_wp2_with fail
  refine T.mono ?_
  rintro e w1 ⟨v, rfl, ho⟩
  have HO : Hid _ := ho
  clear ho T
  go_wp2
  go_ret
  exact ⟨_, rfl, HO.out⟩

end Go.Proofs.Ytkpcillgoeidaaa
