
/- What a view's Redo does when it is called; no conditions. -/
import Derived.Test.YtkpcillgoeidaaaWRow
namespace Go.Proofs.Ytkpcillgoeidaaa
open Go.RowKit
set_option maxRecDepth 100000
set_option linter.unusedSimpArgs false

theorem OwnR.base {α : Type} {cs : α → List Value} {n : Nat} {ty : TypeId} {w0 w1 w : World} {v : Value} {l : List α} (h : OwnR cs n ty w1 v l w) (hk : Kept (fun _ => False) w0 w1) : OwnR cs n ty w0 v l w := by
  refine ⟨hk.thru h.kept, h.own.1, ?_⟩
  rcases h.own.2 with hn | ⟨g, cap, cur, rfl, hb, rest⟩
  · exact .inl hn
  · exact .inr ⟨g, cap, cur, rfl, Nat.le_trans hk.size hb, rest⟩

def redoF (g : VwF) : Ws := (wroteF g).map fun k => (k, (noteF g k).2.2)

theorem redo_step {g : VwF} {l : Ks} {i : Nat} (hi : i < l.length) : ((l.take (i + 1)).map fun k => (k, (noteF g k).2.2)) = ((l.take i).map fun k => (k, (noteF g k).2.2)) ++ [(kd l i, (noteF g (kd l i)).2.2)] := by
  rw [List.take_succ_eq_append_getElem hi, List.map_append, kd_get hi]; rfl

set_option maxHeartbeats 2000000 in
theorem redo_w (q N p : Nat) (g : VwF) (w : World) (h : ViewIn q N p g w) : Calls Try.prog 51 #[.pointer (some ⟨q, 0, none⟩)] w fun e w' => ∃ v, e = .returned v ∧ OwnW w v (redoF g) w' := by
  have T := those_w wroteT 74 q N p g w h redo1_w Try.call74
  go_enter Try.func51, Try.ntmps51
  go_wp2_with fail
  refine T.mono ?_
  rintro e w1 ⟨tv, rfl, ho⟩
  clear T
  have HK0 : Hid (Kept (fun _ => False) w w1) := ho.kept
  have HH : Hid (ViewIn q N p g w1) := h.still ho.kept
  have hlen : (wroteF g).length ≤ 55 := upto_len _ _
  obtain ⟨ao, b, o, c, rfl, -, hao, hc⟩ := ho.src
  have HC : Hid _ := hc
  have HO : Hid (OwnW w1 (.slice none 0 0) (((wroteF g).take 0).map fun k => (k, (noteF g k).2.2)) w1) := OwnR.nil 66 w1
  clear hc ho h
  have HE : Hid (redoF g = (wroteF g).map fun k => (k, (noteF g k).2.2)) := rfl
  have hao' : 0 < (wroteF g).length → ao = some ⟨b, o, none⟩ := hao
  rw [show upto (isF wroteT g) 55 = wroteF g from rfl] at *
  generalize wroteF g = L at *
  clear hao
  obtain ⟨n, hn⟩ : ∃ n : Nat, L.length = n := ⟨_, rfl⟩
  rw [hn] at hao' hlen
  simp only [hn]
  go_wp2
  go_loopw [3, 9] (fun v s wr => ∃ i : Nat, s = .int .i64 i ∧ i ≤ n ∧ Hid (OwnW w1 v ((L.take i).map fun k => (k, (noteF g k).2.2)) wr)) (fun _ s _ => n - (intOf s).toNat)
  case atStart => exact ⟨0, rfl, Nat.zero_le _, HO.out⟩
  case round =>
    obtain ⟨i, rfl, hi, HR⟩ := hrel
    clear HO
    by_cases hlt : i < n
    · have t1 : (i : Int) < (n : Int) := by omega
      obtain ⟨c0, c1⟩ := HC.out i (by omega)
      replace c0 := HR.out.kept.cell c0 (fun x => x)
      replace c1 := HR.out.kept.cell c1 (fun x => x)
      obtain rfl := hao' (by omega)
      obtain ⟨⟨kx, ky⟩, hkk⟩ : ∃ k, kd L i = k := ⟨_, rfl⟩
      have HT : Hid _ := redo_step (g := g) (l := L) (i := i) (by omega)
      rw [hkk] at c0 c1 HT
      simp only at c0 c1
      obtain ⟨D, hD⟩ : ∃ D : Nat, wr.heap.size = D := ⟨_, rfl⟩
      have tb : b < D := by have := World.block_lt_of_cell? _ _ c0; simpa [hD] using this
      have HLN : Hid (L.length = n) := hn
      clear hn
      go_wp2_with fail
      obtain ⟨wA, hA⟩ : ∃ wA, wr.alloc (.cells #[.int .i64 kx, .int .i64 ky] 61) = wA := ⟨_, rfl⟩
      have hkA : Kept (fun _ => False) wr wA := by subst hA; exact (Kept.refl _ _).alloc _
      have hK : wA.heap[D]? = some (.cells #[.int .i64 kx, .int .i64 ky] 61 (0, 0)) := by subst hA; exact alloc_at' _ hD
      rw [hA]
      clear hA c0 c1
      have HO := HR.out.still hkA
      have h1 := HH.out.still HO.kept
      have hoff : ∀ m, u3.ownBlock = some m → w1.heap.size ≤ m := fun m hm => (HO.own.lt m hm).1
      have hq : q < w1.heap.size := lt_at HH.out.cell
      have hN : N < w1.heap.size := HH.out.map.lt
      have hDo : u3.ownBlock ≠ some D := row_off HO.own hK (by decide)
      have nq : ¬ u3.ownBlock = some q := fun e => by have := hoff _ e; omega
      have nN : ¬ u3.ownBlock = some N := fun e => by have := hoff _ e; omega
      have KS : ∀ w', Kept (fun m => u3.ownBlock = some m) wA w' → (w'.cell? ⟨q, 1, none⟩ = some (.map (some N)) ∧ w'.cell? ⟨D, 0, none⟩ = some (.int .i64 kx) ∧ w'.cell? ⟨D, 1, none⟩ = some (.int .i64 ky)) :=
        fun w' hk' => ⟨hk'.cell (cell_at h1.cell rfl) nq, hk'.cell (cell_at hK rfl) hDo, hk'.cell (cell_at hK rfl) hDo⟩
      have KM : ∀ w', Kept (fun m => u3.ownBlock = some m) wA w' → (Instr.lookup 107 (.map (some N)) (kv (kx, ky)) false).run Try.prog w' = .ok (ntv (noteF g (kx, ky))) w' := fun w' hk' => look_n (h1.map.kept hk' nN) (kx, ky)
      generalize hnote : noteF g (kx, ky) = t at *
      refine wp_region_held_drew (S := fun w' => Kept (fun m => u3.ownBlock = some m) wA w') (by kernel_rfl) ((Kept.refl _ _).drew) (fun hHeld => ?_)
      refine h_take 0 (some 13) (Op.move (Operand.tmp 3)) 39 ?v1 rfl rfl (by kernel_rfl) (by kernel_rfl) (by kernel_rfl) (fun _ _ _ h => h) ?hy1 hHeld ?_
      case hy1 => (intro _ _ _ w hSw; have hcs := KS _ hSw; go_simp; try with_reducible rfl)
      simp only [Act.put, List.setIfInBounds_toArray, List.set_cons_zero, List.set_cons_succ]
      refine h_take 1 (some 14) (Op.load 61 (Operand.tmp 5)) 61 ?v2 rfl rfl (by kernel_rfl) (by kernel_rfl) (by kernel_rfl) (fun _ _ _ h => h) ?hy2 hHeld ?_
      case hy2 => (intro _ _ _ w hSw; have hcs := KS _ hSw; go_simp; try with_reducible rfl)
      simp only [Act.put, List.setIfInBounds_toArray, List.set_cons_zero, List.set_cons_succ]
      refine h_take 2 (some 15) (Op.move (Operand.tmp 0)) 27 ?v3 rfl rfl (by kernel_rfl) (by kernel_rfl) (by kernel_rfl) (fun _ _ _ h => h) ?hy3 hHeld ?_
      case hy3 => (intro _ _ _ w hSw; have hcs := KS _ hSw; go_simp; try with_reducible rfl)
      simp only [Act.put, List.setIfInBounds_toArray, List.set_cons_zero, List.set_cons_succ]
      refine h_take 3 (some 16) (Op.nilCheck (Operand.tmp 15)) 0 ?v4 rfl rfl (by kernel_rfl) (by kernel_rfl) (by kernel_rfl) (fun _ _ _ h => h) ?hy4 hHeld ?_
      case hy4 => (intro _ _ _ w hSw; have hcs := KS _ hSw; go_simp; try with_reducible rfl)
      simp only [Act.put, List.setIfInBounds_toArray, List.set_cons_zero, List.set_cons_succ]
      refine h_take 4 (some 17) (Op.fieldAddr 109 (Operand.tmp 16) 1) 0 ?v5 rfl rfl (by kernel_rfl) (by kernel_rfl) (by kernel_rfl) (fun _ _ _ h => h) ?hy5 hHeld ?_
      case hy5 => (intro _ _ _ w hSw; have hcs := KS _ hSw; go_simp; try with_reducible rfl)
      simp only [Act.put, List.setIfInBounds_toArray, List.set_cons_zero, List.set_cons_succ]
      refine h_take 5 (some 18) (Op.load 107 (Operand.tmp 17)) 107 ?v6 rfl rfl (by kernel_rfl) (by kernel_rfl) (by kernel_rfl) (fun _ _ _ h => h) ?hy6 hHeld ?_
      case hy6 => (intro _ _ _ w hSw; have hcs := KS _ hSw; go_simp; try with_reducible rfl)
      simp only [Act.put, List.setIfInBounds_toArray, List.set_cons_zero, List.set_cons_succ]
      refine h_take 6 (some 19) (Op.load 61 (Operand.tmp 5)) 61 ?v7 rfl rfl (by kernel_rfl) (by kernel_rfl) (by kernel_rfl) (fun _ _ _ h => h) ?hy7 hHeld ?_
      case hy7 => (intro _ _ _ w hSw; have hcs := KS _ hSw; go_simp; try with_reducible rfl)
      simp only [Act.put, List.setIfInBounds_toArray, List.set_cons_zero, List.set_cons_succ]
      refine h_take 7 (some 20) (Op.lookup 107 (Operand.tmp 18) (Operand.tmp 19) false) 106 (ntv t) rfl rfl (by kernel_rfl) (by kernel_rfl) (by kernel_rfl) (fun _ _ _ h => h) (fun _ _ _ w hSw => exec_look rfl rfl (KM w hSw)) hHeld ?_
      simp only [Act.put, List.setIfInBounds_toArray, List.set_cons_zero, List.set_cons_succ]
      refine h_take 8 (some 21) (Op.field 106 (Operand.tmp 20) 2) 64 (vv t.2.2) rfl rfl (by kernel_rfl) (by kernel_rfl) (by kernel_rfl) (fun _ _ _ h => h) (fun _ _ _ w hSw => exec_field rfl (field_last t w)) hHeld ?_
      simp only [Act.put, List.setIfInBounds_toArray, List.set_cons_zero, List.set_cons_succ]
      refine h_take 9 (some 22) (Op.build 66 #[(0, Operand.tmp 14), (1, Operand.tmp 21)]) 66 (wtv ((kx, ky), t.2.2)) rfl rfl (by kernel_rfl) (by kernel_rfl) (by kernel_rfl) (fun _ _ _ h => h) (fun _ _ _ w hSw => exec_build (build_write (kx, ky) t.2.2 w) (by kernel_rfl)) hHeld ?_
      simp only [Act.put, List.setIfInBounds_toArray, List.set_cons_zero, List.set_cons_succ]
      obtain ⟨G, hG⟩ : ∃ G : Nat, wA.heap.size = G := ⟨_, rfl⟩
      have hsl := slice_write ((kx, ky), t.2.2) wA.drew
      refine h_step 10 (some 23) (Op.buildSlice 39 1 #[(0, Operand.tmp 22)]) 39 rfl rfl (by kernel_rfl) (fun _ _ _ K hK => ?_)
      refine wp_yield (exec_slice hsl (by kernel_rfl)) ?_
      have k2 : Kept (fun _ => False) wA (wA.drew.alloc (.cells (wc ((kx, ky), t.2.2)).toArray 66)) := (Kept.refl _ wA).drew.alloc _
      have hw2 : (wA.drew.alloc (.cells (wc ((kx, ky), t.2.2)).toArray 66)).heap[G]? = some (.cells (wc ((kx, ky), t.2.2)).toArray 66 (0, 0)) := alloc_at' _ hG
      rw [show wA.drew.heap.size = G from hG]
      generalize wA.drew.alloc (.cells (wc ((kx, ky), t.2.2)).toArray 66) = w2 at *
      refine hK.out _ _ (k2.mono (fun _ _ e => e.elim)) (fun hHeld => ?_)
      clear hK K
      try simp only [Act.put, List.setIfInBounds_toArray, List.set_cons_zero, List.set_cons_succ]
      refine h_step 11 (some 24) (Op.call { callee := Callee.builtin Builtin.append, args := #[Operand.tmp 13, Operand.tmp 23], argTypes := #[39, 39] }) 39 rfl rfl (by kernel_rfl) (fun _ _ _ K hK => ?_)
      refine wp_appw _ _ rfl w1 ((L.take i).map fun k => (k, (noteF g k).2.2)) [((kx, ky), t.2.2)] (HO.still k2) (SrcR.lone hw2) (by simp; omega) ?_
      intro v' w3 h3 hg3
      have k3 : Kept (fun m => u3.ownBlock = some m) wA w3 := (k2.mono (fun _ _ e => e.elim)).grown hg3 (fun k e _ => e)
      refine hK.out _ _ (k3) (fun hHeld => ?_)
      clear hK K
      try simp only [Act.put, List.setIfInBounds_toArray, List.set_cons_zero, List.set_cons_succ]
      refine h_take 12 (some 3) (Op.assign (Operand.tmp 24)) 39 ?v8 rfl rfl (by kernel_rfl) (by kernel_rfl) (by kernel_rfl) (fun _ _ _ h => h) ?hy8 hHeld ?_
      case hy8 => (intro _ _ _ w hSw; have hcs := KS _ hSw; go_simp; try with_reducible rfl)
      simp only [Act.put, List.setIfInBounds_toArray, List.set_cons_zero, List.set_cons_succ]
      refine wpAnyH_done (by kernel_rfl) ?_ _
      have H3 : Hid (OwnW w1 v' ((L.take (i + 1)).map fun k => (k, (noteF g k).2.2)) w3) := by
        rw [HT.out]; exact h3
      clear hHeld KS KM hsl HO h1 hw2 k2 h3 hg3 k3 hkA hK hDo nq nN
      go_wp2
      go_roundw
      case rel => exact ⟨i + 1, by go_num, by omega, H3.out⟩
      case measure => simp [intOf]; omega
    · obtain rfl : i = n := by omega
      have H3 : Hid (OwnW w u3 (redoF g) wr) := by
        have := HR.out
        rw [List.take_of_length_le (by omega), ← HE.out] at this
        exact this.base HK0.out
      clear HC HR
      go_wp2
      go_ret
      exact ⟨_, rfl, H3.out⟩

set_option maxHeartbeats 800000 in
theorem samew_w (x y : Value) (l : Ws) (hl : l.length ≤ 1000000) (w : World) (h : SrcW x l w) (h' : SrcW y l w) :
    Calls Try.prog 58 #[x, y] w fun e w' => e = .returned (.bool true) ∧ Kept (fun _ => False) w w' := by
  obtain ⟨ao, b, o, c, rfl, -, hao, -, hc⟩ := h
  obtain ⟨bo, b', o', c', rfl, -, hbo, -, hc'⟩ := h'
  obtain ⟨n, hn⟩ : ∃ n : Nat, l.length = n := ⟨_, rfl⟩
  rw [hn] at hl hao hbo
  simp only [hn]
  have HC : Hid _ := hc
  have HC' : Hid _ := hc'
  have HL : Hid (l.length = n) := hn
  clear hc hc' hn
  go_enter Try.func58, Try.ntmps58
  go_wp2
  go_loopw [5] (fun s wr => ∃ i : Nat, s = .int .i64 i ∧ i ≤ n ∧ Kept (fun _ => False) w wr) (fun s _ => n - (intOf s).toNat)
  case atStart => exact ⟨0, rfl, Nat.zero_le _, Kept.refl _ _⟩
  case round =>
    obtain ⟨i, rfl, hi, hk⟩ := hrel
    by_cases hlt : i < n
    · have hli : i < l.length := by have := HL.out; omega
      have r1 := HC.out i _ (List.getElem?_eq_getElem hli)
      have r2 := HC'.out i _ (List.getElem?_eq_getElem hli)
      generalize l[i] = t at r1 r2
      obtain rfl := hao (by omega)
      obtain rfl := hbo (by omega)
      have t1 : (i : Int) < (n : Int) := by omega
      have t0 : (0 : Int) ≤ (i : Int) := by omega
      clear HC HC' hao hbo
      go_wp2_with fail
      have KS : ∀ w', Kept (fun _ => False) wr w' → True := fun _ _ => trivial
      have R1 : ∀ w', Kept (fun _ => False) wr w' → w'.rangeAt b (o + i * 19) (wc t) := fun w' hk' => range_kept r1 (hk.thru hk') (fun x => x)
      have R2 : ∀ w', Kept (fun _ => False) wr w' → w'.rangeAt b' (o' + i * 19) (wc t) := fun w' hk' => range_kept r2 (hk.thru hk') (fun x => x)
      refine wp_region_held_drew (S := fun w' => Kept (fun _ => False) wr w') (by kernel_rfl) ((Kept.refl _ _).drew) (fun hHeld => ?_)
      refine h_take 0 (some 17) (Op.move (Operand.tmp 0)) 39 ?v9 rfl rfl (by kernel_rfl) (by kernel_rfl) (by kernel_rfl) (fun _ _ _ h => h) ?hy9 hHeld ?_
      case hy9 => (intro _ _ _ w hSw; have hcs := KS _ hSw; go_simp; try with_reducible rfl)
      simp only [Act.put, List.setIfInBounds_toArray, List.set_cons_zero, List.set_cons_succ]
      refine h_take 1 (some 18) (Op.move (Operand.tmp 5)) 3 ?v10 rfl rfl (by kernel_rfl) (by kernel_rfl) (by kernel_rfl) (fun _ _ _ h => h) ?hy10 hHeld ?_
      case hy10 => (intro _ _ _ w hSw; have hcs := KS _ hSw; go_simp; try with_reducible rfl)
      simp only [Act.put, List.setIfInBounds_toArray, List.set_cons_zero, List.set_cons_succ]
      refine h_take 2 (some 19) (Op.indexAddr 39 (Operand.tmp 17) (Operand.tmp 18)) 0 ?v11 rfl rfl (by kernel_rfl) (by kernel_rfl) (by kernel_rfl) (fun _ _ _ h => h) ?hy11 hHeld ?_
      case hy11 => (intro _ _ _ w hSw; have hcs := KS _ hSw; go_simp; try with_reducible rfl)
      simp only [Act.put, List.setIfInBounds_toArray, List.set_cons_zero, List.set_cons_succ]
      refine h_take 3 (some 20) (Op.load 66 (Operand.tmp 19)) 66 (wtv t) rfl rfl (by kernel_rfl) (by kernel_rfl) (by kernel_rfl) (fun _ _ _ h => h) (fun _ _ _ w hSw => exec_load rfl (load_wide wide_W (R1 w hSw) rfl)) hHeld ?_
      simp only [Act.put, List.setIfInBounds_toArray, List.set_cons_zero, List.set_cons_succ]
      refine h_take 4 (some 21) (Op.move (Operand.tmp 1)) 39 ?v12 rfl rfl (by kernel_rfl) (by kernel_rfl) (by kernel_rfl) (fun _ _ _ h => h) ?hy12 hHeld ?_
      case hy12 => (intro _ _ _ w hSw; have hcs := KS _ hSw; go_simp; try with_reducible rfl)
      simp only [Act.put, List.setIfInBounds_toArray, List.set_cons_zero, List.set_cons_succ]
      refine h_take 5 (some 22) (Op.move (Operand.tmp 5)) 3 ?v13 rfl rfl (by kernel_rfl) (by kernel_rfl) (by kernel_rfl) (fun _ _ _ h => h) ?hy13 hHeld ?_
      case hy13 => (intro _ _ _ w hSw; have hcs := KS _ hSw; go_simp; try with_reducible rfl)
      simp only [Act.put, List.setIfInBounds_toArray, List.set_cons_zero, List.set_cons_succ]
      refine h_take 6 (some 23) (Op.indexAddr 39 (Operand.tmp 21) (Operand.tmp 22)) 0 ?v14 rfl rfl (by kernel_rfl) (by kernel_rfl) (by kernel_rfl) (fun _ _ _ h => h) ?hy14 hHeld ?_
      case hy14 => (intro _ _ _ w hSw; have hcs := KS _ hSw; go_simp; try with_reducible rfl)
      simp only [Act.put, List.setIfInBounds_toArray, List.set_cons_zero, List.set_cons_succ]
      refine h_take 7 (some 24) (Op.load 66 (Operand.tmp 23)) 66 (wtv t) rfl rfl (by kernel_rfl) (by kernel_rfl) (by kernel_rfl) (fun _ _ _ h => h) (fun _ _ _ w hSw => exec_load rfl (load_wide wide_W (R2 w hSw) rfl)) hHeld ?_
      simp only [Act.put, List.setIfInBounds_toArray, List.set_cons_zero, List.set_cons_succ]
      refine h_take 8 (some 25) (Op.binOp BinOp.neq 66 (Operand.tmp 20) (Operand.tmp 24) 66) 4 (.bool false) rfl rfl (by kernel_rfl) (by kernel_rfl) (by kernel_rfl) (fun _ _ _ h => h) (fun _ _ _ w hSw => exec_neW (a := t) rfl rfl) hHeld ?_
      simp only [Act.put, List.setIfInBounds_toArray, List.set_cons_zero, List.set_cons_succ]
      refine wpAnyH_done (by kernel_rfl) ?_ _
      clear hHeld KS R1 R2
      have hk' : Kept (fun _ => False) w wr.drew := hk.drew
      generalize wr.drew = wd at *
      clear hk r1 r2
      go_wp2
      go_roundw
      case rel => exact ⟨i + 1, by go_num, by omega, hk'⟩
      case measure => simp [intOf]; omega
    · clear HC HC' hao hbo
      go_wp2
      go_ret
      exact ⟨rfl, hk⟩

end Go.Proofs.Ytkpcillgoeidaaa
