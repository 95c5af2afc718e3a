
/- What the reference's Redo does when it is called; no conditions. -/
import Derived.Test.YtkpcillgoeidaaaRLs
namespace Go.Proofs.Ytkpcillgoeidaaa
open Go.RowKit
set_option maxRecDepth 100000
set_option linter.unusedSimpArgs false

theorem rlook_w {B : Nat} {g : VwF} {w : World} (hg : ∀ k, (g k).isSome = true → 0 ≤ plc k) (h : MapIn iv vv B (byP (ownOf g)) w) {k : K2} (hk : k ∈ wroteF g) : (Instr.lookup 98 (.map (some B)) (.int .i64 (plc k)) false).run Try.prog w = .ok (vv (noteF g k).2.2) w := by
  rw [rlook_v (own_good hg) h k]
  have := (wrote_mem hg k).1 hk
  unfold lookF ownOf at *
  split at this
  · rename_i h1; rw [if_pos h1]; rfl
  · simp at this

set_option maxHeartbeats 2000000 in
theorem rredo_w (q R W p : Nat) (g : VwF) (w : World) (h : RViewIn q R W p g w) : Calls Try.prog 52 #[.pointer (some ⟨q, 0, none⟩)] w fun e w' => ∃ v, e = .returned v ∧ OwnW w v (redoF g) w' := by
  have T := written_w q R W p g w h
  have hgood := h.good
  go_enter Try.func52, Try.ntmps52
  go_wp2_with fail
  refine T.mono ?_
  rintro e w0 ⟨Bn, rfl, m0, k0, -⟩
  clear T
  have RL := rlist_w Bn _ w0 m0
  rw [wrote_same] at RL
  go_wp2_with fail
  refine RL.mono ?_
  rintro e w1 ⟨tv, rfl, ho⟩
  clear RL m0
  have HK0 : Hid (Kept (fun _ => False) w w1) := k0.thru ho.kept
  have HH : Hid (RViewIn q R W p g w1) := h.still (k0.thru ho.kept)
  have hlen : (wroteF g).length ≤ 55 := upto_len _ _
  obtain ⟨ao, b, o, c, rfl, -, hao, hc⟩ := ho.src
  have HC : Hid _ := hc
  have HO : Hid (OwnW w1 (.slice none 0 0) (((wroteF g).take 0).map fun k => (k, (noteF g k).2.2)) w1) := OwnR.nil 66 w1
  have HMem : Hid (∀ i (hi : i < (wroteF g).length), kd (wroteF g) i ∈ wroteF g) := fun i hi => by rw [kd_get hi]; exact List.getElem_mem hi
  have HLook : Hid (∀ k ∈ wroteF g, ∀ w', MapIn iv vv W (byP (ownOf g)) w' → (Instr.lookup 98 (.map (some W)) (.int .i64 (plc k)) false).run Try.prog w' = .ok (vv (noteF g k).2.2) w') := fun k hk w' hm => rlook_w hgood hm hk
  clear hc ho h k0 hgood
  have HE : Hid (redoF g = (wroteF g).map fun k => (k, (noteF g k).2.2)) := rfl
  generalize wroteF g = L at *
  obtain ⟨n, hn⟩ : ∃ n : Nat, L.length = n := ⟨_, rfl⟩
  rw [hn] at hao hlen
  simp only [hn]
  go_wp2
  go_loopw [3, 10] (fun v s wr => ∃ i : Nat, s = .int .i64 i ∧ i ≤ n ∧ Hid (OwnW w1 v ((L.take i).map fun k => (k, (noteF g k).2.2)) wr)) (fun _ s _ => n - (intOf s).toNat)
  case atStart => exact ⟨0, rfl, Nat.zero_le _, HO.out⟩
  case round =>
    obtain ⟨i, rfl, hi, HR⟩ := hrel
    clear HO
    by_cases hlt : i < n
    · have t1 : (i : Int) < (n : Int) := by omega
      obtain ⟨c0, c1⟩ := HC.out i (by omega)
      replace c0 := HR.out.kept.cell c0 (fun x => x)
      replace c1 := HR.out.kept.cell c1 (fun x => x)
      obtain rfl := hao (by omega)
      have hmem := HMem.out i (by omega)
      obtain ⟨⟨kx, ky⟩, hkk⟩ : ∃ k, kd L i = k := ⟨_, rfl⟩
      have HT : Hid _ := redo_step (g := g) (l := L) (i := i) (by omega)
      rw [hkk] at c0 c1 HT hmem
      simp only at c0 c1
      have HLk : Hid (∀ w', MapIn iv vv W (byP (ownOf g)) w' → (Instr.lookup 98 (.map (some W)) (.int .i64 (plc (kx, ky))) false).run Try.prog w' = .ok (vv (noteF g (kx, ky)).2.2) w') := HLook.out (kx, ky) hmem
      obtain ⟨D, hD⟩ : ∃ D : Nat, wr.heap.size = D := ⟨_, rfl⟩
      have tb : b < D := by have := World.block_lt_of_cell? _ _ c0; simpa [hD] using this
      have HLN : Hid (L.length = n) := hn
      clear hn hmem HMem HLook
      go_wp2_with fail
      obtain ⟨wA, hA⟩ : ∃ wA, wr.alloc (.cells #[.int .i64 kx, .int .i64 ky] 61) = wA := ⟨_, rfl⟩
      have hkA : Kept (fun _ => False) wr wA := by subst hA; exact (Kept.refl _ _).alloc _
      have hK : wA.heap[D]? = some (.cells #[.int .i64 kx, .int .i64 ky] 61 (0, 0)) := by subst hA; exact alloc_at' _ hD
      rw [hA]
      clear hA c0 c1
      have HO := HR.out.still hkA
      have h1 := HH.out.still HO.kept
      have hoff : ∀ m, u3.ownBlock = some m → w1.heap.size ≤ m := fun m hm => (HO.own.lt m hm).1
      have hq : q < w1.heap.size := lt_at HH.out.cell
      have hN : W < w1.heap.size := HH.out.w.lt
      have hDo : u3.ownBlock ≠ some D := row_off HO.own hK (by decide)
      have nq : ¬ u3.ownBlock = some q := fun e => by have := hoff _ e; omega
      have nN : ¬ u3.ownBlock = some W := fun e => by have := hoff _ e; omega
      have KS : ∀ w', Kept (fun m => u3.ownBlock = some m) wA w' → (w'.cell? ⟨q, 2, none⟩ = some (.map (some W)) ∧ w'.cell? ⟨D, 0, none⟩ = some (.int .i64 kx) ∧ w'.cell? ⟨D, 1, none⟩ = some (.int .i64 ky)) :=
        fun w' hk' => ⟨hk'.cell (cell_at h1.cell rfl) nq, hk'.cell (cell_at hK rfl) hDo, hk'.cell (cell_at hK rfl) hDo⟩
      have KM : ∀ w', Kept (fun m => u3.ownBlock = some m) wA w' → (Instr.lookup 98 (.map (some W)) (.int .i64 (plc (kx, ky))) false).run Try.prog w' = .ok (vv (noteF g (kx, ky)).2.2) w' := fun w' hk' => HLk.out _ (h1.w.kept hk' nN)
      generalize hnote : (noteF g (kx, ky)).2.2 = t at *
      refine wp_region_held_drew (S := fun w' => Kept (fun m => u3.ownBlock = some m) wA w') (by kernel_rfl) ((Kept.refl _ _).drew) (fun hHeld => ?_)
      refine h_take 0 (some 14) (Op.move (Operand.tmp 3)) 39 ?v1 rfl rfl (by kernel_rfl) (by kernel_rfl) (by kernel_rfl) (fun _ _ _ h => h) ?hy1 hHeld ?_
      case hy1 => (intro _ _ _ w hSw; have hcs := KS _ hSw; go_simp; try with_reducible rfl)
      simp only [Act.put, List.setIfInBounds_toArray, List.set_cons_zero, List.set_cons_succ]
      refine h_take 1 (some 15) (Op.load 61 (Operand.tmp 5)) 61 ?v2 rfl rfl (by kernel_rfl) (by kernel_rfl) (by kernel_rfl) (fun _ _ _ h => h) ?hy2 hHeld ?_
      case hy2 => (intro _ _ _ w hSw; have hcs := KS _ hSw; go_simp; try with_reducible rfl)
      simp only [Act.put, List.setIfInBounds_toArray, List.set_cons_zero, List.set_cons_succ]
      refine h_take 2 (some 16) (Op.move (Operand.tmp 0)) 29 ?v3 rfl rfl (by kernel_rfl) (by kernel_rfl) (by kernel_rfl) (fun _ _ _ h => h) ?hy3 hHeld ?_
      case hy3 => (intro _ _ _ w hSw; have hcs := KS _ hSw; go_simp; try with_reducible rfl)
      simp only [Act.put, List.setIfInBounds_toArray, List.set_cons_zero, List.set_cons_succ]
      refine h_take 3 (some 17) (Op.nilCheck (Operand.tmp 16)) 0 ?v4 rfl rfl (by kernel_rfl) (by kernel_rfl) (by kernel_rfl) (fun _ _ _ h => h) ?hy4 hHeld ?_
      case hy4 => (intro _ _ _ w hSw; have hcs := KS _ hSw; go_simp; try with_reducible rfl)
      simp only [Act.put, List.setIfInBounds_toArray, List.set_cons_zero, List.set_cons_succ]
      refine h_take 4 (some 18) (Op.fieldAddr 116 (Operand.tmp 17) 2) 0 ?v5 rfl rfl (by kernel_rfl) (by kernel_rfl) (by kernel_rfl) (fun _ _ _ h => h) ?hy5 hHeld ?_
      case hy5 => (intro _ _ _ w hSw; have hcs := KS _ hSw; go_simp; try with_reducible rfl)
      simp only [Act.put, List.setIfInBounds_toArray, List.set_cons_zero, List.set_cons_succ]
      refine h_take 5 (some 19) (Op.load 98 (Operand.tmp 18)) 98 ?v6 rfl rfl (by kernel_rfl) (by kernel_rfl) (by kernel_rfl) (fun _ _ _ h => h) ?hy6 hHeld ?_
      case hy6 => (intro _ _ _ w hSw; have hcs := KS _ hSw; go_simp; try with_reducible rfl)
      simp only [Act.put, List.setIfInBounds_toArray, List.set_cons_zero, List.set_cons_succ]
      refine h_take 6 (some 20) (Op.load 61 (Operand.tmp 5)) 61 ?v7 rfl rfl (by kernel_rfl) (by kernel_rfl) (by kernel_rfl) (fun _ _ _ h => h) ?hy7 hHeld ?_
      case hy7 => (intro _ _ _ w hSw; have hcs := KS _ hSw; go_simp; try with_reducible rfl)
      simp only [Act.put, List.setIfInBounds_toArray, List.set_cons_zero, List.set_cons_succ]
      refine h_step 7 (some 21) (Op.call { callee := Callee.value (Operand.func 62), args := #[Operand.tmp 20], argTypes := #[61] }) 3 rfl rfl (by kernel_rfl) (fun _ _ _ K hK => ?_)
      go_simp
      refine (refplace_w kx ky _).mono ?_
      rintro e wB ⟨rfl, hkB⟩
      have kB : Kept (fun _ => False) wA wB := (Kept.refl _ wA).drew.thru hkB
      go_wp2_with fail
      refine hK.out _ _ (kB.mono (fun _ _ e => e.elim)) (fun hHeld => ?_)
      clear hK K
      try simp only [Act.put, List.setIfInBounds_toArray, List.set_cons_zero, List.set_cons_succ]
      refine h_take 8 (some 22) (Op.lookup 98 (Operand.tmp 19) (Operand.tmp 21) false) 64 (vv t) rfl rfl (by kernel_rfl) (by kernel_rfl) (by kernel_rfl) (fun _ _ _ h => h) (fun _ _ _ w hSw => exec_look rfl rfl (KM w hSw)) hHeld ?_
      simp only [Act.put, List.setIfInBounds_toArray, List.set_cons_zero, List.set_cons_succ]
      refine h_take 9 (some 23) (Op.build 66 #[(0, Operand.tmp 15), (1, Operand.tmp 22)]) 66 (wtv ((kx, ky), t)) rfl rfl (by kernel_rfl) (by kernel_rfl) (by kernel_rfl) (fun _ _ _ h => h) (fun _ _ _ w hSw => exec_build (build_write (kx, ky) t w) (by kernel_rfl)) hHeld ?_
      simp only [Act.put, List.setIfInBounds_toArray, List.set_cons_zero, List.set_cons_succ]
      obtain ⟨G, hG⟩ : ∃ G : Nat, wB.heap.size = G := ⟨_, rfl⟩
      have hsl := slice_write ((kx, ky), t) wB
      refine h_step 10 (some 24) (Op.buildSlice 39 1 #[(0, Operand.tmp 23)]) 39 rfl rfl (by kernel_rfl) (fun _ _ _ K hK => ?_)
      refine wp_yield (exec_slice hsl (by kernel_rfl)) ?_
      have k2 : Kept (fun _ => False) wA (wB.alloc (.cells (wc ((kx, ky), t)).toArray 66)) := kB.alloc _
      have hw2 : (wB.alloc (.cells (wc ((kx, ky), t)).toArray 66)).heap[G]? = some (.cells (wc ((kx, ky), t)).toArray 66 (0, 0)) := alloc_at' _ hG
      rw [show wB.heap.size = G from hG]
      generalize wB.alloc (.cells (wc ((kx, ky), t)).toArray 66) = w2 at *
      refine hK.out _ _ (k2.mono (fun _ _ e => e.elim)) (fun hHeld => ?_)
      clear hK K
      try simp only [Act.put, List.setIfInBounds_toArray, List.set_cons_zero, List.set_cons_succ]
      refine h_step 11 (some 25) (Op.call { callee := Callee.builtin Builtin.append, args := #[Operand.tmp 14, Operand.tmp 24], argTypes := #[39, 39] }) 39 rfl rfl (by kernel_rfl) (fun _ _ _ K hK => ?_)
      refine wp_appw _ _ rfl w1 ((L.take i).map fun k => (k, (noteF g k).2.2)) [((kx, ky), t)] (HO.still k2) (SrcR.lone hw2) (by simp; omega) ?_
      intro v' w3 h3 hg3
      have k3 : Kept (fun m => u3.ownBlock = some m) wA w3 := (k2.mono (fun _ _ e => e.elim)).grown hg3 (fun k e _ => e)
      refine hK.out _ _ (k3) (fun hHeld => ?_)
      clear hK K
      try simp only [Act.put, List.setIfInBounds_toArray, List.set_cons_zero, List.set_cons_succ]
      refine h_take 12 (some 3) (Op.assign (Operand.tmp 25)) 39 ?v8 rfl rfl (by kernel_rfl) (by kernel_rfl) (by kernel_rfl) (fun _ _ _ h => h) ?hy8 hHeld ?_
      case hy8 => (intro _ _ _ w hSw; have hcs := KS _ hSw; go_simp; try with_reducible rfl)
      simp only [Act.put, List.setIfInBounds_toArray, List.set_cons_zero, List.set_cons_succ]
      refine wpAnyH_done (by kernel_rfl) ?_ _
      have H3 : Hid (OwnW w1 v' ((L.take (i + 1)).map fun k => (k, (noteF g k).2.2)) w3) := by
        rw [HT.out]; exact h3
      clear hHeld KS KM hsl HO h1 hw2 k2 h3 hg3 k3 hkA hK hDo nq nN kB hkB
      go_wp2
      go_roundw
      case rel => exact ⟨i + 1, by go_num, by omega, H3.out⟩
      case measure => simp [intOf]; omega
    · obtain rfl : i = n := by omega
      have H3 : Hid (OwnW w u3 (redoF g) wr) := by
        have := HR.out
        rw [List.take_of_length_le (by omega), ← HE.out] at this
        exact this.base HK0.out
      clear HC HR
      go_wp2
      go_ret
      exact ⟨_, rfl, H3.out⟩
end Go.Proofs.Ytkpcillgoeidaaa
