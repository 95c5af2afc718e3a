
/- Rows of bytes of a call's own; the least pages, taken out of a word one by one; no conditions but what is there. -/
import Derived.Test.YtbhpkjedkccdpaaDoorSwA
namespace Go.Proofs.YtbhpkjedkccdpaaDoor
open Go.RowKit
set_option maxRecDepth 100000
set_option linter.unusedSimpArgs false

/-- v has the bytes l, in a block that is younger than the world w0; all else is as it was there. -/
structure OwnY (w0 : World) (v : Value) (l : Bs) (w : World) : Prop where
  kept : Kept (fun _ => False) w0 w
  own : w.ownsRow w0.heap.size 5 1 v l.length (Lib.byteCells l)
section
variable {w0 w w' : World} {v : Value} {l : Bs}
theorem OwnY.nil (w : World) : OwnY w (.slice none 0 0) [] w := ⟨Kept.refl _ _, World.ownsRow_nil _ _ _ _⟩
theorem OwnY.still (h : OwnY w0 v l w) (hk : Kept (fun _ => False) w w') : OwnY w0 v l w' := ⟨h.kept.thru hk, own_kept h.own hk (fun _ _ x => x)⟩
theorem info_u8 : (Tryd.prog.info? 5).map (fun i => (i.zero, i.size, i.bytes)) = some (some (.int .u8 0), 1, 1) := by kernel_rfl
theorem runY_app (ty : TypeId) (h : OwnY w0 v l w) (hl : l.length ≤ 1000000) (b : UInt8) {E : Nat} (hb : w.heap[E]? = some (.cells #[.int .u8 b.toNat] 5 (0, 0))) :
    ∃ v' w', (Builtin.append_ #[59, 59] ty #[v, .slice (some ⟨E, 0, none⟩) 1 1]).run Tryd.prog w = .ok v' w' ∧ OwnY w0 v' (l ++ [b]) w' := by
  obtain ⟨i0, hi, hz0, hz1, hz2⟩ := info_parts info_u8
  obtain ⟨v', w', hr, h2, h3, _, _⟩ := run_append_own_at (P := Tryd.prog) w w0.heap.size 59 ty 5 i0 (.int .u8 0) 1 1 Tryd.underlying59 hi hz0 hz1 hz2 rfl (by decide) v l.length (Lib.byteCells l) h.own ⟨E, 0, none⟩ 1 1 (Lib.byteCells [b]) (by simp [Lib.byteCells])
      (fun j u hu => by
        rw [Addr.add_lit]
        match j, hu with
        | 0, hu => exact cell_at hb (by simpa [Lib.byteCells] using hu))
      (fun u hu => by
        simp only [Lib.byteCells, List.mem_map] at hu
        obtain ⟨y, _, rfl⟩ := hu
        rfl) (by unfold maxLen; omega) (by omega) h.kept.size
  refine ⟨v', w', hr, Kept.trans h.kept (Kept.grown (X := fun k => w0.heap.size ≤ k) (Kept.refl _ w) h3 (fun k e _ => (h.own.lt k e).1)) (fun k hk e => by omega), ?_⟩
  rw [Lib.byteCells_append, List.length_append]
  exact h2
/-- append, at the list of a plain region's operations. -/
theorem listY_app {ops : Array Oper} {rest : List Oper} {o : Oper} {a : Act} {w : World} {Q : Exit → Act → World → Prop}
    (hg : o.guard = none) (s x : Operand) (hop : o.op = Op.call { callee := Callee.builtin Builtin.append, args := #[s, x], argTypes := #[59, 59] })
    (w0 : World) (l : Bs) (h : OwnY w0 (a.eval s) l w) (hl : l.length ≤ 1000000) (b : UInt8) (E : Nat) (hx : a.eval x = .slice (some ⟨E, 0, none⟩) 1 1) (hb : w.heap[E]? = some (.cells #[.int .u8 b.toNat] 5 (0, 0)))
    (hK : ∀ v' w', OwnY w0 v' (l ++ [b]) w' → wpList Tryd.prog ops Q rest (a.put o.dst v') w') : wpList Tryd.prog ops Q (o :: rest) a w :=
  wpList_plain hg fun _ hK' => by
    obtain ⟨v', w', hr, h2⟩ := runY_app o.type h hl b hb
    unfold Oper.wp execOp
    simp only [hop, resolve, invoke, builtin, Sem.run_bind, Sem.run_pure, Result.andThen_ok, List.map_toArray, List.map_cons, List.map_nil, hx, hr]
    exact hK' _ _ (hK v' w' h2)
/-- The text of a row of bytes. -/
theorem OwnY.text (h : OwnY w0 v l w) : (convert 59 9 v).run Tryd.prog w = .ok (.string (bs l)) w := by
  rcases h.own.2 with ⟨rfl, h0⟩ | ⟨g, cap, cur, rfl, hb, hg, hnc, hcm, hcs, htake⟩
  · obtain rfl := List.eq_nil_of_length_eq_zero h0
    kernel_rfl
  · refine run_convert_bytes_back (P := Tryd.prog) w 59 9 5 ⟨g, 0, none⟩ cap l Tryd.underlying59 Tryd.underlying5 Tryd.underlying9 (fun j hj => ?_)
    refine h.own.cells (g := g) rfl j _ ?_
    simp [Lib.byteCells, hj]
end
theorem bytesN_snoc (l : List Nat) (g : Nat) : bytesN (l ++ [g]) = bytesN l ++ [UInt8.ofNat g] := by unfold bytesN; rw [List.map_append]; rfl

set_option maxHeartbeats 1000000 in
theorem take_w (n : Int) (k : Nat) (hk : k ≤ cntB n) (w : World) (ht : TabIn w) : Calls Tryd.prog 32 #[.int .i64 n, .int .i64 k] w
    fun e w' => e = .returned (.tuple #[.string (bs (bytesN (picks n 64 k))), .int .i64 (clrAll n (picks n 64 k))]) ∧ Kept (fun _ => False) w w' := by
  have HT : Hid (TabIn w) := ht
  have H0 : Hid (OwnY w (.slice none 0 0) (bytesN (picks n 64 0)) w) := OwnY.nil w
  have hk64 : k ≤ 64 := Nat.le_trans hk (cntN_le _ _)
  clear ht
  go_enter Tryd.func32, Tryd.ntmps32
  go_wp2_with fail
  go_loopw [0, 6, 7, 9] (fun x u _ v wr => ∃ r : Nat, v = .int .i64 r ∧ r ≤ k ∧ x = .int .i64 (clrAll n (picks n 64 r)) ∧ Hid (OwnY w u (bytesN (picks n 64 r)) wr)) (fun _ _ _ v _ => k - (intOf v).toNat)
  case atStart => exact ⟨0, rfl, by omega, rfl, H0.out⟩
  case round =>
    clear H0
    obtain ⟨r, rfl, hr, rfl, HO⟩ := hrel
    by_cases c : r < k
    · have cI : (r : Int) < (k : Int) := by omega
      obtain ⟨gg, hg64, hp, h1, h0⟩ := picks_next (n := n) (r := r) (by omega)
      obtain ⟨a, ha⟩ : ∃ a, clrAll n (picks n 64 r) = a := ⟨_, rfl⟩
      rw [ha] at h1 h0 ⊢
      have hwz : IntKind.u64.wrap a = (wordN a : Int) := by rw [IntKind.wrap_u64, wordN_int]
      have htz := fun w' (h : TabIn w') => tz_w (n := a) w' h hg64 h1 h0
      have HW : Hid (bytesN (picks n 64 (r + 1)) = bytesN (picks n 64 r) ++ [UInt8.ofNat gg] ∧ clrAll n (picks n 64 (r + 1)) = clrN a (gg : Int)) := ⟨by rw [hp, bytesN_snoc], by rw [hp, clr_next, ha]⟩
      have hcl := clr_w64 a (gg : Int)
      have g256 : (gg : Int) % 256 = (gg : Int) := by omega
      have HG : Hid (gg < 64 ∧ r < k ∧ k ≤ 64 ∧ (UInt8.ofNat gg).toNat = gg) := ⟨hg64, c, hk64, by rw [UInt8.toNat_ofNat']; omega⟩
      clear hp h1 h0 ha hg64 hk hk64 hr
      generalize wordN a = x at *
      go_wp2_with fail
      refine (htz wr (HT.out.still HO.out.kept)).mono ?_
      rintro e w1 ⟨rfl, hw1⟩
      subst hw1
      clear htz hwz
      obtain ⟨E, hE⟩ : ∃ E : Nat, w1.heap.size = E := ⟨_, rfl⟩
      have hb : (w1.alloc (.cells #[.int .u8 gg] 5)).heap[E]? = some (.cells #[.int .u8 (UInt8.ofNat gg).toNat] 5 (0, 0)) := by rw [HG.out.2.2.2]; exact alloc_at' _ hE
      have HS : Hid (OwnY w u6 (bytesN (picks n 64 r)) (w1.alloc (.cells #[.int .u8 gg] 5)) ∧ (w1.alloc (.cells #[.int .u8 gg] 5)).heap[E]? = some (.cells #[.int .u8 (UInt8.ofNat gg).toNat] 5 (0, 0))) := ⟨HO.out.still ((Kept.refl _ _).alloc _), hb⟩
      have hlen : Hid ((bytesN (picks n 64 r)).length ≤ 1000000) := by
        show _ ≤ _
        unfold bytesN
        have := HG.out
        rw [List.length_map, picks_len]; omega
      clear hb HO
      go_wp2_with (at_builtin; refine listY_app rfl _ _ rfl w (bytesN (picks n 64 r)) HS.out.1 hlen.out (UInt8.ofNat gg) E rfl HS.out.2 ?_; intro v w6 h6)
      have HN : Hid (OwnY w v (bytesN (picks n 64 (r + 1))) w6) := by show OwnY _ _ _ _; rw [HW.out.1]; exact h6
      clear h6 HS hlen hE
      refine (sbit_w gg _ HG.out.1).mono ?_
      rintro e w7 ⟨rfl, hw7⟩
      subst hw7
      have hwe : wrap64 ((r : Int) + 1) = ((r + 1 : Nat) : Int) := by have := HG.out; unfold wrap64; omega
      go_wp2
      try rw [hwe]
      refine ⟨⟨r + 1, rfl, by have := HG.out; omega, congrArg (Value.int .i64) HW.out.2.symm, HN.out⟩, ?_⟩
      have := HG.out
      simp [intOf]
      omega
    · have hE : r = k := by omega
      subst hE
      have cI : ¬ (r : Int) < (r : Int) := by omega
      have hcv := HO.out.text
      have HK : Hid (Kept (fun _ => False) w wr) := HO.out.kept
      clear HO
      go_wp2
      exact bodyPost_ret (v := .tuple #[.string (bs (bytesN (picks n 64 r))), .int .i64 (clrAll n (picks n 64 r))]) (by simp [results, Tryd.results32, go_sem]) rfl ⟨rfl, HK.out⟩
end Go.Proofs.YtbhpkjedkccdpaaDoor
