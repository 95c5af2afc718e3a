
/- What the code's open files do when they are called, fourth part: Read, Write, Stat; no conditions but lengths. -/
import Derived.Test.YtdgkhfhlbjpaoaaFiC
namespace Go.Proofs.Ytdgkhfhlbjpaoaa
open Go.RowKit
set_option maxRecDepth 100000
set_option linter.unusedSimpArgs false

set_option maxHeartbeats 1000000 in
theorem inord_w (q N p B : Nat) (f : StF) (g : VwF) (i : Int) (x : V) (n : Int) (w : World) (h : ViewIn q N p g w) (hs : StoreIn p B f w) (hNB : N ≠ B) (hm : Small f g) : Calls Try.prog 39 #[.pointer (some ⟨q, 0, none⟩), .int .i64 i, vv x, .int .i64 n] w
    fun e w' => e = .returned (rdV (inoR f g i x n)) ∧ ViewIn q N p (inoR f g i x n).g w' ∧ Kept (fun n => n = N) w w' := by
  have hN : N < w.heap.size := h.map.lt
  have hq : q < w.heap.size := lt_at h.cell
  have hpN : p ≠ N := h.map.off hs.cell
  have hsk : ∀ w', Kept (fun n => n = N) w w' → StoreIn p B f w' := fun w' hk => hs.kept hk hpN (fun e => hNB e.symm)
  obtain ⟨F, hF⟩ : ∃ F : Nat, w.heap.size = F := ⟨_, rfl⟩
  obtain ⟨w1, h1⟩ : ∃ w1, w.alloc (.cells (vc x).toArray 51) = w1 := ⟨_, rfl⟩
  have hF4 : w1.heap[F]? = some (.cells (vc x).toArray 51 (0, 0)) := by subst h1; exact alloc_at' _ hF
  have hk1 : Kept (fun _ => False) w w1 := by subst h1; exact (Kept.refl _ _).alloc _
  have c2 : w1.cell? ⟨F, 2, none⟩ = some (.int .i64 x.n2) := cell_at hF4 rfl
  have hv1 := h.still hk1
  have hs1 := hs.still hk1
  have K1 : Kept (fun n => n = N) w w1 := hk1.mono (fun _ _ e => e.elim)
  have hff := find_find f g x.n2 x.n2
  have hfa := find_again g x.n2
  have hsz : (findV f g x.n2).s.size ≤ 1000000 := by have := hm.found x.n2; omega
  have hcs : (conV f (findT g x.n2)).s.size ≤ 200 := (hm.find x.n2).val (11, 0)
  have lF1 : F < w1.heap.size := lt_at hF4
  clear h hs
  cases hP : isI f g x.n2 with
  | false =>
    have HE : Hid (inoR f g i x n = ⟨ByteArray.empty, 1, findT g x.n2⟩) := by show _ = _; unfold inoR; rw [hP]; rfl
    clear hF4
    go_enter Try.func39, Try.ntmps39
    go_wp2_with (first | (refine list_exec rfl rfl (exec_box (cs := (vc x).toArray) hF rfl) ?_))
    refine (is_w q N p B f g x.n2 w1 hv1 hs1 hNB).mono ?_
    rintro e w2 ⟨rfl, hv2, hk2⟩
    rw [hP]
    have K2 := K1.trans hk2 (fun _ _ e => e)
    clear hv1 hs1 hsk hff hfa
    go_wp2_with fail
    exact bodyPost_ret (v := .tuple #[.string ⟨#[]⟩, .int .i64 1]) (by simp [results, Try.results39, go_sem]) rfl ⟨by rw [HE.out]; rfl, by rw [HE.out]; exact hv2, K2⟩
  | true =>
    by_cases h3 : (findV f g x.n2).n0 = 3
    · have HE : Hid (inoR f g i x n = coR f (findT g x.n2) n) := by show _ = _; unfold inoR; rw [hP, if_pos rfl, if_pos h3]
      have t3 : ((findV f g x.n2).n0 == 3) = true := by simpa using h3
      clear hF4
      go_enter Try.func39, Try.ntmps39
      go_wp2_with (first | (refine list_exec rfl rfl (exec_box (cs := (vc x).toArray) hF rfl) ?_))
      refine (is_w q N p B f g x.n2 w1 hv1 hs1 hNB).mono ?_
      rintro e w2 ⟨rfl, hv2, hk2⟩
      rw [hP]
      have K2 := K1.trans hk2 (fun _ _ e => e)
      go_wp2_with fail
      refine (type_w q N p B f (findT g x.n2) x.n2 w2 hv2 (hsk _ K2) hNB).mono ?_
      rintro e w3 ⟨rfl, hv3, hk3⟩
      rw [hff]
      rw [hfa] at hv3
      have K3 := K2.trans hk3 (fun _ _ e => e)
      clear hv1 hs1 hff hfa hv2 h3
      go_wp2_with fail
      refine (cord_w q N p B f (findT g x.n2) n w3 hv3 (hsk _ K3) hNB hcs).mono ?_
      rintro e w4 ⟨rfl, hv4, hk4⟩
      have HZ : Hid (ViewIn q N p (inoR f g i x n).g w4 ∧ Kept (fun n => n = N) w w4) := ⟨by rw [HE.out]; exact hv4, K3.trans hk4 (fun _ _ e => e)⟩
      have HR : Hid (rdV (inoR f g i x n) = .tuple #[.string (coR f (findT g x.n2) n).s, .int .i64 (coR f (findT g x.n2) n).k]) := by show _ = _; rw [HE.out]; rfl
      clear hv3 hv4 hk4 hsk HE
      unfold rdV
      generalize (coR f (findT g x.n2) n).s = s0 at *
      generalize (coR f (findT g x.n2) n).k = k0 at *
      go_wp2_with fail
      exact bodyPost_ret (v := .tuple #[.string s0, .int .i64 k0]) (by simp [results, Try.results39, go_sem]) rfl ⟨by rw [← HR.out], HZ.out⟩
    · have HE : Hid (inoR f g i x n = ⟨partF (findV f g x.n2).s x.n3 n, 0, vputT (findT g x.n2) (6, i) (adv x ((partF (findV f g x.n2).s x.n3 n).size : Nat))⟩) := by show _ = _; unfold inoR; rw [hP, if_pos rfl, if_neg h3]
      have t3 : ((findV f g x.n2).n0 == 3) = false := by simpa using h3
      have c3 : w1.cell? ⟨F, 3, none⟩ = some (.int .i64 x.n3) := cell_at hF4 rfl
      go_enter Try.func39, Try.ntmps39
      go_wp2_with (first | (refine list_exec rfl rfl (exec_box (cs := (vc x).toArray) hF rfl) ?_))
      refine (is_w q N p B f g x.n2 w1 hv1 hs1 hNB).mono ?_
      rintro e w2 ⟨rfl, hv2, hk2⟩
      rw [hP]
      have K2 := K1.trans hk2 (fun _ _ e => e)
      go_wp2_with fail
      refine (type_w q N p B f (findT g x.n2) x.n2 w2 hv2 (hsk _ K2) hNB).mono ?_
      rintro e w3 ⟨rfl, hv3, hk3⟩
      rw [hff]
      rw [hfa] at hv3
      have K3 := K2.trans hk3 (fun _ _ e => e)
      have c33 := (hk2.trans hk3 (fun _ _ e => e)).cell c3 (by show ¬ F = N; omega)
      have hF33 := (hk2.trans hk3 (fun _ _ e => e)).at hF4 (by show ¬ F = N; omega)
      clear hv1 hs1 hv2 h3 hF4 c2 c3 hk1 hk2 hk3 h1
      go_wp2_with fail
      refine (read_w q N p B f (findT g x.n2) x.n2 x.n3 n w3 hv3 (hsk _ K3) hNB (by rw [hff]; exact hsz)).mono ?_
      rintro e w4 ⟨rfl, hv4, hk4⟩
      rw [hff]
      rw [hfa] at hv4
      have K4 := K3.trans hk4 (fun _ _ e => e)
      have hF44 := hk4.at hF33 (by show ¬ F = N; omega)
      clear hF33 c33 hv3 hff hfa hk4 hsz hcs hm t3
      generalize partF (findV f g x.n2).s x.n3 n = d at *
      have c3 : w4.cell? ⟨F, 3, none⟩ = some (.int .i64 x.n3) := cell_at hF44 rfl
      have f3 := free_at hF44 3
      have hFy : (w4.setCell ⟨F, 3, none⟩ (.int .i64 (wrap64 (x.n3 + (d.size : Nat))))).heap[F]? = some (.cells (vc (adv x (d.size : Nat))).toArray 51 (0, 0)) := by rw [set_at hF44]; rfl
      have k6 : Kept (fun n => n = F) w4 (w4.setCell ⟨F, 3, none⟩ (.int .i64 (wrap64 (x.n3 + (d.size : Nat))))) := by refine Kept.setCell (Kept.refl _ _) ?_ _; intro _; rfl
      go_wp2_with fail
      generalize w4.setCell ⟨F, 3, none⟩ (.int .i64 (wrap64 (x.n3 + (d.size : Nat)))) = w6 at *
      have hv6 := hv4.kept k6 (by omega) (by omega)
      have K6 := K4.trans k6 (fun k h1 h2 => by omega)
      generalize adv x (d.size : Nat) = y at *
      clear c3 f3 hF44 hv4 K4 k6
      have KS : ∀ w', Kept (fun n => n = N) w6 w' → True := fun _ _ => trivial
      have KV : ∀ w', Kept (fun n => n = N) w6 w' → w'.rangeAt F 0 (vc y) := fun w' hk' => range_kept (whole_range hFy) hk' (by omega)
      refine wp_region_held_drew (S := fun w' => Kept (fun n => n = N) w6 w') (by kernel_rfl) ((Kept.refl _ _).drew) (fun hHeld => ?_)
      refine h_take 0 (some 43) (Op.move (Operand.tmp 0)) 25 ?v1 rfl rfl (by kernel_rfl) (by kernel_rfl) (by kernel_rfl) (fun _ _ _ h => h) ?hy1 hHeld ?_
      case hy1 => (intro _ _ _ w hSw; have hcs := KS _ hSw; go_simp; try with_reducible rfl)
      simp only [Act.put, List.setIfInBounds_toArray, List.set_cons_zero, List.set_cons_succ]
      refine h_take 1 (some 44) (Op.move (Operand.tmp 1)) 3 ?v2 rfl rfl (by kernel_rfl) (by kernel_rfl) (by kernel_rfl) (fun _ _ _ h => h) ?hy2 hHeld ?_
      case hy2 => (intro _ _ _ w hSw; have hcs := KS _ hSw; go_simp; try with_reducible rfl)
      simp only [Act.put, List.setIfInBounds_toArray, List.set_cons_zero, List.set_cons_succ]
      refine h_take 3 (some 46) (Op.load 51 (Operand.tmp 6)) 51 (vv y) rfl rfl (by kernel_rfl) (by kernel_rfl) (by kernel_rfl) (fun _ _ _ h => h) (fun _ _ _ w hSw => exec_load rfl (load_wide wide_V (KV w hSw) rfl)) hHeld ?_
      simp only [Act.put, List.setIfInBounds_toArray, List.set_cons_zero, List.set_cons_succ]
      refine h_step 2 (some 45) (Op.call { callee := Callee.value (Operand.func 37), args := #[Operand.tmp 44], argTypes := #[3] }) 54 rfl rfl (by kernel_rfl) (fun _ _ _ K hK => ?_)
      go_simp
      refine (fobject_w i _).mono ?_
      rintro e w7 ⟨rfl, hk7⟩
      replace hk7 : Kept (fun _ => False) w6 w7 := (Kept.refl _ w6).drew.thru hk7
      go_wp2_with fail
      refine hK.out _ _ (hk7.mono (fun _ _ e => e.elim)) (fun hHeld => ?_)
      clear hK K
      try simp only [Act.put, List.setIfInBounds_toArray, List.set_cons_zero, List.set_cons_succ]
      refine h_step 4 (some 47) (Op.call { callee := Callee.value (Operand.func 24), args := #[Operand.tmp 43, Operand.tmp 45, Operand.tmp 46], argTypes := #[25, 54, 51] }) 0 rfl rfl (by kernel_rfl) (fun _ _ _ K hK => ?_)
      go_simp
      refine (vput_w q N p _ 6 i y w7 (hv6.still hk7)).mono ?_
      rintro e w8 ⟨rfl, hv8, hk8⟩
      replace hk8 : Kept (fun n => n = N) w6 w8 := (hk7.mono (fun _ _ e => e.elim)).trans hk8 (fun _ _ e => e)
      go_wp2_with fail
      refine hK.out _ _ (hk8) (fun hHeld => ?_)
      clear hK K
      try simp only [Act.put, List.setIfInBounds_toArray, List.set_cons_zero, List.set_cons_succ]
      refine wpAnyH_done (by kernel_rfl) ?_ _
      have HZ : Hid (ViewIn q N p (inoR f g i x n).g w8 ∧ Kept (fun n => n = N) w w8) := ⟨by rw [HE.out]; exact hv8, K6.trans hk8 (fun _ _ e => e)⟩
      clear hHeld KS KV hk7 hv6 hk8 hv8 hFy K6
      go_wp2_with fail
      exact bodyPost_ret (v := .tuple #[.string d, .int .i64 0]) (by simp [results, Try.results39, go_sem]) rfl ⟨by rw [HE.out]; rfl, HZ.out⟩

set_option maxHeartbeats 1000000 in
theorem inowr_w (q N p B : Nat) (f : StF) (g : VwF) (i : Int) (x : V) (d : ByteArray) (w : World) (h : ViewIn q N p g w) (hs : StoreIn p B f w) (hNB : N ≠ B) (hm : Small f g) (hd : d.size ≤ 1000000) : Calls Try.prog 42 #[.pointer (some ⟨q, 0, none⟩), .int .i64 i, vv x, .string d] w
    fun e w' => e = .returned (wrV (inoW f g i x d)) ∧ ViewIn q N p (inoW f g i x d).g w' ∧ Kept (fun n => n = N) w w' := by
  have hN : N < w.heap.size := h.map.lt
  have hq : q < w.heap.size := lt_at h.cell
  have hpN : p ≠ N := h.map.off hs.cell
  have hsk : ∀ w', Kept (fun n => n = N) w w' → StoreIn p B f w' := fun w' hk => hs.kept hk hpN (fun e => hNB e.symm)
  obtain ⟨F, hF⟩ : ∃ F : Nat, w.heap.size = F := ⟨_, rfl⟩
  obtain ⟨w1, h1⟩ : ∃ w1, w.alloc (.cells (vc x).toArray 51) = w1 := ⟨_, rfl⟩
  have hF4 : w1.heap[F]? = some (.cells (vc x).toArray 51 (0, 0)) := by subst h1; exact alloc_at' _ hF
  have hk1 : Kept (fun _ => False) w w1 := by subst h1; exact (Kept.refl _ _).alloc _
  have c2 : w1.cell? ⟨F, 2, none⟩ = some (.int .i64 x.n2) := cell_at hF4 rfl
  have hv1 := h.still hk1
  have hs1 := hs.still hk1
  have K1 : Kept (fun n => n = N) w w1 := hk1.mono (fun _ _ e => e.elim)
  have hff := find_find f g x.n2 x.n2
  have hfa := find_again g x.n2
  have hsz : (findV f g x.n2).s.size ≤ 100000 := by have := hm.found x.n2; omega
  have lF1 : F < w1.heap.size := lt_at hF4
  clear h hs
  cases hP : isI f g x.n2 with
  | false =>
    have HE : Hid (inoW f g i x d = ⟨-1, 1, findT g x.n2⟩) := by show _ = _; unfold inoW; rw [hP]; rfl
    clear hF4
    go_enter Try.func42, Try.ntmps42
    go_wp2_with (first | (refine list_exec rfl rfl (exec_box (cs := (vc x).toArray) hF rfl) ?_))
    refine (is_w q N p B f g x.n2 w1 hv1 hs1 hNB).mono ?_
    rintro e w2 ⟨rfl, hv2, hk2⟩
    rw [hP]
    have K2 := K1.trans hk2 (fun _ _ e => e)
    clear hv1 hs1 hsk hff hfa
    go_wp2_with fail
    exact bodyPost_ret (v := .tuple #[.int .i64 (-1), .int .i64 1]) (by simp [results, Try.results42, go_sem]) rfl ⟨by rw [HE.out]; rfl, by rw [HE.out]; exact hv2, K2⟩
  | true =>
    by_cases h3 : (findV f g x.n2).n0 = 3
    · have HE : Hid (inoW f g i x d = ⟨(d.size : Nat), 0, coT f (findT g x.n2) d⟩) := by show _ = _; unfold inoW; rw [hP, if_pos rfl, if_pos h3]
      have t3 : ((findV f g x.n2).n0 == 3) = true := by simpa using h3
      clear hF4
      go_enter Try.func42, Try.ntmps42
      go_wp2_with (first | (refine list_exec rfl rfl (exec_box (cs := (vc x).toArray) hF rfl) ?_))
      refine (is_w q N p B f g x.n2 w1 hv1 hs1 hNB).mono ?_
      rintro e w2 ⟨rfl, hv2, hk2⟩
      rw [hP]
      have K2 := K1.trans hk2 (fun _ _ e => e)
      go_wp2_with fail
      refine (type_w q N p B f (findT g x.n2) x.n2 w2 hv2 (hsk _ K2) hNB).mono ?_
      rintro e w3 ⟨rfl, hv3, hk3⟩
      rw [hff]
      rw [hfa] at hv3
      have K3 := K2.trans hk3 (fun _ _ e => e)
      clear hv1 hs1 hff hfa hv2 h3
      go_wp2_with fail
      refine (cowr_w q N p B f (findT g x.n2) d w3 hv3 (hsk _ K3) hNB hd).mono ?_
      rintro e w4 ⟨rfl, hv4, hk4⟩
      have HZ : Hid (ViewIn q N p (inoW f g i x d).g w4 ∧ Kept (fun n => n = N) w w4) := ⟨by rw [HE.out]; exact hv4, K3.trans hk4 (fun _ _ e => e)⟩
      clear hv3 hv4 hk4 hsk
      go_wp2_with fail
      exact bodyPost_ret (v := .tuple #[.int .i64 (d.size : Nat), .int .i64 0]) (by simp [results, Try.results42, go_sem]) rfl ⟨by rw [HE.out]; rfl, HZ.out⟩
    · have t3 : ((findV f g x.n2).n0 == 3) = false := by simpa using h3
      have hwa := write_again (f := f) (g := g) x.n2 x.n3 d
      have c3 : w1.cell? ⟨F, 3, none⟩ = some (.int .i64 x.n3) := cell_at hF4 rfl
      have HE0 : Hid (inoW f g i x d = if writeA f g x.n2 x.n3 d < 0 ∨ (writeA f g x.n2 x.n3 d = 0 ∧ d.size ≠ 0) then ⟨-1, 1, writeT f g x.n2 x.n3 d⟩ else ⟨writeA f g x.n2 x.n3 d, 0, vputT (writeT f g x.n2 x.n3 d) (6, i) (adv x (writeA f g x.n2 x.n3 d))⟩) := by
        show _ = _; unfold inoW; rw [hP, if_pos rfl, if_neg h3]
      go_enter Try.func42, Try.ntmps42
      go_wp2_with (first | (refine list_exec rfl rfl (exec_box (cs := (vc x).toArray) hF rfl) ?_))
      refine (is_w q N p B f g x.n2 w1 hv1 hs1 hNB).mono ?_
      rintro e w2 ⟨rfl, hv2, hk2⟩
      rw [hP]
      have K2 := K1.trans hk2 (fun _ _ e => e)
      go_wp2_with fail
      refine (type_w q N p B f (findT g x.n2) x.n2 w2 hv2 (hsk _ K2) hNB).mono ?_
      rintro e w3 ⟨rfl, hv3, hk3⟩
      rw [hff]
      rw [hfa] at hv3
      have K3 := K2.trans hk3 (fun _ _ e => e)
      have c33 := (hk2.trans hk3 (fun _ _ e => e)).cell c3 (by show ¬ F = N; omega)
      have hF33 := (hk2.trans hk3 (fun _ _ e => e)).at hF4 (by show ¬ F = N; omega)
      clear hv1 hs1 hv2 h3 hF4 c2 c3 hk1 hk2 hk3 h1
      go_wp2_with fail
      refine (write_w q N p B f (findT g x.n2) x.n2 x.n3 d w3 hv3 (hsk _ K3) hNB (by rw [hff]; exact hsz)).mono ?_
      rintro e w4 ⟨rfl, hv4, hk4⟩
      rw [hwa.2]
      rw [hwa.1] at hv4
      have K4 := K3.trans hk4 (fun _ _ e => e)
      have hF44 := hk4.at hF33 (by show ¬ F = N; omega)
      clear hF33 c33 hv3 hff hfa hk4 hsz hm t3 hwa
      generalize writeA f g x.n2 x.n3 d = a at *
      by_cases a1 : a < 0
      · have HE : Hid (inoW f g i x d = ⟨-1, 1, writeT f g x.n2 x.n3 d⟩) := by show _ = _; rw [HE0.out, if_pos (.inl a1)]
        clear HE0
        go_wp2_with fail
        exact bodyPost_ret (v := .tuple #[.int .i64 (-1), .int .i64 1]) (by simp [results, Try.results42, go_sem]) rfl ⟨by rw [HE.out]; rfl, by rw [HE.out]; exact hv4, K4⟩
      have a2 : 0 ≤ a := by omega
      have rest : ¬ (a < 0 ∨ (a = 0 ∧ d.size ≠ 0)) → True := fun _ => trivial
      by_cases a3 : a = 0
      · by_cases a4 : d.size = 0
        · have hd2 := no_text a4
          have HE : Hid (inoW f g i x d = ⟨a, 0, vputT (writeT f g x.n2 x.n3 d) (6, i) (adv x a)⟩) := by show _ = _; rw [HE0.out, if_neg (by omega)]
          have b3 : (a == 0) = true := by simpa using a3
          clear HE0 rest a4
          have c3 : w4.cell? ⟨F, 3, none⟩ = some (.int .i64 x.n3) := cell_at hF44 rfl
          have f3 := free_at hF44 3
          have hFy : (w4.setCell ⟨F, 3, none⟩ (.int .i64 (wrap64 x.n3))).heap[F]? = some (.cells (vc (adv x a)).toArray 51 (0, 0)) := by rw [set_at hF44]; unfold adv; rw [a3, Int.add_zero]; rfl
          have k6 : Kept (fun n => n = F) w4 (w4.setCell ⟨F, 3, none⟩ (.int .i64 (wrap64 x.n3))) := by refine Kept.setCell (Kept.refl _ _) ?_ _; intro _; rfl
          go_wp2_with fail
          generalize w4.setCell ⟨F, 3, none⟩ (.int .i64 (wrap64 x.n3)) = w6 at *
          have hv6 := hv4.kept k6 (by omega) (by omega)
          have K6 := K4.trans k6 (fun k h1 h2 => by omega)
          generalize adv x a = y at *
          clear c3 f3 hF44 hv4 K4 k6
          have KS : ∀ w', Kept (fun n => n = N) w6 w' → True := fun _ _ => trivial
          have KV : ∀ w', Kept (fun n => n = N) w6 w' → w'.rangeAt F 0 (vc y) := fun w' hk' => range_kept (whole_range hFy) hk' (by omega)
          refine wp_region_held_drew (S := fun w' => Kept (fun n => n = N) w6 w') (by kernel_rfl) ((Kept.refl _ _).drew) (fun hHeld => ?_)
          refine h_take 0 (some 50) (Op.move (Operand.tmp 0)) 25 ?v3 rfl rfl (by kernel_rfl) (by kernel_rfl) (by kernel_rfl) (fun _ _ _ h => h) ?hy3 hHeld ?_
          case hy3 => (intro _ _ _ w hSw; have hcs := KS _ hSw; go_simp; try with_reducible rfl)
          simp only [Act.put, List.setIfInBounds_toArray, List.set_cons_zero, List.set_cons_succ]
          refine h_take 1 (some 51) (Op.move (Operand.tmp 1)) 3 ?v4 rfl rfl (by kernel_rfl) (by kernel_rfl) (by kernel_rfl) (fun _ _ _ h => h) ?hy4 hHeld ?_
          case hy4 => (intro _ _ _ w hSw; have hcs := KS _ hSw; go_simp; try with_reducible rfl)
          simp only [Act.put, List.setIfInBounds_toArray, List.set_cons_zero, List.set_cons_succ]
          refine h_take 3 (some 53) (Op.load 51 (Operand.tmp 6)) 51 (vv y) rfl rfl (by kernel_rfl) (by kernel_rfl) (by kernel_rfl) (fun _ _ _ h => h) (fun _ _ _ w hSw => exec_load rfl (load_wide wide_V (KV w hSw) rfl)) hHeld ?_
          simp only [Act.put, List.setIfInBounds_toArray, List.set_cons_zero, List.set_cons_succ]
          refine h_step 2 (some 52) (Op.call { callee := Callee.value (Operand.func 37), args := #[Operand.tmp 51], argTypes := #[3] }) 54 rfl rfl (by kernel_rfl) (fun _ _ _ K hK => ?_)
          go_simp
          refine (fobject_w i _).mono ?_
          rintro e w7 ⟨rfl, hk7⟩
          replace hk7 : Kept (fun _ => False) w6 w7 := (Kept.refl _ w6).drew.thru hk7
          go_wp2_with fail
          refine hK.out _ _ (hk7.mono (fun _ _ e => e.elim)) (fun hHeld => ?_)
          clear hK K
          try simp only [Act.put, List.setIfInBounds_toArray, List.set_cons_zero, List.set_cons_succ]
          refine h_step 4 (some 54) (Op.call { callee := Callee.value (Operand.func 24), args := #[Operand.tmp 50, Operand.tmp 52, Operand.tmp 53], argTypes := #[25, 54, 51] }) 0 rfl rfl (by kernel_rfl) (fun _ _ _ K hK => ?_)
          go_simp
          refine (vput_w q N p _ 6 i y w7 (hv6.still hk7)).mono ?_
          rintro e w8 ⟨rfl, hv8, hk8⟩
          replace hk8 : Kept (fun n => n = N) w6 w8 := (hk7.mono (fun _ _ e => e.elim)).trans hk8 (fun _ _ e => e)
          go_wp2_with fail
          refine hK.out _ _ (hk8) (fun hHeld => ?_)
          clear hK K
          try simp only [Act.put, List.setIfInBounds_toArray, List.set_cons_zero, List.set_cons_succ]
          refine wpAnyH_done (by kernel_rfl) ?_ _
          have HZ : Hid (ViewIn q N p (inoW f g i x d).g w8 ∧ Kept (fun n => n = N) w w8) := ⟨by rw [HE.out]; exact hv8, K6.trans hk8 (fun _ _ e => e)⟩
          clear hHeld KS KV hk7 hv6 hk8 hv8 hFy K6
          go_wp2_with fail
          exact bodyPost_ret (v := .tuple #[.int .i64 0, .int .i64 0]) (by simp [results, Try.results42, go_sem]) rfl ⟨by rw [HE.out, a3]; rfl, HZ.out⟩
        · have hd2 := ne_text a4
          have HE : Hid (inoW f g i x d = ⟨-1, 1, writeT f g x.n2 x.n3 d⟩) := by show _ = _; rw [HE0.out, if_pos (.inr ⟨a3, a4⟩)]
          have b3 : (a == 0) = true := by simpa using a3
          clear HE0 rest
          go_wp2_with fail
          exact bodyPost_ret (v := .tuple #[.int .i64 (-1), .int .i64 1]) (by simp [results, Try.results42, go_sem]) rfl ⟨by rw [HE.out]; rfl, by rw [HE.out]; exact hv4, K4⟩
      · have HE : Hid (inoW f g i x d = ⟨a, 0, vputT (writeT f g x.n2 x.n3 d) (6, i) (adv x a)⟩) := by show _ = _; rw [HE0.out, if_neg (by omega)]
        have b3 : (a == 0) = false := by simpa using a3
        clear HE0 rest
        have c3 : w4.cell? ⟨F, 3, none⟩ = some (.int .i64 x.n3) := cell_at hF44 rfl
        have f3 := free_at hF44 3
        have hFy : (w4.setCell ⟨F, 3, none⟩ (.int .i64 (wrap64 (x.n3 + a)))).heap[F]? = some (.cells (vc (adv x a)).toArray 51 (0, 0)) := by rw [set_at hF44]; rfl
        have k6 : Kept (fun n => n = F) w4 (w4.setCell ⟨F, 3, none⟩ (.int .i64 (wrap64 (x.n3 + a)))) := by refine Kept.setCell (Kept.refl _ _) ?_ _; intro _; rfl
        go_wp2_with fail
        generalize w4.setCell ⟨F, 3, none⟩ (.int .i64 (wrap64 (x.n3 + a))) = w6 at *
        have hv6 := hv4.kept k6 (by omega) (by omega)
        have K6 := K4.trans k6 (fun k h1 h2 => by omega)
        generalize adv x a = y at *
        clear c3 f3 hF44 hv4 K4 k6
        have KS : ∀ w', Kept (fun n => n = N) w6 w' → True := fun _ _ => trivial
        have KV : ∀ w', Kept (fun n => n = N) w6 w' → w'.rangeAt F 0 (vc y) := fun w' hk' => range_kept (whole_range hFy) hk' (by omega)
        refine wp_region_held_drew (S := fun w' => Kept (fun n => n = N) w6 w') (by kernel_rfl) ((Kept.refl _ _).drew) (fun hHeld => ?_)
        refine h_take 0 (some 50) (Op.move (Operand.tmp 0)) 25 ?v5 rfl rfl (by kernel_rfl) (by kernel_rfl) (by kernel_rfl) (fun _ _ _ h => h) ?hy5 hHeld ?_
        case hy5 => (intro _ _ _ w hSw; have hcs := KS _ hSw; go_simp; try with_reducible rfl)
        simp only [Act.put, List.setIfInBounds_toArray, List.set_cons_zero, List.set_cons_succ]
        refine h_take 1 (some 51) (Op.move (Operand.tmp 1)) 3 ?v6 rfl rfl (by kernel_rfl) (by kernel_rfl) (by kernel_rfl) (fun _ _ _ h => h) ?hy6 hHeld ?_
        case hy6 => (intro _ _ _ w hSw; have hcs := KS _ hSw; go_simp; try with_reducible rfl)
        simp only [Act.put, List.setIfInBounds_toArray, List.set_cons_zero, List.set_cons_succ]
        refine h_take 3 (some 53) (Op.load 51 (Operand.tmp 6)) 51 (vv y) rfl rfl (by kernel_rfl) (by kernel_rfl) (by kernel_rfl) (fun _ _ _ h => h) (fun _ _ _ w hSw => exec_load rfl (load_wide wide_V (KV w hSw) rfl)) hHeld ?_
        simp only [Act.put, List.setIfInBounds_toArray, List.set_cons_zero, List.set_cons_succ]
        refine h_step 2 (some 52) (Op.call { callee := Callee.value (Operand.func 37), args := #[Operand.tmp 51], argTypes := #[3] }) 54 rfl rfl (by kernel_rfl) (fun _ _ _ K hK => ?_)
        go_simp
        refine (fobject_w i _).mono ?_
        rintro e w7 ⟨rfl, hk7⟩
        replace hk7 : Kept (fun _ => False) w6 w7 := (Kept.refl _ w6).drew.thru hk7
        go_wp2_with fail
        refine hK.out _ _ (hk7.mono (fun _ _ e => e.elim)) (fun hHeld => ?_)
        clear hK K
        try simp only [Act.put, List.setIfInBounds_toArray, List.set_cons_zero, List.set_cons_succ]
        refine h_step 4 (some 54) (Op.call { callee := Callee.value (Operand.func 24), args := #[Operand.tmp 50, Operand.tmp 52, Operand.tmp 53], argTypes := #[25, 54, 51] }) 0 rfl rfl (by kernel_rfl) (fun _ _ _ K hK => ?_)
        go_simp
        refine (vput_w q N p _ 6 i y w7 (hv6.still hk7)).mono ?_
        rintro e w8 ⟨rfl, hv8, hk8⟩
        replace hk8 : Kept (fun n => n = N) w6 w8 := (hk7.mono (fun _ _ e => e.elim)).trans hk8 (fun _ _ e => e)
        go_wp2_with fail
        refine hK.out _ _ (hk8) (fun hHeld => ?_)
        clear hK K
        try simp only [Act.put, List.setIfInBounds_toArray, List.set_cons_zero, List.set_cons_succ]
        refine wpAnyH_done (by kernel_rfl) ?_ _
        have HZ : Hid (ViewIn q N p (inoW f g i x d).g w8 ∧ Kept (fun n => n = N) w w8) := ⟨by rw [HE.out]; exact hv8, K6.trans hk8 (fun _ _ e => e)⟩
        clear hHeld KS KV hk7 hv6 hk8 hv8 hFy K6
        go_wp2_with fail
        exact bodyPost_ret (v := .tuple #[.int .i64 a, .int .i64 0]) (by simp [results, Try.results42, go_sem]) rfl ⟨by rw [HE.out]; rfl, HZ.out⟩

theorem and_0 (n : Int) : bits .and .i64 n 1 = if hasB n 0 = true then 1 else 0 := and_b n 0 (by decide) (by decide)
theorem and_1 (n : Int) : bits .and .i64 n 2 = if hasB n 1 = true then 2 else 0 := and_b n 1 (by decide) (by decide)

set_option maxHeartbeats 1000000 in
theorem frd_w (q N p B : Nat) (f : StF) (g : VwF) (i n : Int) (w : World) (h : ViewIn q N p g w) (hs : StoreIn p B f w) (hNB : N ≠ B) (hm : Small f g) : Calls Try.prog 12 #[.pointer (some ⟨q, 0, none⟩), .int .i64 i, .int .i64 n] w
    fun e w' => e = .returned (rdV (frd f g i n)) ∧ ViewIn q N p (frd f g i n).g w' ∧ Kept (fun n => n = N) w w' := by
  have hN : N < w.heap.size := h.map.lt
  have hq : q < w.heap.size := lt_at h.cell
  have hpN : p ≠ N := h.map.off hs.cell
  have hsk : ∀ w', Kept (fun n => n = N) w w' → StoreIn p B f w' := fun w' hk => hs.kept hk hpN (fun e => hNB e.symm)
  cases hP : isO f g i with
  | false =>
    have HE : Hid (frd f g i n = ⟨ByteArray.empty, 1, isOT g i⟩) := by show _ = _; unfold frd; rw [if_neg (by rw [hP]; simp)]
    go_enter Try.func12, Try.ntmps12
    go_wp2_with fail
    refine (fis_w q N p B f g i w h hs hNB).mono ?_
    rintro e w1 ⟨rfl, hv1, hk1⟩
    rw [hP]
    clear h hs
    go_wp2_with fail
    exact bodyPost_ret (v := .tuple #[.string ⟨#[]⟩, .int .i64 1]) (by simp [results, Try.results12, go_sem]) rfl ⟨by rw [HE.out]; rfl, by rw [HE.out]; exact hv1, hk1⟩
  | true =>
  by_cases hn : n < 0
  · have HE : Hid (frd f g i n = ⟨ByteArray.empty, 1, isOT g i⟩) := by show _ = _; unfold frd; rw [if_neg (by omega)]
    go_enter Try.func12, Try.ntmps12
    go_wp2_with fail
    refine (fis_w q N p B f g i w h hs hNB).mono ?_
    rintro e w1 ⟨rfl, hv1, hk1⟩
    rw [hP]
    clear h hs
    go_wp2_with fail
    exact bodyPost_ret (v := .tuple #[.string ⟨#[]⟩, .int .i64 1]) (by simp [results, Try.results12, go_sem]) rfl ⟨by rw [HE.out]; rfl, by rw [HE.out]; exact hv1, hk1⟩
  have hn0 : 0 ≤ n := by omega
  have HE : Hid (frd f g i n = if hasB (filV f g i).n4 0 = true then (
    if (filV f g i).n0 = 2 then ⟨prdS f (lkT g i) (filV f g i).n2 n, prdK f (lkT g i) (filV f g i).n2 n, prdT f (lkT g i) (filV f g i).n2 n⟩
    else if (filV f g i).n0 = 1 then inoR f (lkT g i) i (filV f g i) n else ⟨ByteArray.empty, 1, lkT g i⟩) else ⟨ByteArray.empty, 1, lkT g i⟩) := by
    show _ = _; unfold frd; rw [if_pos ⟨hP, hn0⟩]
  have hpv : vgetF f (isOT g i) (6, i) = filV f g i := get_isOT (f := f) (g := g) i (6, i)
  have hml := hm.lk i
  go_enter Try.func12, Try.ntmps12
  go_wp2_with fail
  refine (fis_w q N p B f g i w h hs hNB).mono ?_
  rintro e w1 ⟨rfl, hv1, hk1⟩
  rw [hP]
  clear h hs hm
  go_wp2_with fail
  refine (fobject_w i _).mono ?_
  rintro e w2 ⟨rfl, hk2⟩
  have K2 : Kept (fun n => n = N) w w2 := hk1.trans hk2 (fun _ _ e => e.elim)
  go_wp2_with fail
  refine (vget_w q N p B f (isOT g i) 6 i w2 (hv1.still hk2) (hsk _ K2) hNB).mono ?_
  rintro e w3 ⟨rfl, hv3, hk3⟩
  rw [hpv]
  clear hpv hk1 hk2 hv1
  generalize filV f g i = x at *
  have K3 : Kept (fun n => n = N) w w3 := K2.trans hk3 (fun _ _ e => e)
  have hv3 : ViewIn q N p (lkT g i) w3 := hv3
  clear K2 hk3
  obtain ⟨F, hF⟩ : ∃ F : Nat, w3.heap.size = F := ⟨_, rfl⟩
  have lF : w.heap.size ≤ F := by have := K3.size; omega
  obtain ⟨w4, h4⟩ : ∃ w4, w3.alloc (.cells (vc x).toArray 51) = w4 := ⟨_, rfl⟩
  have hF4 : w4.heap[F]? = some (.cells (vc x).toArray 51 (0, 0)) := by subst h4; exact alloc_at' _ hF
  have k34 : Kept (fun _ => False) w3 w4 := by subst h4; exact (Kept.refl _ _).alloc _
  have hv4 := hv3.still k34
  have K4 : Kept (fun n => n = N) w w4 := K3.trans k34 (fun _ _ e => e.elim)
  clear hv3 K3 k34
  have c0 : w4.cell? ⟨F, 0, none⟩ = some (.int .i64 x.n0) := cell_at hF4 rfl
  have c2 : w4.cell? ⟨F, 2, none⟩ = some (.int .i64 x.n2) := cell_at hF4 rfl
  have c4 : w4.cell? ⟨F, 4, none⟩ = some (.int .i64 x.n4) := cell_at hF4 rfl
  have hr : w4.rangeAt F 0 (vc x) := whole_range hF4
  have ha := and_0 x.n4
  cases hb : hasB x.n4 0 with
  | false =>
    rw [hb] at ha
    have HE2 : Hid (frd f g i n = ⟨ByteArray.empty, 1, lkT g i⟩) := by show _ = _; rw [HE.out, hb]; rfl
    simp only [Bool.false_eq_true, if_false] at ha
    clear HE
    go_wp2_with (first | (refine list_wnew rfl wide_V _ _ rfl F rfl (vc x) rfl _ rfl hF rfl (vc_one _) ?_))
    exact bodyPost_ret (v := .tuple #[.string ⟨#[]⟩, .int .i64 1]) (by simp [results, Try.results12, go_sem]) rfl ⟨by rw [HE2.out]; rfl, by rw [HE2.out]; exact hv4, K4⟩
  | true =>
    rw [hb, if_pos rfl] at ha
    by_cases q2 : x.n0 = 2
    · have t2 : (x.n0 == 2) = true := by simpa using q2
      have HE2 : Hid (frd f g i n = ⟨prdS f (lkT g i) x.n2 n, prdK f (lkT g i) x.n2 n, prdT f (lkT g i) x.n2 n⟩) := by show _ = _; rw [HE.out, hb, if_pos rfl, if_pos q2]
      clear HE q2
      go_wp2_with (first | (refine list_wnew rfl wide_V _ _ rfl F rfl (vc x) rfl _ rfl hF rfl (vc_one _) ?_))
      refine (prd_w q N p B f (lkT g i) x.n2 n w4 hv4 (hsk _ K4) hNB (hml.val _)).mono ?_
      rintro e w5 ⟨rfl, hv5, hk5⟩
      have HZ : Hid (ViewIn q N p (frd f g i n).g w5 ∧ Kept (fun n => n = N) w w5) := ⟨by rw [HE2.out]; exact hv5, K4.trans hk5 (fun _ _ e => e)⟩
      have HR : Hid (rdV (frd f g i n) = .tuple #[.string (prdS f (lkT g i) x.n2 n), .int .i64 (prdK f (lkT g i) x.n2 n)]) := by show _ = _; rw [HE2.out]; rfl
      unfold prdV
      clear hv5 hk5 HE2 hv4 hsk
      generalize prdS f (lkT g i) x.n2 n = s0 at *
      generalize prdK f (lkT g i) x.n2 n = k0 at *
      go_wp2_with fail
      exact bodyPost_ret (v := .tuple #[.string s0, .int .i64 k0]) (by simp [results, Try.results12, go_sem]) rfl ⟨by rw [← HR.out], HZ.out⟩
    have t2 : (x.n0 == 2) = false := by simpa using q2
    by_cases q1 : x.n0 = 1
    · have t1 : (x.n0 == 1) = true := by simpa using q1
      have HE2 : Hid (frd f g i n = inoR f (lkT g i) i x n) := by show _ = _; rw [HE.out, hb, if_pos rfl, if_neg q2, if_pos q1]
      clear HE q2 q1
      go_wp2_with (first | (refine list_wnew rfl wide_V _ _ rfl F rfl (vc x) rfl _ rfl hF rfl (vc_one _) ?_) | (refine list_wload rfl wide_V _ rfl F 0 rfl (vc x) hr rfl ?_))
      refine (inord_w q N p B f (lkT g i) i x n w4 hv4 (hsk _ K4) hNB hml).mono ?_
      rintro e w5 ⟨rfl, hv5, hk5⟩
      have HZ : Hid (ViewIn q N p (frd f g i n).g w5 ∧ Kept (fun n => n = N) w w5) := ⟨by rw [HE2.out]; exact hv5, K4.trans hk5 (fun _ _ e => e)⟩
      have HR : Hid (rdV (frd f g i n) = .tuple #[.string (inoR f (lkT g i) i x n).s, .int .i64 (inoR f (lkT g i) i x n).k]) := by show _ = _; rw [HE2.out]; rfl
      unfold rdV
      clear hv5 hk5 HE2 hv4 hsk
      generalize (inoR f (lkT g i) i x n).s = s0 at *
      generalize (inoR f (lkT g i) i x n).k = k0 at *
      go_wp2_with fail
      exact bodyPost_ret (v := .tuple #[.string s0, .int .i64 k0]) (by simp [results, Try.results12, go_sem]) rfl ⟨by rw [← HR.out], HZ.out⟩
    · have t1 : (x.n0 == 1) = false := by simpa using q1
      have HE2 : Hid (frd f g i n = ⟨ByteArray.empty, 1, lkT g i⟩) := by show _ = _; rw [HE.out, hb, if_pos rfl, if_neg q2, if_neg q1]
      clear HE q2 q1
      go_wp2_with (first | (refine list_wnew rfl wide_V _ _ rfl F rfl (vc x) rfl _ rfl hF rfl (vc_one _) ?_))
      exact bodyPost_ret (v := .tuple #[.string ⟨#[]⟩, .int .i64 1]) (by simp [results, Try.results12, go_sem]) rfl ⟨by rw [HE2.out]; rfl, by rw [HE2.out]; exact hv4, K4⟩

set_option maxHeartbeats 1000000 in
theorem fwr_w (q N p B : Nat) (f : StF) (g : VwF) (i : Int) (d : ByteArray) (w : World) (h : ViewIn q N p g w) (hs : StoreIn p B f w) (hNB : N ≠ B) (hm : Small f g) (hd : d.size ≤ 1000000) : Calls Try.prog 15 #[.pointer (some ⟨q, 0, none⟩), .int .i64 i, .string d] w
    fun e w' => e = .returned (wrV (fwr f g i d)) ∧ ViewIn q N p (fwr f g i d).g w' ∧ Kept (fun n => n = N) w w' := by
  have hN : N < w.heap.size := h.map.lt
  have hq : q < w.heap.size := lt_at h.cell
  have hpN : p ≠ N := h.map.off hs.cell
  have hsk : ∀ w', Kept (fun n => n = N) w w' → StoreIn p B f w' := fun w' hk => hs.kept hk hpN (fun e => hNB e.symm)
  cases hP : isO f g i with
  | false =>
    have HE : Hid (fwr f g i d = ⟨-1, 1, isOT g i⟩) := by show _ = _; unfold fwr; rw [if_neg (by rw [hP]; simp)]
    go_enter Try.func15, Try.ntmps15
    go_wp2_with fail
    refine (fis_w q N p B f g i w h hs hNB).mono ?_
    rintro e w1 ⟨rfl, hv1, hk1⟩
    rw [hP]
    clear h hs
    go_wp2_with fail
    exact bodyPost_ret (v := .tuple #[.int .i64 (-1), .int .i64 1]) (by simp [results, Try.results15, go_sem]) rfl ⟨by rw [HE.out]; rfl, by rw [HE.out]; exact hv1, hk1⟩
  | true =>
  have HE : Hid (fwr f g i d = if hasB (filV f g i).n4 1 = true then (
    if (filV f g i).n0 = 3 then ⟨pwrA f (lkT g i) (filV f g i).n2 d, pwrK f (lkT g i) (filV f g i).n2 d, pwrT f (lkT g i) (filV f g i).n2 d⟩
    else if (filV f g i).n0 = 1 then inoW f (lkT g i) i (filV f g i) d else ⟨-1, 1, lkT g i⟩) else ⟨-1, 1, lkT g i⟩) := by
    show _ = _; unfold fwr; rw [if_pos hP]
  have hpv : vgetF f (isOT g i) (6, i) = filV f g i := get_isOT (f := f) (g := g) i (6, i)
  have hml := hm.lk i
  go_enter Try.func15, Try.ntmps15
  go_wp2_with fail
  refine (fis_w q N p B f g i w h hs hNB).mono ?_
  rintro e w1 ⟨rfl, hv1, hk1⟩
  rw [hP]
  clear h hs hm
  go_wp2_with fail
  refine (fobject_w i _).mono ?_
  rintro e w2 ⟨rfl, hk2⟩
  have K2 : Kept (fun n => n = N) w w2 := hk1.trans hk2 (fun _ _ e => e.elim)
  go_wp2_with fail
  refine (vget_w q N p B f (isOT g i) 6 i w2 (hv1.still hk2) (hsk _ K2) hNB).mono ?_
  rintro e w3 ⟨rfl, hv3, hk3⟩
  rw [hpv]
  clear hpv hk1 hk2 hv1
  generalize filV f g i = x at *
  have K3 : Kept (fun n => n = N) w w3 := K2.trans hk3 (fun _ _ e => e)
  have hv3 : ViewIn q N p (lkT g i) w3 := hv3
  clear K2 hk3
  obtain ⟨F, hF⟩ : ∃ F : Nat, w3.heap.size = F := ⟨_, rfl⟩
  have lF : w.heap.size ≤ F := by have := K3.size; omega
  obtain ⟨w4, h4⟩ : ∃ w4, w3.alloc (.cells (vc x).toArray 51) = w4 := ⟨_, rfl⟩
  have hF4 : w4.heap[F]? = some (.cells (vc x).toArray 51 (0, 0)) := by subst h4; exact alloc_at' _ hF
  have k34 : Kept (fun _ => False) w3 w4 := by subst h4; exact (Kept.refl _ _).alloc _
  have hv4 := hv3.still k34
  have K4 : Kept (fun n => n = N) w w4 := K3.trans k34 (fun _ _ e => e.elim)
  clear hv3 K3 k34
  have c0 : w4.cell? ⟨F, 0, none⟩ = some (.int .i64 x.n0) := cell_at hF4 rfl
  have c2 : w4.cell? ⟨F, 2, none⟩ = some (.int .i64 x.n2) := cell_at hF4 rfl
  have c4 : w4.cell? ⟨F, 4, none⟩ = some (.int .i64 x.n4) := cell_at hF4 rfl
  have hr : w4.rangeAt F 0 (vc x) := whole_range hF4
  have ha := and_1 x.n4
  cases hb : hasB x.n4 1 with
  | false =>
    rw [hb] at ha
    have HE2 : Hid (fwr f g i d = ⟨-1, 1, lkT g i⟩) := by show _ = _; rw [HE.out, hb]; rfl
    simp only [Bool.false_eq_true, if_false] at ha
    clear HE
    go_wp2_with (first | (refine list_wnew rfl wide_V _ _ rfl F rfl (vc x) rfl _ rfl hF rfl (vc_one _) ?_))
    exact bodyPost_ret (v := .tuple #[.int .i64 (-1), .int .i64 1]) (by simp [results, Try.results15, go_sem]) rfl ⟨by rw [HE2.out]; rfl, by rw [HE2.out]; exact hv4, K4⟩
  | true =>
    rw [hb, if_pos rfl] at ha
    by_cases q2 : x.n0 = 3
    · have t2 : (x.n0 == 3) = true := by simpa using q2
      have HE2 : Hid (fwr f g i d = ⟨pwrA f (lkT g i) x.n2 d, pwrK f (lkT g i) x.n2 d, pwrT f (lkT g i) x.n2 d⟩) := by show _ = _; rw [HE.out, hb, if_pos rfl, if_pos q2]
      clear HE q2
      go_wp2_with (first | (refine list_wnew rfl wide_V _ _ rfl F rfl (vc x) rfl _ rfl hF rfl (vc_one _) ?_))
      refine (pwr_w q N p B f (lkT g i) x.n2 d w4 hv4 (hsk _ K4) hNB (hml.val _)).mono ?_
      rintro e w5 ⟨rfl, hv5, hk5⟩
      have HZ : Hid (ViewIn q N p (fwr f g i d).g w5 ∧ Kept (fun n => n = N) w w5) := ⟨by rw [HE2.out]; exact hv5, K4.trans hk5 (fun _ _ e => e)⟩
      have HR : Hid (wrV (fwr f g i d) = .tuple #[.int .i64 (pwrA f (lkT g i) x.n2 d), .int .i64 (pwrK f (lkT g i) x.n2 d)]) := by show _ = _; rw [HE2.out]; rfl
      unfold pwrV
      clear hv5 hk5 HE2 hv4 hsk
      generalize pwrA f (lkT g i) x.n2 d = s0 at *
      generalize pwrK f (lkT g i) x.n2 d = k0 at *
      go_wp2_with fail
      exact bodyPost_ret (v := .tuple #[.int .i64 s0, .int .i64 k0]) (by simp [results, Try.results15, go_sem]) rfl ⟨by rw [← HR.out], HZ.out⟩
    have t2 : (x.n0 == 3) = false := by simpa using q2
    by_cases q1 : x.n0 = 1
    · have t1 : (x.n0 == 1) = true := by simpa using q1
      have HE2 : Hid (fwr f g i d = inoW f (lkT g i) i x d) := by show _ = _; rw [HE.out, hb, if_pos rfl, if_neg q2, if_pos q1]
      clear HE q2 q1
      go_wp2_with (first | (refine list_wnew rfl wide_V _ _ rfl F rfl (vc x) rfl _ rfl hF rfl (vc_one _) ?_) | (refine list_wload rfl wide_V _ rfl F 0 rfl (vc x) hr rfl ?_))
      refine (inowr_w q N p B f (lkT g i) i x d w4 hv4 (hsk _ K4) hNB hml hd).mono ?_
      rintro e w5 ⟨rfl, hv5, hk5⟩
      have HZ : Hid (ViewIn q N p (fwr f g i d).g w5 ∧ Kept (fun n => n = N) w w5) := ⟨by rw [HE2.out]; exact hv5, K4.trans hk5 (fun _ _ e => e)⟩
      have HR : Hid (wrV (fwr f g i d) = .tuple #[.int .i64 (inoW f (lkT g i) i x d).a, .int .i64 (inoW f (lkT g i) i x d).k]) := by show _ = _; rw [HE2.out]; rfl
      unfold wrV
      clear hv5 hk5 HE2 hv4 hsk
      generalize (inoW f (lkT g i) i x d).a = s0 at *
      generalize (inoW f (lkT g i) i x d).k = k0 at *
      go_wp2_with fail
      exact bodyPost_ret (v := .tuple #[.int .i64 s0, .int .i64 k0]) (by simp [results, Try.results15, go_sem]) rfl ⟨by rw [← HR.out], HZ.out⟩
    · have t1 : (x.n0 == 1) = false := by simpa using q1
      have HE2 : Hid (fwr f g i d = ⟨-1, 1, lkT g i⟩) := by show _ = _; rw [HE.out, hb, if_pos rfl, if_neg q2, if_neg q1]
      clear HE q2 q1
      go_wp2_with (first | (refine list_wnew rfl wide_V _ _ rfl F rfl (vc x) rfl _ rfl hF rfl (vc_one _) ?_))
      exact bodyPost_ret (v := .tuple #[.int .i64 (-1), .int .i64 1]) (by simp [results, Try.results15, go_sem]) rfl ⟨by rw [HE2.out]; rfl, by rw [HE2.out]; exact hv4, K4⟩
end Go.Proofs.Ytdgkhfhlbjpaoaa
