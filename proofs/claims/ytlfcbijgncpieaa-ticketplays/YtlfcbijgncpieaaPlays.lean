/- The statement on any tries of two locks; no conditions. -/
import Derived.Test.YtlfcbijgncpieaaStart
import Derived.Test.YtlfcbijgncpieaaWithin
import Derived.Deep.CutBlock
import Derived.Deep.RegionHeld3
import Derived.Deep.QuietTactic
import Derived.BigQuiet
namespace Go.Proofs.Ytlfcbijgncpieaa
open Go.RowKit

theorem new3 (w2 : World) (E : Nat) (h : w2.heap.size = E) (o1 o2 o3 : Obj) :
    (((w2.alloc o1).alloc o2).alloc o3).drew.heap[E]? = some o1 ∧ (((w2.alloc o1).alloc o2).alloc o3).drew.heap[E + 1]? = some o2 ∧
    (((w2.alloc o1).alloc o2).alloc o3).drew.heap[E + 1 + 1]? = some o3 ∧ Kept (fun _ => False) w2 (((w2.alloc o1).alloc o2).alloc o3).drew ∧ (((w2.alloc o1).alloc o2).alloc o3).drew.heap.size = E + 3 := by
  refine ⟨?_, ?_, ?_, (((Kept.refl _ _).alloc _).alloc _).alloc _ |>.drew, ?_⟩
  · show (((w2.alloc o1).alloc o2).alloc o3).heap[E]? = _
    exact alloc_off (alloc_off (alloc_at' _ h))
  · show (((w2.alloc o1).alloc o2).alloc o3).heap[E + 1]? = _
    exact alloc_off (alloc_at' _ (by simp [h]))
  · show (((w2.alloc o1).alloc o2).alloc o3).heap[E + 1 + 1]? = _
    exact alloc_at' _ (by simp [h])
  · show (((w2.alloc o1).alloc o2).alloc o3).heap.size = _
    simp [h]

theorem kept_drewN (w : World) (m : Nat) : Kept (fun _ => False) w (w.drewN m) := ⟨rfl, rfl, rfl, Nat.le_refl _, fun _ _ _ => rfl⟩

theorem Hall.loaded {B O K S X Y I r : Nat} {lv v : Value} {qs : List Nat} {ts : List T} {l : Lk} {c : Int} {la lk ls lx ly : List Int} {w0 w w' : World} (h : Hall B O K S X Y I r lv v qs ts l c la lk ls lx ly w0 w) (c' : Int) (hb : B + 5 ≤ O ∧ B + 5 ≤ K ∧ B + 5 ≤ S ∧ B + 5 ≤ X ∧ B + 5 ≤ Y) (hi : B + 5 ≤ I) (hm : MemIn (B + 2) (B + 1) l.ws c' w') (hk : Kept (fun k => k = B + 2) w w') : Hall B O K S X Y I r lv v qs ts l c' la lk ls lx ly w0 w' := by
  have hB := h.core.base
  exact ⟨⟨hk.at h.core.lbox (by omega), hm, hk.at h.core.mbox (by omega), hk.at h.core.vbox (by omega), h.core.tries.kept hk (fun k e => by omega), h.core.kept.trans hk (fun k hk' e => by omega), hB⟩, hk.at h.fO (by omega), hk.at h.fK (by omega), hk.at h.fS (by omega), hk.at h.fX (by omega), hk.at h.fY (by omega), hk.at h.fI (by omega)⟩

theorem play_why (leave : Bool) (a : Nat) (l : Lk) (s t p q : Int) (h : (play leave a l s t).o = .halts p q) (hp : p = 0) : False := by
  subst hp
  unfold play at h
  repeat' split at h
  all_goals cases h

set_option maxRecDepth 100000 in
set_option maxHeartbeats 4000000 in
theorem plays_w (n : Int) (ao : Option Addr) (len cap lb off : Nat) (L : Nat → Int) (V : Nat → Bool) (hao : 0 < len → ao = some ⟨lb, off, none⟩) (hlc : len ≤ cap) (hm : cap ≤ 9223372036854775807) (w : World)
    (hc : ∀ i, i < len → w.cell? ⟨lb, off + i * 2, none⟩ = some (.int .i64 (L i)) ∧ w.cell? ⟨lb, off + i * 2 + 1, none⟩ = some (.bool (V i))) :
    Calls Try.prog 4 #[.int .i64 n, .slice ao len cap] w fun e w' => e = .returned (.bool true) ∧ Kept (fun _ => False) w w' := by
  have hmf := makeF
  obtain ⟨i0, hi, hz0, hz1, hz2⟩ := info_parts info_try
  obtain ⟨B, hB⟩ : ∃ B : Nat, w.heap.size = B := ⟨_, rfl⟩
  obtain ⟨k, hk, hk1, hk6⟩ : ∃ k : Nat, 1 + n % (6 - 1 + 1) = k ∧ 1 ≤ k ∧ k ≤ 6 := ⟨(1 + n % 6).toNat, by omega, by omega, by omega⟩
  have mk := make_ints k (by omega)
  have NW := new_ok 6 (by omega) (w.alloc (.cells #[.slice ao len cap] 30))
  rw [show ((6 : Nat) : Int) = 6 from rfl, show (w.alloc (.cells #[.slice ao len cap] 30)).heap.size = B + 1 by simp [hB]] at NW
  go_enter Try.func4, Try.ntmps4
  go_wp2_with fail
  refine (within_any n 1 6 (by decide) (by decide) (by decide) _).mono ?_
  rintro e w1 ⟨rfl, rfl⟩
  simp only [hk]
  clear hk
  go_wp2_with fail
  refine NW.mono ?_
  rintro e w2 ⟨rfl, hM, hk2, hs2⟩
  have hs2' : w2.heap.size = B + 3 := hs2
  have e2 : ((w2.alloc (.cells #[.pointer (some ⟨B + 2, 0, none⟩)] 22)).alloc (.cells #[.slice none 0 0] 32)).heap.size = B + 5 := by simp [hs2']
  have k3 : Kept (fun _ => False) w2 ((w2.alloc (.cells #[.pointer (some ⟨B + 2, 0, none⟩)] 22)).alloc (.cells #[.slice none 0 0] 32)) := ((Kept.refl _ _).alloc _).alloc _
  have HC0 : Hid (Core B (.slice ao len cap) (.slice none 0 0) [] [] ⟨0, 0, 0, 0⟩ 0 w ((w2.alloc (.cells #[.pointer (some ⟨B + 2, 0, none⟩)] 22)).alloc (.cells #[.slice none 0 0] 32))) :=
    ⟨k3.at (hk2.at (alloc_at' _ hB) (by simp)) (by simp), hM.kept k3 (by simp) (by simp), alloc_off (alloc_at' _ hs2'), alloc_at' _ (by simp [hs2']), TriesIn.nil _ _, (Kept.trans ((Kept.refl _ _).alloc _) hk2 (fun _ _ e => e)).trans k3 (fun _ _ e => e), hB⟩
  clear NW hM hk2 hs2 k3
  go_upto_region 6 with fail
  generalize (w2.alloc (.cells #[.pointer (some ⟨B + 2, 0, none⟩)] 22)).alloc (.cells #[.slice none 0 0] 32) = w3 at *
  rw [show B + 3 + 1 = B + 4 from rfl]
  go_cut [8, 9, 10] from 30 to 35 (fun o1 o2 o3 wr => ∃ O K S : Nat, o1 = .slice (some ⟨O, 0, none⟩) k k ∧ o2 = .slice (some ⟨K, 0, none⟩) k k ∧ o3 = .slice (some ⟨S, 0, none⟩) k k ∧ (B + 5 ≤ O ∧ O < B + 8 ∧ B + 5 ≤ K ∧ K < B + 8 ∧ B + 5 ≤ S ∧ S < B + 8 ∧ ¬ O = K ∧ ¬ O = S ∧ ¬ K = S) ∧ (wr.heap[O]? = some (.cells (Array.replicate k (.int .i64 0)) 3 (0, 0)) ∧ wr.heap[K]? = some (.cells (Array.replicate k (.int .i64 0)) 3 (0, 0)) ∧ wr.heap[S]? = some (.cells (Array.replicate k (.int .i64 0)) 3 (0, 0)) ∧ Kept (fun _ => False) w3 wr ∧ wr.heap.size = B + 8))
  case first =>
    as_aux_lemma =>
    go_region
    all_goals (go_wp2; go_meet)
    all_goals refine ⟨_, _, _, rfl, rfl, rfl, by omega, ?_, ?_, ?_, (new3 w3 (B + 5) e2 _ _ _).2.2.2.1, (new3 w3 (B + 5) e2 _ _ _).2.2.2.2⟩
    all_goals first
      | exact (new3 w3 (B + 5) e2 _ _ _).1
      | exact (new3 w3 (B + 5) e2 _ _ _).2.1
      | exact (new3 w3 (B + 5) e2 _ _ _).2.2.1
  case rest =>
    obtain ⟨O, K, S, rfl, rfl, rfl, ⟨o1, o2, k1, k2, s1, s2, ok, os, ks⟩, hO, hK, hS, hk3, hs3⟩ := hcut
    have HC1 : Hid _ := HC0.out.still hk3
    have z0 : Array.replicate k (Value.int .i64 0) = (ints (List.replicate k 0)).toArray := by simp [ints]
    rw [z0] at hO hK hS
    have HO : Hid _ := hO
    have HK : Hid (wc.heap[K]? = some (.cells (ints (rowK k 0)).toArray 3 (0, 0))) := by rw [rowK, row_start k (fun _ => -1)]; exact hK
    have HS : Hid (wc.heap[S]? = some (.cells (ints (rowS k 0)).toArray 3 (0, 0))) := by rw [rowS, row_start k (fun x => (t0 x).a)]; exact hS
    clear mk HC0 hO hK hS hk3 e2 hs2' z0
    go_wp2_with fail
    go_loopw [11] (fun i wr => ∃ (j : Nat) (v : Value) (qs : List Nat), j ≤ k ∧ i = .int .i64 j ∧ qs.length = j ∧ B + 8 ≤ wr.heap.size ∧ Core B (.slice ao len cap) v qs (made j) ⟨0, 0, 0, 0⟩ 0 w wr ∧ wr.heap[O]? = some (.cells (ints (List.replicate k 0)).toArray 3 (0, 0)) ∧ wr.heap[K]? = some (.cells (ints (rowK k j)).toArray 3 (0, 0)) ∧ wr.heap[S]? = some (.cells (ints (rowS k j)).toArray 3 (0, 0))) (fun i _ => k - (intOf i).toNat)
    case atStart => exact ⟨0, _, [], by omega, rfl, rfl, by omega, HC1.out, HO.out, HK.out, HS.out⟩
    case round =>
      obtain ⟨j, v, qs, hj, rfl, hql, hsz, hC, hO, hK, hS⟩ := hrel
      clear HC1 HO HK HS
      by_cases hjk : j < k
      · have t1 : (j : Int) < (k : Int) := by omega
        have q0 := cell_at hS (i := j) (rowS_at hjk)
        have q1 := free_at hS j
        have kS : Kept (fun k => k = S) wr (wr.setCell ⟨S, j, none⟩ (.int .i64 (1 + 2 * ((j : Int) % 2)))) := Kept.setCell (X := fun k => k = S) (Kept.refl _ _) (fun _ => rfl) _
        have hC1 := hC.off kS (by omega) hS (by decide) (by decide)
        have hS1 := (set_at hS j (.int .i64 (1 + 2 * ((j : Int) % 2)))).trans (congrArg (fun x => some (Obj.cells x 3 (0, 0))) (rowS_put k j))
        have hO1 := kS.at hO (by omega)
        have hK1 := kS.at hK (by omega)
        obtain ⟨D, hD⟩ : ∃ D : Nat, (wr.setCell ⟨S, j, none⟩ (.int .i64 (1 + 2 * ((j : Int) % 2)))).heap.size = D := ⟨_, rfl⟩
        have hBD : B + 8 ≤ D := by have := kS.size; omega
        have q2 := cell_at hS1 (i := j) (rowS_at hjk)
        rw [if_pos (show j < j + 1 by omega), show (t0 j).a = 1 + 2 * ((j : Int) % 2) from rfl] at q2
        have N := try_made (1 + 2 * ((j : Int) % 2)) D _ hD
        clear hC hO hK hS kS
        go_wp2_with fail
        refine N.mono ?_
        rintro e w5 ⟨rfl, hq, k5, s5⟩
        have hC5 := hC1.still k5
        have A := at_w _ _ _ _ _ hq
        have Z := ticket_w _ _ _ _ _ hq
        have hfar : ∀ i, i < qs.length → qd qs i ≠ D := fun i hi e => by have := lt_at (hC1.tries.each i hi); omega
        have hO5 := k5.at hO1 (by simp)
        have hK5 := k5.at hK1 (by simp)
        have hS5 := k5.at hS1 (by simp)
        have c5 := cell_at hC5.vbox (i := 0) rfl
        clear N hC1 hO1 hK1 hS1 k5 q0 q1 q2
        go_wp2_with fail
        refine A.mono ?_
        rintro e w6 ⟨rfl, hw6⟩
        rw [hw6]
        go_wp2_with fail
        refine Z.mono ?_
        rintro e w7 ⟨rfl, hw7⟩
        rw [hw7]
        clear hw6 hw7 A Z
        go_wp2_with (at_builtin; refine wpList_append_lies _ rfl _ _ 32 rfl (B + 8) 24 i0 (.pointer none) 1 8 Try.underlying32 hi hz0 hz1 hz2 rfl (by decide) _ _ _ rfl (hC5.tries.own.alloc _) ⟨D + 1, 0, none⟩ 1 1 [ptr D] rfl rfl ?c1 ?c2 (by decide) ?c3 ?c4 ?c5 _ rfl ?_)
        case c1 => exact fun j u hu => World.news_of_block (cs := #[ptr D]) (alloc_at' _ s5) j u hu
        case c2 => intro u hu; simp at hu; subst hu; rfl
        case c3 => unfold maxLen; omega
        case c4 => omega
        case c5 => simp; omega
        intro g cp w8 hown hgr hat hlt
        have hP : Core B (.slice ao len cap) (.slice (some ⟨g, 0, none⟩) (j + 1) cp) (qs ++ [D]) (made (j + 1)) ⟨0, 0, 0, 0⟩ 0 w (w8.setCell ⟨B + 4, 0, none⟩ (.slice (some ⟨g, 0, none⟩) (j + 1) cp)) ∧ Kept (fun k => B + 8 ≤ k) w5 w8 := by
          rw [made_succ]; subst hql; exact hC5.push hq (by omega) hfar hown hgr
        obtain ⟨hC8, k8⟩ := hP
        have hV8 := k8.at hC5.vbox (by omega)
        have v0 := cell_at hV8 (i := 0) rfl
        have v1 := free_at hV8 0
        have kV : Kept (fun k => k = B + 4) w8 (w8.setCell ⟨B + 4, 0, none⟩ (.slice (some ⟨g, 0, none⟩) (j + 1) cp)) := Kept.setCell (X := fun k => k = B + 4) (Kept.refl _ _) (fun _ => rfl) _
        have hO8 := kV.at (k8.at hO5 (by omega)) (by omega)
        have hK8 := kV.at (k8.at hK5 (by omega)) (by omega)
        have hS8 := kV.at (k8.at hS5 (by omega)) (by omega)
        have sz8 : B + 8 ≤ (w8.setCell ⟨B + 4, 0, none⟩ (.slice (some ⟨g, 0, none⟩) (j + 1) cp)).heap.size := by have h1 := k8.size; have h2 := kV.size; omega
        have y0 := cell_at hK8 (i := j) (rowK_at hjk)
        have y1 := free_at hK8 j
        have kK : Kept (fun k => k = K) (w8.setCell ⟨B + 4, 0, none⟩ (.slice (some ⟨g, 0, none⟩) (j + 1) cp)) ((w8.setCell ⟨B + 4, 0, none⟩ (.slice (some ⟨g, 0, none⟩) (j + 1) cp)).setCell ⟨K, j, none⟩ (.int .i64 (-1))) := Kept.setCell (X := fun k => k = K) (Kept.refl _ _) (fun _ => rfl) _
        have HC9 : Hid _ := hC8.off kK (by omega) hK8 (by decide) (by decide)
        have HK9 : Hid _ := (set_at hK8 j (.int .i64 (-1))).trans (congrArg (fun x => some (Obj.cells x 3 (0, 0))) (rowK_put k j))
        have HO9 : Hid _ := kK.at hO8 (by omega)
        have HS9 : Hid _ := kK.at hS8 (by omega)
        have HZ9 : Hid _ := Nat.le_trans sz8 kK.size
        clear hC5 hC8 hO5 hK5 hS5 hO8 hK8 hS8 sz8 kK kV k8 hown hgr hat hlt hfar hV8 hq s5 c5
        go_wp2
        go_roundw
        case rel => exact ⟨j + 1, _, qs ++ [D], by omega, by go_num, by simp [hql], HZ9.out, HC9.out, HO9.out, HK9.out, HS9.out⟩
        case measure => simp [intOf]; omega
      · have hjk' : j = k := by omega
        subst hjk'
        obtain ⟨g, cp, hv, hg, _⟩ := hC.tries.form (by omega)
        rw [hql] at hv
        subst hv
        rw [rowO_all] at hO
        rw [rowK_all] at hK
        rw [rowS_all] at hS
        obtain ⟨X, hX⟩ : ∃ X : Nat, wr.heap.size = X := ⟨_, rfl⟩
        have HC : Hid _ := hC
        have HO : Hid _ := hO
        have HK : Hid _ := hK
        have HS : Hid _ := hS
        clear hC hO hK hS hj hjk
        go_upto_block 2 with fail
        have k9 : Kept (fun _ => False) wr (((wr.alloc (.cells #[.int .i64 0, .int .i64 0, .int .i64 0, .int .i64 0] 34)).alloc (.cells #[.int .i64 0, .int .i64 0, .int .i64 0, .int .i64 0] 34)).alloc (.cells #[.int .i64 0] 3)) := (((Kept.refl _ _).alloc _).alloc _).alloc _
        have HH0 : Hid (Hall B O K S X (X + 1) (X + 1 + 1) 0 (.slice ao len cap) (.slice (some ⟨g, 0, none⟩) j cp) qs (made j) ⟨0, 0, 0, 0⟩ ((0 : Nat) : Int) ((made j).map T.s) ((made j).map T.t) ((made j).map T.a) (Lk.xs ⟨0, 0, 0, 0⟩) (Lk.ys ⟨0, 0, 0, 0⟩) w (((wr.alloc (.cells #[.int .i64 0, .int .i64 0, .int .i64 0, .int .i64 0] 34)).alloc (.cells #[.int .i64 0, .int .i64 0, .int .i64 0, .int .i64 0] 34)).alloc (.cells #[.int .i64 0] 3))) :=
          ⟨HC.out.still k9, k9.at HO.out (by simp), k9.at HK.out (by simp), k9.at HS.out (by simp), alloc_off (alloc_off (alloc_at' _ hX)), alloc_off (alloc_at' _ (by simp [hX])), alloc_at' _ (by simp [hX])⟩
        have hXB : B + 8 ≤ X := by omega
        obtain ⟨N, hN60, hNl, hNA, hNB⟩ : ∃ N : Nat, N ≤ 60 ∧ N ≤ len ∧ (len ≤ 60 → N = len) ∧ (60 < len → N = 60) := ⟨min len 60, by omega, by omega, by omega, by omega⟩
        clear HC HO HK HS k9 hX hsz hs3
        generalize (((wr.alloc (.cells #[.int .i64 0, .int .i64 0, .int .i64 0, .int .i64 0] 34)).alloc (.cells #[.int .i64 0, .int .i64 0, .int .i64 0, .int .i64 0] 34)).alloc (.cells #[.int .i64 0] 3)) = w9 at *
        go_cut [15, 16] from 74 to 228 (fun _ _ wr => ∃ (r I : Nat) (l : Lk) (c : Nat) (ts : List T) (v : Value), c ≤ 1000 ∧ X + 1 < I ∧ Hall B O K S X (X + 1) I r (.slice ao len cap) v qs ts l c (ts.map T.s) (ts.map T.t) (ts.map T.a) l.xs l.ys w wr)
        case first =>
          go_wp2_with fail
          go_loopg [15, 16] N (fun gk cv iv wr => ∃ (r I : Nat) (l : Lk) (c : Nat) (ts : List T), r ≤ N ∧ gk = N - r ∧ iv = .pointer (some ⟨I, 0, none⟩) ∧ cv = .int .i64 c ∧ c ≤ r ∧ l.low r ∧ X + 1 < I ∧ Sane ts ∧ Hall B O K S X (X + 1) I r (.slice ao len cap) (.slice (some ⟨g, 0, none⟩) j cp) qs ts l c (ts.map T.s) (ts.map T.t) (ts.map T.a) l.xs l.ys w wr)
          case atStart => exact ⟨0, _, ⟨0, 0, 0, 0⟩, 0, _, by omega, rfl, rfl, rfl, by omega, ⟨by decide, by decide, by decide, by decide⟩, by omega, Sane.made j, HH0.out⟩
          case round =>
            obtain ⟨r, I, l, c, ts, hr, hgk, rfl, rfl, hcr, hl, hI, hSa, hH⟩ := hrel
            clear HH0
            have Hgk : Hid _ := hgk
            clear hgk
            have i1 := cell_at hH.fI (i := 0) rfl
            have i2 := cell_at hH.core.lbox (i := 0) rfl
            by_cases hrN : r < N
            · have hrl : (r : Int) < (len : Int) := by omega
              have hr60 : (r : Int) < 60 := by omega
              obtain ⟨hc1, hc2⟩ := hc r (by omega)
              have d1 := hH.core.kept.cell hc1 (by simp)
              obtain rfl := hao (by omega)
              obtain ⟨x, hx, hxj⟩ : ∃ x : Nat, 0 + L r % ((j : Int) - 1 - 0 + 1) = x ∧ x < j := ⟨(L r % j).toNat, by rw [show (j : Int) - 1 - 0 + 1 = j by omega]; have := Int.emod_nonneg (L r) (show (j : Int) ≠ 0 by omega); omega, by have := Int.emod_nonneg (L r) (show (j : Int) ≠ 0 by omega); have := Int.emod_lt_of_pos (L r) (show (0 : Int) < j by omega); omega⟩
              have hxj' : (x : Int) < (j : Int) := by omega
              have hxq : x < qs.length := by omega
              have htl : ts.length = j := by rw [hH.core.tries.len, hql]
              obtain ⟨a, ha, ha13, hs0, hs3⟩ := hSa x (by omega)
              have htr := hH.core.tries.each x hxq
              have bs := cell_at hH.fS (i := x) (by simpa using ints_get (col_get T.a (show x < ts.length by omega)))
              obtain ⟨s, hs⟩ : ∃ s, (td ts x).s = s := ⟨_, rfl⟩
              obtain ⟨t, ht⟩ : ∃ t, (td ts x).t = t := ⟨_, rfl⟩
              rw [ha, hs, ht] at htr
              rw [ha] at bs
              rw [hs] at hs0 hs3
              have hlow := hH.core.tries.low x hxq
              have hAsk := hH.laid hxq htr hc2 (by omega)
              have G := ask_g _ _ _ _ _ _ _ _ _ _ _ _ _ _ _ _ _ _ _ _ _ a s t r ha13 hl (by omega) (by omega) ⟨hs0, hs3⟩ (by omega) (by omega) _ hAsk
              obtain ⟨f1, f2, f3, f4⟩ := play_facts (V r) a l s t r hl ⟨hs0, hs3⟩
              obtain ⟨z, hz⟩ : ∃ z, play (V r) a l s t = z := ⟨_, rfl⟩
              rw [hz] at G f1 f2 f3 f4
              obtain ⟨u0, u1, hu⟩ := told_agg z.o
              obtain ⟨sb, hsb⟩ : ∃ sb, z.o.stopped = sb := ⟨_, rfl⟩
              rw [hu, hsb] at G
              have HZ : Hid _ := hz
              have HU : Hid (z.o.told = .agg #[.int .i64 u0, .int .i64 u1] ∧ z.o.stopped = sb) := And.intro hu hsb
              have HT : Hid ((td ts x).a = a ∧ (td ts x).s = s ∧ (td ts x).t = t) := And.intro ha (And.intro hs ht)
              have HS : Hid (Sane ts) := hSa
              have HC2 : Hid _ := hc2
              have HL : Hid (l.low r) := hl
              have HF : Hid (z.x.a = a ∧ (0 ≤ z.x.s ∧ z.x.s ≤ 3) ∧ z.l.low (r + 1) ∧ z.dc ≤ 1) := And.intro f1 (And.intro f2 (And.intro f3 f4))
              have HH : Hid _ := hH
              unfold laidW at G
              have lI := lt_at hH.fI
              have lB := lt_at hH.core.lbox
              have lM := lt_at hH.core.mbox
              have lV := lt_at hH.core.vbox
              have lS := lt_at hH.fS
              obtain ⟨J, hJ⟩ : ∃ J : Nat, wr.heap.size = J := ⟨_, rfl⟩
              rw [hJ] at lI lB lM lV lS G
              clear hz hu hsb hs ht ha hSa hH hl f1 f2 f3 f4 htr hAsk hc1 hc2 hao hc
              go_upto_region 23 with fail
              refine (within_any (L r) 0 (j - 1) (by decide) (by omega) (by omega) _).mono ?_
              rintro e w4 ⟨rfl, rfl⟩
              simp only [hx]
              clear hx
              go_wp2_with fail
              refine G.mono ?_
              rintro e w5 ⟨rfl, hgone, hk5⟩
              obtain ⟨hLie, hTurn⟩ := HH.out.turn (j := x) hxq z u0 u1 o1 o2 k1 k2 s1 s2 ok os ks hXB rfl hI (by rw [hJ]; exact hgone) (by rw [hJ]; exact hk5)
              rw [hJ] at hLie hTurn
              obtain ⟨U, hU⟩ : ∃ U : Nat, w5.heap.size = U := ⟨_, rfl⟩
              rw [hU] at hLie hTurn
              have lZU : J + 1 + 1 < U := hLie.u
              have HLie : Hid _ := hLie
              clear G hgone hk5 hLie i1 i2 d1 bs HH lI lB lM lV lS hJ
              go_upto_block 4 with fail
              rw [show J + 1 + 1 = J + 2 from rfl]
              rw [show J + 1 + 1 = J + 2 from rfl] at lZU
              generalize w5.alloc (.cells #[.int .i64 u0, .int .i64 u1] 38) = w6 at *
              have HT6 : Hid (Turn B O K S X (X + 1) I J (J + 1) (J + 2) U r x (.slice (some ⟨lb, off, none⟩) len cap) (.slice (some ⟨g, 0, none⟩) j cp) qs (ts.set x z.x) z.l ((c + z.dc : Nat) : Int) (ts.map T.s) (ts.map T.t) (ts.map T.a) l.xs l.ys z.got 0 0 u0 u1 w w6) := hTurn
              clear hTurn hU
              go_cut [15, 20] from 102 to 182 (fun cv wv wx => cv = .int .i64 ((c + z.dc : Nat) : Int) ∧ wv = .bool z.got ∧ Turn B O K S X (X + 1) I J (J + 1) (J + 2) U r x (.slice (some ⟨lb, off, none⟩) len cap) (.slice (some ⟨g, 0, none⟩) j cp) qs (ts.set x z.x) z.l (c + z.dc : Nat) ((ts.set x z.x).map T.s) ((ts.set x z.x).map T.t) ((ts.set x z.x).map T.a) z.l.xs z.l.ys z.got u0 u1 u0 u1 w wx)
              case first =>
                have hT := HT6.out
                have hL := HLie.out
                have e1 := cell_at hT.core.lbox (i := 0) rfl
                have e2 := cell_at hT.fI (i := 0) rfl
                have e3 := cell_at hT.fJ (i := 0) rfl
                have e4 := hT.core.kept.cell HC2.out (by simp)
                have e5 := cell_at hT.fO (i := x) (by simpa using ints_get (col_get T.s (show x < ts.length by omega)))
                have e6 := cell_at hT.fK (i := x) (by simpa using ints_get (col_get T.t (show x < ts.length by omega)))
                have e7 := cell_at hT.fX (i := a) (by simpa using ints_get (Lk.xs_get ha13))
                have e8 := cell_at hT.fY (i := a) (by simpa using ints_get (Lk.ys_get ha13))
                have g5 := free_at hT.fO x
                have g6 := free_at hT.fK x
                have g7 := free_at hT.fX a
                have g8 := free_at hT.fY a
                have e9 := cell_at hT.fZ (i := 0) rfl
                have e10 := cell_at hT.fZ (i := 1) rfl
                have g9 := free_at hT.fZ 0
                have g10 := free_at hT.fZ 1
                rw [HT.out.2.1] at e5
                rw [HT.out.2.2] at e6
                have ta : (a : Int) < 4 := by omega
                have nxl : l.nx a ≤ 60 := by have := Lk.nx_le (a := a) HL.out; omega
                have tnl : l.tn a ≤ 60 := by have := Lk.tn_le (a := a) HL.out; omega
                have nxl' : (l.nx a : Int) ≤ 60 := by omega
                have tnl' : (l.tn a : Int) ≤ 60 := by omega
                obtain ⟨lB, l1, l2, l3, l4, l5, l6, l7, l8, l9, l10, l11, l12, l13, l14, l15, l16⟩ := hL
                have n0 : ¬ J = K := by omega
                have m0 : ¬ K = J := by omega
                have n1 : ¬ J = O := by omega
                have m1 : ¬ O = J := by omega
                have n2 : ¬ K = O := by omega
                have m2 : ¬ O = K := by omega
                have n3 : ¬ X = K := by omega
                have m3 : ¬ K = X := by omega
                have n4 : ¬ X = O := by omega
                have m4 : ¬ O = X := by omega
                have n5 : ¬ J = X + 1 := by omega
                have m5 : ¬ X + 1 = J := by omega
                have n6 : ¬ X + 1 = O := by omega
                have m6 : ¬ O = X + 1 := by omega
                clear lB l1 l2 l3 l4 l5 l6 l7 l8 l9 l10 l11 l12 l13 l14 l15 l16 hT
                cases hV : V r
                · rw [hV] at e4
                  rcases (show s = 0 ∨ s = 1 ∨ s = 2 ∨ s = 3 by omega) with rfl | rfl | rfl | rfl
                  · as_aux_lemma =>
                    go_wp2_with fail
                    go_region
                    all_goals (try go_wp2)
                    go_meet
                    case rel =>
                      have hz := HZ.out
                      rw [hV, play_s0] at hz
                      subst hz
                      obtain ⟨hu, _⟩ := HU.out
                      simp [Out.told, stopV] at hu
                      obtain ⟨rfl, rfl⟩ := hu
                      have hT := (((HT6.out.putK HLie.out x (l.nx a : Int)).putO HLie.out x 1).putX HLie.out a ((l.nx a + 1 : Nat) : Int)).still (Kept.refl _ _).drew
                      have hxt : x < ts.length := by omega
                      rw [← col_set T.s ts x ⟨a, 1, (l.nx a : Int)⟩, ← col_set T.t ts x ⟨a, 1, (l.nx a : Int)⟩, ← col_same T.a (x := ⟨a, 1, (l.nx a : Int)⟩) hxt HT.out.1.symm] at hT
                      rw [← Lk.xs_upN ha13, ← Lk.ys_upN (l := l) ha13] at hT
                      exact ⟨by first | rfl | go_num, rfl, hT⟩
                  · by_cases hte : (l.tn a : Int) = t
                    · have hte1 : ((l.tn a : Int) == t) = true := by simpa using hte
                      as_aux_lemma =>
                      go_wp2_with fail
                      go_quiet (fail)
                      go_wp2
                      go_meet
                      case rel =>
                        have hz := HZ.out
                        rw [hV, play_s1 hte] at hz
                        subst hz
                        obtain ⟨hu, _⟩ := HU.out
                        simp [Out.told, stopV] at hu
                        obtain ⟨rfl, rfl⟩ := hu
                        have hT := (HT6.out.still (w' := w6.drewN nq) ⟨rfl, rfl, rfl, Nat.le_refl _, fun _ _ _ => rfl⟩).putO HLie.out x 2
                        have hxt : x < ts.length := by omega
                        rw [← col_set T.s ts x ⟨a, 2, t⟩, ← col_same T.t (x := ⟨a, 2, t⟩) hxt HT.out.2.2.symm, ← col_same T.a (x := ⟨a, 2, t⟩) hxt HT.out.1.symm] at hT
                        exact ⟨by first | rfl | go_num, rfl, hT⟩
                    · have hte1 : ((l.tn a : Int) == t) = false := by simpa using hte
                      as_aux_lemma =>
                      go_wp2_with fail
                      go_quiet (fail)
                      go_wp2
                      go_meet
                      case rel =>
                        have hz := HZ.out
                        rw [hV, play_s1n hte] at hz
                        subst hz
                        obtain ⟨hu, _⟩ := HU.out
                        simp [Out.told, stopV] at hu
                        obtain ⟨rfl, rfl⟩ := hu
                        have hT := HT6.out.still (w' := w6.drewN nq) ⟨rfl, rfl, rfl, Nat.le_refl _, fun _ _ _ => rfl⟩
                        have hxt : x < ts.length := by omega
                        rw [← col_same T.s (x := ⟨a, 1, t⟩) hxt HT.out.2.1.symm, ← col_same T.t (x := ⟨a, 1, t⟩) hxt HT.out.2.2.symm, ← col_same T.a (x := ⟨a, 1, t⟩) hxt HT.out.1.symm] at hT
                        exact ⟨by first | rfl | go_num, rfl, hT⟩
                  · as_aux_lemma =>
                    go_wp2
                    go_meet
                    case rel =>
                      have hz := HZ.out
                      rw [hV, play_s2] at hz
                      subst hz
                      obtain ⟨hu, _⟩ := HU.out
                      simp [Out.told, stopV] at hu
                      obtain ⟨rfl, rfl⟩ := hu
                      have hT := HT6.out
                      have hxt : x < ts.length := by omega
                      rw [← col_same T.s (x := ⟨a, 2, t⟩) hxt HT.out.2.1.symm, ← col_same T.t (x := ⟨a, 2, t⟩) hxt HT.out.2.2.symm, ← col_same T.a (x := ⟨a, 2, t⟩) hxt HT.out.1.symm] at hT
                      exact ⟨by first | rfl | go_num, rfl, hT⟩
                  · as_aux_lemma =>
                    go_wp2
                    go_meet
                    case rel =>
                      have hz := HZ.out
                      rw [hV, play_s3] at hz
                      subst hz
                      obtain ⟨hu, _⟩ := HU.out
                      simp [Out.told, stopV] at hu
                      obtain ⟨rfl, rfl⟩ := hu
                      have hT := HT6.out.putZ HLie.out 9 a
                      have hxt : x < ts.length := by omega
                      rw [← col_same T.s (x := ⟨a, 3, t⟩) hxt HT.out.2.1.symm, ← col_same T.t (x := ⟨a, 3, t⟩) hxt HT.out.2.2.symm, ← col_same T.a (x := ⟨a, 3, t⟩) hxt HT.out.1.symm] at hT
                      exact ⟨by first | rfl | go_num, rfl, hT⟩
                · rw [hV] at e4
                  by_cases hs2 : s = 2
                  · subst hs2
                    as_aux_lemma =>
                    go_wp2
                    go_meet
                    case rel =>
                      have hz := HZ.out
                      rw [hV, play_l2] at hz
                      subst hz
                      obtain ⟨hu, _⟩ := HU.out
                      simp [Out.told, stopV] at hu
                      obtain ⟨rfl, rfl⟩ := hu
                      have hT := (HT6.out.putY HLie.out a ((l.tn a + 1 : Nat) : Int)).putO HLie.out x 3
                      have hxt : x < ts.length := by omega
                      rw [← col_set T.s ts x ⟨a, 3, t⟩, ← col_same T.t (x := ⟨a, 3, t⟩) hxt HT.out.2.2.symm, ← col_same T.a (x := ⟨a, 3, t⟩) hxt HT.out.1.symm] at hT
                      rw [← Lk.ys_upT ha13, ← Lk.xs_upT (l := l) ha13] at hT
                      exact ⟨by first | rfl | go_num, rfl, hT⟩
                  · have hs2' : (s != 2) = true := by simpa using hs2
                    have hs2'' : (s == 2) = false := by simpa using hs2
                    as_aux_lemma =>
                    go_wp2
                    go_meet
                    case rel =>
                      have hz := HZ.out
                      rw [hV, play_lx hs2] at hz
                      subst hz
                      obtain ⟨hu, _⟩ := HU.out
                      simp [Out.told, stopV] at hu
                      obtain ⟨rfl, rfl⟩ := hu
                      have hT := HT6.out.putZ HLie.out 6 a
                      have hxt : x < ts.length := by omega
                      rw [← col_same T.s (x := ⟨a, s, t⟩) hxt HT.out.2.1.symm, ← col_same T.t (x := ⟨a, s, t⟩) hxt HT.out.2.2.symm, ← col_same T.a (x := ⟨a, s, t⟩) hxt HT.out.1.symm] at hT
                      exact ⟨by first | rfl | go_num, rfl, hT⟩
              case rest =>
                as_aux_lemma =>
                obtain ⟨rfl, rfl, hT⟩ := hcut
                have hcase : (sb = false ∧ u0 = 0 ∧ u1 = 0) ∨ (sb = true ∧ u0 ≠ 0) := by
                  obtain ⟨hu, hsb⟩ := HU.out
                  have hz := HZ.out
                  rcases out_is z.o with ho | ⟨p, q, ho⟩ | ho
                  · rw [ho] at hu hsb; simp [Out.told, stopV] at hu; exact .inl ⟨hsb.symm, hu.1.symm, hu.2.symm⟩
                  · rw [ho] at hu hsb; simp [Out.told, stopV] at hu
                    refine .inr ⟨hsb.symm, fun e => ?_⟩
                    have hp : p = 0 := by rw [hu.1, e]
                    rw [← hz] at ho
                    exact play_why (V r) a l s t p q ho hp
                  · rw [ho] at hu hsb; simp [Out.told, stopV] at hu; exact .inr ⟨hsb.symm, by omega⟩
                obtain ⟨hxa, ⟨hx0, hx3⟩, hlow', hdc⟩ := HF.out
                have HL' : Hid (z.l.low (r + 1)) := hlow'
                have HSa : Hid (Sane (ts.set x z.x)) := HS.out.set hxa ha13 ⟨hx0, hx3⟩
                have htl2 : (ts.set x z.x).length = j := by simpa using htl
                have htr := hT.core.tries.each x hxq
                have e1 := cell_at hT.fG (i := 0) rfl
                have e2 := cell_at hT.fZ (i := 0) rfl
                have e3 := cell_at hT.fZ (i := 1) rfl
                have e4 := cell_at hT.fU (i := 0) rfl
                have e5 := cell_at hT.fU (i := 1) rfl
                have e6 := cell_at hT.core.vbox (i := 0) rfl
                have e7 := cell_at hT.fJ (i := 0) rfl
                have e8 := hT.core.tries.cell hxq
                have e9 := cell_at hT.fO (i := x) (by simpa using ints_get (col_get T.s (show x < (ts.set x z.x).length by omega)))
                have e10 := cell_at hT.fK (i := x) (by simpa using ints_get (col_get T.t (show x < (ts.set x z.x).length by omega)))
                have e11 := cell_at hT.core.mbox (i := 0) rfl
                have e12 := cell_at hT.fI (i := 0) rfl
                have f12 := free_at hT.fI 0
                have KN := fun m => kept_drewN wc m
                have A := fun m => Calls.quiet_of_same (at_w _ _ _ _ (wc.drewN m) ((KN m).at htr (by simp)))
                have Z := fun m => Calls.quiet_of_same (ticket_w _ _ _ _ (wc.drewN m) ((KN m).at htr (by simp)))
                have C := fun m => Calls.quiet_of_same (count_w _ _ _ _ (wc.drewN m) (hT.core.mem.kept (KN m) (by simp) (by simp)))
                generalize (td (ts.set x z.x) x).s = s9 at *
                generalize (td (ts.set x z.x) x).t = t9 at *
                have HTT : Hid _ := hT
                clear hT htr HT6 HF HU HZ HT HS HL hlow' hx0 hx3 hxa KN
                rcases hcase with ⟨rfl, rfl, rfl⟩ | ⟨rfl, hu0⟩
                · as_aux_lemma =>
                  go_wp2_with fail
                  go_quiet (first
                    | (go_at_call 12; exact A _)
                    | (go_at_call 13; exact Z _)
                    | (go_at_call 14; exact C _))
                  clear A Z C
                  have hQ := HTT.out.still (kept_drewN wc nq)
                  clear e1 e2 e3 e4 e5 e6 e7 e8 e9 e10 e11 e12 f12 HTT
                  generalize wc.drewN nq = wd at *
                  have e12 := cell_at hQ.fI (i := 0) rfl
                  have lI := lt_at hQ.fI
                  obtain ⟨D, hD⟩ : ∃ D : Nat, wd.heap.size = D := ⟨_, rfl⟩
                  rw [hD] at lI
                  have kk : Kept (fun _ => False) wd (wd.alloc (.cells #[.int .i64 ((r : Int) + 1)] 3)) := (Kept.refl _ _).alloc _
                  have HN : Hid (Hall B O K S X (X + 1) D (r + 1) (.slice (some ⟨lb, off, none⟩) len cap) (.slice (some ⟨g, 0, none⟩) j cp) qs (ts.set x z.x) z.l ((c + z.dc : Nat) : Int) ((ts.set x z.x).map T.s) ((ts.set x z.x).map T.t) ((ts.set x z.x).map T.a) z.l.xs z.l.ys w (wd.alloc (.cells #[.int .i64 ((r : Int) + 1)] 3))) :=
                    ⟨hQ.core.still kk, kk.at hQ.fO (by simp), kk.at hQ.fK (by simp), kk.at hQ.fS (by simp), kk.at hQ.fX (by simp), kk.at hQ.fY (by simp), by have := alloc_at' (w := wd) (.cells #[.int .i64 ((r : Int) + 1)] 3) hD; simpa using this⟩
                  clear hQ kk
                  go_wp2
                  go_roundg (N - (r + 1))
                  case measure => have := Hgk.out; omega
                  case rel => exact ⟨r + 1, D, z.l, c + z.dc, ts.set x z.x, by omega, rfl, rfl, by first | rfl | go_num, by omega, HL'.out, by omega, HSa.out, HN.out⟩
                · have hu0' : (u0 == 0) = false := by simpa using hu0
                  as_aux_lemma =>
                  go_wp2_with fail
                  go_quiet (first
                    | (go_at_call 12; exact A _)
                    | (go_at_call 13; exact Z _)
                    | (go_at_call 14; exact C _))
                  clear A Z C
                  have hQ := HTT.out.still (kept_drewN wc nq)
                  clear e1 e2 e3 e4 e5 e6 e7 e8 e9 e10 e11 e12 f12 HTT
                  generalize wc.drewN nq = wd at *
                  have e12 := cell_at hQ.fI (i := 0) rfl
                  have lI := lt_at hQ.fI
                  obtain ⟨D, hD⟩ : ∃ D : Nat, wd.heap.size = D := ⟨_, rfl⟩
                  rw [hD] at lI
                  have kk : Kept (fun _ => False) wd (wd.alloc (.cells #[.int .i64 ((r : Int) + 1)] 3)) := (Kept.refl _ _).alloc _
                  have HN : Hid (Hall B O K S X (X + 1) D (r + 1) (.slice (some ⟨lb, off, none⟩) len cap) (.slice (some ⟨g, 0, none⟩) j cp) qs (ts.set x z.x) z.l ((c + z.dc : Nat) : Int) ((ts.set x z.x).map T.s) ((ts.set x z.x).map T.t) ((ts.set x z.x).map T.a) z.l.xs z.l.ys w (wd.alloc (.cells #[.int .i64 ((r : Int) + 1)] 3))) :=
                    ⟨hQ.core.still kk, kk.at hQ.fO (by simp), kk.at hQ.fK (by simp), kk.at hQ.fS (by simp), kk.at hQ.fX (by simp), kk.at hQ.fY (by simp), by have := alloc_at' (w := wd) (.cells #[.int .i64 ((r : Int) + 1)] 3) hD; simpa using this⟩
                  clear hQ kk
                  go_wp2
                  go_roundg (N - (r + 1))
                  case measure => have := Hgk.out; omega
                  case rel => exact ⟨r + 1, D, z.l, c + z.dc, ts.set x z.x, by omega, rfl, rfl, by first | rfl | go_num, by omega, HL'.out, by omega, HSa.out, HN.out⟩
            · have hrr : r = N := by omega
              subst hrr
              have HH : Hid _ := hH
              clear hc hH hSa hl hrN hr
              rcases (show (len ≤ 60 ∧ r = len) ∨ (60 < len ∧ r = 60) by omega) with ⟨hl, hrl⟩ | ⟨hl, hrl⟩
              · have t1 : ¬ (r : Int) < (len : Int) := by omega
                clear hrl hNA hNB hl
                go_wp2
                go_meet
                case rel => exact ⟨r, I, l, c, ts, _, by omega, hI, HH.out⟩
              · have t1 : (r : Int) < (len : Int) := by omega
                have t2 : ¬ (r : Int) < 60 := by omega
                clear hrl hNA hNB hl
                go_wp2
                go_meet
                case rel => exact ⟨r, I, l, c, ts, _, by omega, hI, HH.out⟩
        case rest =>
          obtain ⟨r, I, l, c, ts, v, hc1000, hI', hH⟩ := hcut
          clear HH0 hc hao
          have HH : Hid _ := hH
          clear hH
          go_wp2_with fail
          go_loopw [24] (fun bv wr => ∃ (q c' : Nat), q ≤ 2 ∧ bv = .int .i64 (1 + 2 * (q : Int)) ∧ c' ≤ 1000 + 2 * q ∧ Hall B O K S X (X + 1) I r (.slice ao len cap) v qs ts l c' (ts.map T.s) (ts.map T.t) (ts.map T.a) l.xs l.ys w wr)
            (fun b _ => 6 - (intOf b).toNat)
          case atStart => exact ⟨0, c, by omega, rfl, by omega, HH.out⟩
          case round =>
            obtain ⟨q, c', hq, rfl, hc', hH⟩ := hrel
            clear HH
            rcases (show q = 0 ∨ q = 1 ∨ q = 2 by omega) with rfl | rfl | rfl
            · simp only [show (1 : Int) + 2 * ((0 : Nat) : Int) = 1 from rfl]
              have e1 := cell_at hH.core.mbox (i := 0) rfl
              have e2 : wr.cell? ⟨X, 1, none⟩ = some (.int .i64 (l.n1 : Int)) := cell_at hH.fX (i := 1) rfl
              have e3 : wr.cell? ⟨X + 1, 1, none⟩ = some (.int .i64 (l.t1 : Int)) := cell_at hH.fY (i := 1) rfl
              have LA : Calls Try.prog 18 #[.pointer (some ⟨B + 2, 0, none⟩), .int .i64 1] wr.drew fun e w' => e = .returned (.int .i64 (l.n1 : Int)) ∧ MemIn (B + 2) (B + 1) l.ws ((c' : Int) + 1) w' ∧ Kept (fun k => k = B + 2) wr.drew w' := load_ok (B + 2) (B + 1) l.ws c' 1 (by simp [Lk.ws]) (by omega) wr.drew hH.core.mem.drew
              have HH : Hid _ := hH
              have p1 : ¬ B + 3 = B + 2 := by omega
              have p2 : ¬ X = B + 2 := by omega
              have p3 : ¬ X + 1 = B + 2 := by omega
              clear hH
              go_wp2_with fail
              go_region_held3 (fun w' => w'.cell? ⟨B + 3, 0, none⟩ = some (.pointer (some ⟨B + 2, 0, none⟩)) ∧ w'.cell? ⟨X, 1, none⟩ = some (.int .i64 (l.n1 : Int)) ∧ w'.cell? ⟨X + 1, 1, none⟩ = some (.int .i64 (l.t1 : Int))) (simp [*])
                (first
                  | (go_at_call 18; refine LB.mono ?_; rintro e w6 ⟨rfl, hM6, hk6⟩; have f1 := hk6.cell d1 p1; have f2 := hk6.cell d2 p2; have f3 := hk6.cell d3 p3)
                  | (go_at_call 18; refine LA.mono ?_; rintro e w5 ⟨rfl, hM5, hk5⟩; have d1 := hk5.cell e1 p1; have d2 := hk5.cell e2 p2; have d3 := hk5.cell e3 p3; have LB : Calls Try.prog 18 #[.pointer (some ⟨B + 2, 0, none⟩), .int .i64 (IntKind.i64.wrap 2)] w5 fun e w' => e = .returned (.int .i64 (l.t1 : Int)) ∧ MemIn (B + 2) (B + 1) l.ws ((c' : Int) + 1 + 1) w' ∧ Kept (fun k => k = B + 2) w5 w' := load_ok (B + 2) (B + 1) l.ws ((c' : Int) + 1) 2 (by simp [Lk.ws]) (by omega) w5 hM5))
              have HH6 : Hid _ := HH.out.loaded ((c' + 2 : Nat) : Int) (by omega) (by omega) (by rw [show ((c' + 2 : Nat) : Int) = (c' : Int) + 1 + 1 by omega]; exact hM6) (Kept.trans (Kept.trans (Kept.refl (fun k => k = B + 2) wr).drew hk5 (fun _ _ e => e)) hk6 (fun _ _ e => e))
              clear LA LB hM5 hM6 hk5 hk6 d1 d2 d3 f1 f2 f3 e1 e2 e3 HH
              go_wp2
              go_roundw
              case rel => exact ⟨0 + 1, c' + 2, by omega, by go_num, by omega, HH6.out⟩
              case measure => simp [intOf]
            · simp only [show (1 : Int) + 2 * ((1 : Nat) : Int) = 3 from rfl]
              have e1 := cell_at hH.core.mbox (i := 0) rfl
              have e2 : wr.cell? ⟨X, 3, none⟩ = some (.int .i64 (l.n3 : Int)) := cell_at hH.fX (i := 3) rfl
              have e3 : wr.cell? ⟨X + 1, 3, none⟩ = some (.int .i64 (l.t3 : Int)) := cell_at hH.fY (i := 3) rfl
              have LA : Calls Try.prog 18 #[.pointer (some ⟨B + 2, 0, none⟩), .int .i64 3] wr.drew fun e w' => e = .returned (.int .i64 (l.n3 : Int)) ∧ MemIn (B + 2) (B + 1) l.ws ((c' : Int) + 1) w' ∧ Kept (fun k => k = B + 2) wr.drew w' := load_ok (B + 2) (B + 1) l.ws c' 3 (by simp [Lk.ws]) (by omega) wr.drew hH.core.mem.drew
              have HH : Hid _ := hH
              have p1 : ¬ B + 3 = B + 2 := by omega
              have p2 : ¬ X = B + 2 := by omega
              have p3 : ¬ X + 1 = B + 2 := by omega
              clear hH
              go_wp2_with fail
              go_region_held3 (fun w' => w'.cell? ⟨B + 3, 0, none⟩ = some (.pointer (some ⟨B + 2, 0, none⟩)) ∧ w'.cell? ⟨X, 3, none⟩ = some (.int .i64 (l.n3 : Int)) ∧ w'.cell? ⟨X + 1, 3, none⟩ = some (.int .i64 (l.t3 : Int))) (simp [*])
                (first
                  | (go_at_call 18; refine LB.mono ?_; rintro e w6 ⟨rfl, hM6, hk6⟩; have f1 := hk6.cell d1 p1; have f2 := hk6.cell d2 p2; have f3 := hk6.cell d3 p3)
                  | (go_at_call 18; refine LA.mono ?_; rintro e w5 ⟨rfl, hM5, hk5⟩; have d1 := hk5.cell e1 p1; have d2 := hk5.cell e2 p2; have d3 := hk5.cell e3 p3; have LB : Calls Try.prog 18 #[.pointer (some ⟨B + 2, 0, none⟩), .int .i64 (IntKind.i64.wrap 4)] w5 fun e w' => e = .returned (.int .i64 (l.t3 : Int)) ∧ MemIn (B + 2) (B + 1) l.ws ((c' : Int) + 1 + 1) w' ∧ Kept (fun k => k = B + 2) w5 w' := load_ok (B + 2) (B + 1) l.ws ((c' : Int) + 1) 4 (by simp [Lk.ws]) (by omega) w5 hM5))
              have HH6 : Hid _ := HH.out.loaded ((c' + 2 : Nat) : Int) (by omega) (by omega) (by rw [show ((c' + 2 : Nat) : Int) = (c' : Int) + 1 + 1 by omega]; exact hM6) (Kept.trans (Kept.trans (Kept.refl (fun k => k = B + 2) wr).drew hk5 (fun _ _ e => e)) hk6 (fun _ _ e => e))
              clear LA LB hM5 hM6 hk5 hk6 d1 d2 d3 f1 f2 f3 e1 e2 e3 HH
              go_wp2
              go_roundw
              case rel => exact ⟨1 + 1, c' + 2, by omega, by go_num, by omega, HH6.out⟩
              case measure => simp [intOf]
            · simp only [show (1 : Int) + 2 * ((2 : Nat) : Int) = 5 from rfl]
              have HK : Hid _ := hH.core.kept
              clear hH
              go_wp2_with fail
              refine (runs_w _).mono ?_
              rintro e w8 ⟨rfl, k8⟩
              have HK8 : Hid _ := k8
              clear k8
              go_wp2
              go_ret
              exact ⟨rfl, HK.out.trans HK8.out (fun _ _ e => e)⟩
end Go.Proofs.Ytlfcbijgncpieaa
