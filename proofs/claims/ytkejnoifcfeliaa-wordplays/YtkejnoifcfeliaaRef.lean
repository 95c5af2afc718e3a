/- What the given reference's memory does at each access; no conditions. -/
import Derived.Test.YtkejnoifcfeliaaMem
namespace Go.Proofs.Ytkejnoifcfeliaa
open Go.RowKit

/-- The reference's memory in block r, its words in block b; why: why the last access stopped. -/
structure RefIn (r b : Nat) (ws : List Int) (c why : Int) (w : World) : Prop where
  mem : w.heap[r]? = some (.cells #[.slice (some ⟨b, 0, none⟩) ws.length ws.length, .int .i64 c, .int .i64 why] 37 (0, 0))
  row : w.heap[b]? = some (.cells (ws.map (Value.int .i64)).toArray 3 (0, 0))
  ne : r ≠ b

theorem RefIn.kept {r b : Nat} {ws : List Int} {c why : Int} {w w' : World} {X : Nat → Prop} (h : RefIn r b ws c why w) (hk : Kept X w w') (hp : ¬ X r) (hb : ¬ X b) : RefIn r b ws c why w' :=
  ⟨hk.at h.mem hp, hk.at h.row hb, h.ne⟩

theorem RefIn.counted {r b : Nat} {ws : List Int} {c why : Int} {w : World} (h : RefIn r b ws c why w) (c' : Int) : RefIn r b ws c' why (w.setCell ⟨r, 1, none⟩ (.int .i64 c')) :=
  ⟨set_at h.mem 1 _, (set_off _ h.ne.symm).trans h.row, h.ne⟩

theorem RefIn.told {r b : Nat} {ws : List Int} {c why : Int} {w : World} (h : RefIn r b ws c why w) (y : Int) : RefIn r b ws c y (w.setCell ⟨r, 2, none⟩ (.int .i64 y)) :=
  ⟨set_at h.mem 2 _, (set_off _ h.ne.symm).trans h.row, h.ne⟩

theorem RefIn.put {r b : Nat} {ws : List Int} {c why : Int} {w : World} (h : RefIn r b ws c why w) (a : Nat) (v : Int) : RefIn r b (ws.set a v) c why (w.setCell ⟨b, a, none⟩ (.int .i64 v)) :=
  ⟨(set_off _ h.ne).trans (by simpa using h.mem), row_put h.row a v, h.ne⟩

theorem refat_ok (r b : Nat) (ws : List Int) (c why : Int) (a : Nat) (ha : a < ws.length) (hc : 0 ≤ c ∧ c ≤ 1000000) (w : World) (h : RefIn r b ws c why w) :
    Calls Try.prog 31 #[.pointer (some ⟨r, 0, none⟩), .int .i64 a] w fun e w' => e = .returned (.bool true) ∧ RefIn r b ws (c + 1) 0 w' ∧ Kept (fun k => k = r) w w' := by
  have h1 := (h.told 0)
  have h2 := h1.counted (c + 1)
  have c0 := cell_at h.mem (i := 0) rfl
  have c1 := cell_at h.mem (i := 1) rfl
  have c2 := cell_at h.mem (i := 2) rfl
  have f1 := free_at h.mem 1
  have f2 := free_at h.mem 2
  have ha' : (a : Int) < (ws.length : Int) := by omega
  have hd : decide ((a : Int) < (0 : Int)) = false := by simp
  have hd1 : decide ((ws.length : Int) ≤ (a : Int)) = false := by simp; omega
  have HH : Hid _ := h2
  clear h2 h1 h
  go_enter Try.func31, Try.ntmps31
  go_wp2
  go_ret
  refine ⟨rfl, HH.out, kept_counted (X := fun k => k = r) (kept_counted (X := fun k => k = r) (Kept.refl _ _) rfl _ _) rfl _ _⟩

theorem refat_no (r b : Nat) (ws : List Int) (c why : Int) (a : Int) (ha : a < 0 ∨ (ws.length : Int) ≤ a) (w : World) (h : RefIn r b ws c why w) :
    Calls Try.prog 31 #[.pointer (some ⟨r, 0, none⟩), .int .i64 a] w fun e w' => e = .returned (.bool false) ∧ RefIn r b ws c 2 w' ∧ Kept (fun k => k = r) w w' := by
  have h1 := (h.told 0)
  have h2 := h1.told 2
  have c0 := cell_at h.mem (i := 0) rfl
  have c2 := cell_at h.mem (i := 2) rfl
  have f2 := free_at h.mem 2
  have HH : Hid _ := h2
  clear h2 h1 h
  by_cases h0 : a < 0
  · have hd : decide (a < (0 : Int)) = true := by simp; omega
    go_enter Try.func31, Try.ntmps31
    go_wp2
    go_ret
    refine ⟨rfl, HH.out, kept_counted (X := fun k => k = r) (kept_counted (X := fun k => k = r) (Kept.refl _ _) rfl _ _) rfl _ _⟩
  · have hd : decide (a < (0 : Int)) = false := by simp; omega
    have h1 : (ws.length : Int) ≤ a := by omega
    have hd1 : decide ((ws.length : Int) ≤ a) = true := by simp; omega
    go_enter Try.func31, Try.ntmps31
    go_wp2
    go_ret
    refine ⟨rfl, HH.out, kept_counted (X := fun k => k = r) (kept_counted (X := fun k => k = r) (Kept.refl _ _) rfl _ _) rfl _ _⟩

theorem refload_ok (r b : Nat) (ws : List Int) (c why : Int) (a : Nat) (ha : a < ws.length) (hc : 0 ≤ c ∧ c ≤ 1000000) (w : World) (h : RefIn r b ws c why w) :
    Calls Try.prog 17 #[.pointer (some ⟨r, 0, none⟩), .int .i64 a] w fun e w' => e = .returned (.int .i64 (wd ws a)) ∧ RefIn r b ws (c + 1) 0 w' ∧ Kept (fun k => k = r ∨ k = b) w w' := by
  have A := refat_ok r b ws c why a ha hc w h
  have ha' : (a : Int) < (ws.length : Int) := by omega
  go_enter Try.func17, Try.ntmps17
  go_wp2_with fail
  refine A.mono ?_
  rintro e w1 ⟨rfl, h1, hk1⟩
  have c0 := cell_at h1.mem (i := 0) rfl
  have rw1 := row_at h1.row ha
  have fw := free_at h1.row a
  clear A h
  go_wp2
  go_ret
  exact ⟨rfl, h1, hk1.mono (fun _ _ e => .inl e)⟩

theorem refload_no (r b : Nat) (ws : List Int) (c why : Int) (a : Int) (ha : a < 0 ∨ (ws.length : Int) ≤ a) (w : World) (h : RefIn r b ws c why w) :
    Calls Try.prog 17 #[.pointer (some ⟨r, 0, none⟩), .int .i64 a] w fun e w' => e = .returned (.int .i64 0) ∧ RefIn r b ws c 2 w' ∧ Kept (fun k => k = r ∨ k = b) w w' := by
  have A := refat_no r b ws c why a ha w h
  go_enter Try.func17, Try.ntmps17
  go_wp2_with fail
  refine A.mono ?_
  rintro e w1 ⟨rfl, h1, hk1⟩
  clear A h
  go_wp2
  go_ret
  exact ⟨rfl, h1, hk1.mono (fun _ _ e => .inl e)⟩

theorem refstore_ok (r b : Nat) (ws : List Int) (c why : Int) (a : Nat) (v : Int) (ha : a < ws.length) (hc : 0 ≤ c ∧ c ≤ 1000000) (w : World) (h : RefIn r b ws c why w) :
    Calls Try.prog 18 #[.pointer (some ⟨r, 0, none⟩), .int .i64 a, .int .i64 v] w fun e w' => e = .returned (.tuple #[]) ∧ RefIn r b (ws.set a v) (c + 1) 0 w' ∧ Kept (fun k => k = r ∨ k = b) w w' := by
  have A := refat_ok r b ws c why a ha hc w h
  have ha' : (a : Int) < (ws.length : Int) := by omega
  go_enter Try.func18, Try.ntmps18
  go_wp2_with fail
  refine A.mono ?_
  rintro e w1 ⟨rfl, h1, hk1⟩
  have c0 := cell_at h1.mem (i := 0) rfl
  have rw1 := row_at h1.row ha
  have fw := free_at h1.row a
  clear A h
  go_wp2
  go_end0
  exact ⟨rfl, h1.put a v, kept_counted (X := fun k => k = r ∨ k = b) (hk1.mono (fun _ _ e => .inl e)) (.inr rfl) _ _⟩

theorem refstore_no (r b : Nat) (ws : List Int) (c why : Int) (a : Int) (v : Int) (ha : a < 0 ∨ (ws.length : Int) ≤ a) (w : World) (h : RefIn r b ws c why w) :
    Calls Try.prog 18 #[.pointer (some ⟨r, 0, none⟩), .int .i64 a, .int .i64 v] w fun e w' => e = .returned (.tuple #[]) ∧ RefIn r b ws c 2 w' ∧ Kept (fun k => k = r ∨ k = b) w w' := by
  have A := refat_no r b ws c why a ha w h
  go_enter Try.func18, Try.ntmps18
  go_wp2_with fail
  refine A.mono ?_
  rintro e w1 ⟨rfl, h1, hk1⟩
  clear A h
  go_wp2
  go_end0
  exact ⟨rfl, h1, hk1.mono (fun _ _ e => .inl e)⟩

theorem refadd_ok (r b : Nat) (ws : List Int) (c why : Int) (a : Nat) (v : Int) (ha : a < ws.length) (hc : 0 ≤ c ∧ c ≤ 1000000) (w : World) (h : RefIn r b ws c why w) :
    Calls Try.prog 19 #[.pointer (some ⟨r, 0, none⟩), .int .i64 a, .int .i64 v] w fun e w' => e = .returned (.int .i64 (wd ws a)) ∧ RefIn r b (ws.set a (wrap64 (wd ws a + v))) (c + 1) 0 w' ∧ Kept (fun k => k = r ∨ k = b) w w' := by
  have A := refat_ok r b ws c why a ha hc w h
  have ha' : (a : Int) < (ws.length : Int) := by omega
  go_enter Try.func19, Try.ntmps19
  go_wp2_with fail
  refine A.mono ?_
  rintro e w1 ⟨rfl, h1, hk1⟩
  have c0 := cell_at h1.mem (i := 0) rfl
  have rw1 := row_at h1.row ha
  have fw := free_at h1.row a
  clear A h
  go_wp2
  go_ret
  exact ⟨rfl, h1.put a _, kept_counted (X := fun k => k = r ∨ k = b) (hk1.mono (fun _ _ e => .inl e)) (.inr rfl) _ _⟩

theorem refadd_no (r b : Nat) (ws : List Int) (c why : Int) (a : Int) (v : Int) (ha : a < 0 ∨ (ws.length : Int) ≤ a) (w : World) (h : RefIn r b ws c why w) :
    Calls Try.prog 19 #[.pointer (some ⟨r, 0, none⟩), .int .i64 a, .int .i64 v] w fun e w' => e = .returned (.int .i64 0) ∧ RefIn r b ws c 2 w' ∧ Kept (fun k => k = r ∨ k = b) w w' := by
  have A := refat_no r b ws c why a ha w h
  go_enter Try.func19, Try.ntmps19
  go_wp2_with fail
  refine A.mono ?_
  rintro e w1 ⟨rfl, h1, hk1⟩
  clear A h
  go_wp2
  go_ret
  exact ⟨rfl, h1, hk1.mono (fun _ _ e => .inl e)⟩

theorem refswap_ok (r b : Nat) (ws : List Int) (c why : Int) (a : Nat) (v : Int) (ha : a < ws.length) (hc : 0 ≤ c ∧ c ≤ 1000000) (w : World) (h : RefIn r b ws c why w) :
    Calls Try.prog 20 #[.pointer (some ⟨r, 0, none⟩), .int .i64 a, .int .i64 v] w fun e w' => e = .returned (.int .i64 (wd ws a)) ∧ RefIn r b (ws.set a v) (c + 1) 0 w' ∧ Kept (fun k => k = r ∨ k = b) w w' := by
  have A := refat_ok r b ws c why a ha hc w h
  have ha' : (a : Int) < (ws.length : Int) := by omega
  go_enter Try.func20, Try.ntmps20
  go_wp2_with fail
  refine A.mono ?_
  rintro e w1 ⟨rfl, h1, hk1⟩
  have c0 := cell_at h1.mem (i := 0) rfl
  have rw1 := row_at h1.row ha
  have fw := free_at h1.row a
  clear A h
  go_wp2
  go_ret
  exact ⟨rfl, h1.put a v, kept_counted (X := fun k => k = r ∨ k = b) (hk1.mono (fun _ _ e => .inl e)) (.inr rfl) _ _⟩

theorem refswap_no (r b : Nat) (ws : List Int) (c why : Int) (a : Int) (v : Int) (ha : a < 0 ∨ (ws.length : Int) ≤ a) (w : World) (h : RefIn r b ws c why w) :
    Calls Try.prog 20 #[.pointer (some ⟨r, 0, none⟩), .int .i64 a, .int .i64 v] w fun e w' => e = .returned (.int .i64 0) ∧ RefIn r b ws c 2 w' ∧ Kept (fun k => k = r ∨ k = b) w w' := by
  have A := refat_no r b ws c why a ha w h
  go_enter Try.func20, Try.ntmps20
  go_wp2_with fail
  refine A.mono ?_
  rintro e w1 ⟨rfl, h1, hk1⟩
  clear A h
  go_wp2
  go_ret
  exact ⟨rfl, h1, hk1.mono (fun _ _ e => .inl e)⟩

end Go.Proofs.Ytkejnoifcfeliaa
