/- What halt's functions do with a function that is handed to them; no conditions. -/
import Derived.Test.YtkmfeenooidbhaaBase
namespace Go.Proofs.Ytkmfeenooidbhaa
open Go.RowKit

theorem makeF : ∀ (fn : Fn) (first cap : Array Value) (w : World), (Instr.makeFunc fn first cap).run Try.prog w = .ok (.func fn first cap) w := fun _ _ _ _ => rfl

theorem assert_stop (v : Value) (w : World) : (Instr.typeAssert (.iface 26 v) 20 26 true).run Try.prog w = .ok (.tuple #[v, .bool true]) w := by kernel_rfl

theorem assert_other (v : Value) (w : World) : (Instr.typeAssert (.iface 8 v) 20 26 true).run Try.prog w = .ok (.tuple #[stopV 0 0, .bool false]) w := by kernel_rfl

theorem stop_w (a b : Int) (w : World) : Calls Try.prog 31 #[.int .i64 a, .int .i64 b] w fun e w' => (Out.halts a b).ends e ∧ w' = w := by
  go_enter Try.func31, Try.ntmps31
  go_wp2
  exact ⟨rfl, ⟨_, [], rfl, rfl, by simp⟩, rfl⟩

theorem asStop_stop (a b : Int) (w : World) : Calls Try.prog 26 #[.iface 26 (stopV a b)] w fun e w' => e = .returned (stopV a b) ∧ Kept (fun _ => False) w w' := by
  have hta := assert_stop (stopV a b)
  unfold stopV at *
  go_enter Try.func26, Try.ntmps26
  go_wp2
  exact bodyPost_ret (by simp [results, Try.results26, go_sem]) rfl ⟨rfl, ((Kept.refl _ w).alloc _).alloc _⟩

theorem asStop_other (p : Value) (w : World) : Calls Try.prog 26 #[.iface 8 p] w fun e w' => e = .returned (stopV 1 0) ∧ Kept (fun _ => False) w w' := by
  have hta := assert_other p
  unfold stopV at *
  go_enter Try.func26, Try.ntmps26
  go_wp2
  exact bodyPost_ret (by simp [results, Try.results26, go_sem]) rfl ⟨rfl, ((Kept.refl _ w).alloc _).alloc _⟩

/-- What a panic was made with, as a Stop. -/
theorem asStop_w (o : Out) (v : Value) (ho : o.says v) (w : World) : Calls Try.prog 26 #[v] w fun e w' => e = .returned o.told ∧ Kept (fun _ => False) w w' := by
  rcases out_is o with rfl | ⟨a, b, rfl⟩ | rfl
  · exact ho.elim
  · obtain rfl := ho; exact asStop_stop a b w
  · obtain ⟨p, rfl⟩ := ho; exact asStop_other p w

theorem says_iface {o : Out} {v : Value} (ho : o.says v) : ∃ t p, v = .iface t p := by
  rcases out_is o with rfl | ⟨a, b, rfl⟩ | rfl
  · exact ho.elim
  · exact ⟨_, _, ho⟩
  · obtain ⟨p, rfl⟩ := ho; exact ⟨_, _, rfl⟩

theorem neq_nil (t : TypeId) (p : Value) (w : World) : (binOp BinOp.neq 20 (.iface t p) .nilIface).run Try.prog w = .ok (.bool true) w := by rfl

theorem told_agg (o : Out) : ∃ a b, o.told = .agg #[.int .i64 a, .int .i64 b] := by
  rcases out_is o with rfl | ⟨a, b, rfl⟩ | rfl <;> exact ⟨_, _, rfl⟩

/-- The clean-up of a guard where a panic is under way: it is told, and the panic ends. -/
theorem catch_panic (o : Out) (v : Value) (ho : o.says v) (older : List PanicEntry) (n : Nat) (w : World)
    (h0 : w.heap[n]? = some (.cells #[.int .i64 0, .int .i64 0] 26 (0, 0))) (h1 : w.heap[n + 1]? = some (.cells #[.bool false] 4 (0, 0))) :
    CallsD Try.prog 25 #[.pointer (some ⟨n, 0, none⟩), .pointer (some ⟨n + 1, 0, none⟩)] (.panicking ({ v := v, recovered := false } :: older)) w fun e u' w' =>
      e = .returned (.tuple #[]) ∧ u' = .panicking ({ v := v, recovered := true } :: older) ∧ Kept (fun k => k = n ∨ k = n + 1) w w' ∧
        (∃ a b, o.told = .agg #[.int .i64 a, .int .i64 b] ∧ w'.heap[n]? = some (.cells #[.int .i64 a, .int .i64 b] 26 (0, 0))) ∧ w'.heap[n + 1]? = some (.cells #[.bool true] 4 (0, 0)) := by
  obtain ⟨t, p, rfl⟩ := says_iface ho
  have hnn := neq_nil t p
  refine callsD_of_wpS Try.func25 rfl fun c₀ cs hu => ?_
  apply wpS_seq
  apply wpS_region
  simp [wpOpsS, go_sem, recoverD, hu, Try.ntmps25, Exit.thenS]
  refine wpS_of_wp ?_
  rw [show (#[Value.pointer (some { block := n, off := 0 }), Value.pointer (some { block := n + 1, off := 0 })] ++
          ((Array.replicate 6 undef).setIfInBounds 1 (Value.iface t p)).setIfInBounds 0 (Value.iface t p) : Array Value) = #[Value.pointer (some { block := n, off := 0 }), Value.pointer (some { block := n + 1, off := 0 }), .iface t p, .iface t p, undef, undef, undef, undef] from rfl]
  go_wp2_with fail
  refine (asStop_w o _ ho w).mono ?_
  rintro e w1 ⟨rfl, hk⟩
  have k0 := hk.at h0 (by simp)
  have k1 := hk.at h1 (by simp)
  have c0 := cell_at k0 (i := 0) rfl
  have c1 := cell_at k0 (i := 1) rfl
  have c2 := cell_at k1 (i := 0) rfl
  have f0 := free_at k0 0
  have f1 := free_at k0 1
  have f2 := free_at k1 0
  obtain ⟨a, b, hab⟩ := told_agg o
  rw [hab]
  have HD : Hid (o.told = _) := hab
  clear hab h0 h1
  go_wp2
  refine ⟨rfl, _, rfl, _, by simp [results, Try.results25, go_sem], rfl, rfl, ?_, ⟨a, b, HD, ?_⟩, ?_⟩
  · exact (((hk.mono (fun _ _ h => h.elim)).setCell (fun _ => .inl rfl) _).setCell (fun _ => .inl rfl) _).setCell (fun _ => .inr rfl) _
  · rw [set_off _ (by simp)]
    exact set_at (set_at k0 0 (.int .i64 a)) 1 (.int .i64 b)
  · refine set_at (cs := #[.bool false]) ?_ 0 (.bool true)
    rw [set_off _ (by simp), set_off _ (by simp)]
    exact k1

theorem neq_nil0 (w : World) : (binOp BinOp.neq 20 .nilIface .nilIface).run Try.prog w = .ok (.bool false) w := by rfl

/-- The clean-up of a guard where nothing stopped. -/
theorem catch_idle (p q : Addr) (w : World) :
    CallsD Try.prog 25 #[.pointer (some p), .pointer (some q)] .returning w fun e u' w' => e = .returned (.tuple #[]) ∧ u' = .returning ∧ w' = w := by
  have hnn := neq_nil0
  refine callsD_of_wpS Try.func25 rfl fun c₀ cs hu => ?_
  apply wpS_seq
  apply wpS_region
  simp [wpOpsS, go_sem, recoverD, hu, Try.ntmps25, Exit.thenS]
  refine wpS_of_wp ?_
  rw [show (#[Value.pointer (some p), Value.pointer (some q)] ++
          ((Array.replicate 6 undef).setIfInBounds 1 Value.nilIface).setIfInBounds 0 Value.nilIface : Array Value) = #[Value.pointer (some p), Value.pointer (some q), .nilIface, .nilIface, undef, undef, undef, undef] from rfl]
  go_wp2
  cases c₀
  simp_all [bodyPostS, results, Try.results25, go_sem]

theorem fn_not_nil (fn : Fn) (a c : Array Value) (w : World) : (binOp BinOp.neq 1 (.func fn a c) .nilFunc).run Try.prog w = .ok (.bool true) w := by rfl
theorem nil_is_nil (w : World) : (binOp BinOp.neq 1 .nilFunc .nilFunc).run Try.prog w = .ok (.bool false) w := by rfl

theorem run_nil (w : World) : Calls Try.prog 27 #[.nilFunc] w fun e w' => Out.done.ends e ∧ w' = w := by
  have hnn := nil_is_nil
  go_enter Try.func27, Try.ntmps27
  go_wp2
  go_end0
  exact ⟨rfl, rfl⟩

/-- A function of the program is entered where it is called. -/
def Enters (F : Nat) : Prop := ∀ (args : Array Value) (w : World), (callFunc F args).run Try.prog w = .ok (.enter F args) w

theorem run_w (F : Nat) (cap : Array Value) (hF : Enters F) (o : Out) (S : World → Prop) (w : World) (h : Calls Try.prog F cap w fun e w' => o.ends e ∧ S w') :
    Calls Try.prog 27 #[.func (.func F) #[] cap] w fun e w' => o.ends e ∧ S w' := by
  have hnn := fn_not_nil
  have hF' := hF cap
  go_enter Try.func27, Try.ntmps27
  go_wp2_with fail
  refine h.mono ?_
  rintro e w1 ⟨he, hS⟩
  rcases ends_cases he with ⟨rfl, rfl⟩ | ⟨hst, v, older, hv, rfl, hold⟩
  · go_wp2
    go_end0
    exact ⟨rfl, hS⟩
  · exact ⟨rfl, ends_stop hv hold, hS⟩

/-- The world in which what is guarded runs. -/
def inGuard (w : World) : World := (w.alloc (.cells #[.int .i64 0, .int .i64 0] 26)).alloc (.cells #[.bool false] 4)

theorem settle_rec {v : Value} {older : List PanicEntry} (h : ∀ p ∈ older, p.goexit = false) : settle (.panicking ({ v := v, recovered := true } :: older)) = .returning := by
  have : older.dropWhile (fun p => !p.goexit) = [] := by
    clear v
    induction older with
    | nil => rfl
    | cons x xs ih => simp [List.dropWhile, h x (by simp), ih (fun p hp => h p (by simp [hp]))]
  simp [settle, this]

theorem guard_w (fv : Value) (o : Out) (S : World → Prop) (w : World)
    (h : Calls Try.prog 27 #[fv] (inGuard w) fun e w' => o.ends e ∧ (S w' ∧ w'.heap[w.heap.size]? = some (.cells #[.int .i64 0, .int .i64 0] 26 (0, 0)) ∧ w'.heap[w.heap.size + 1]? = some (.cells #[.bool false] 4 (0, 0)))) :
    Calls Try.prog 9 #[fv] w fun e w' => e = .returned (.tuple #[o.told, .bool o.stopped]) ∧ ∃ w1, S w1 ∧ Kept (fun k => k = w.heap.size ∨ k = w.heap.size + 1) w1 w' := by
  have hmf := makeF
  go_enter_defers Try.func9, Try.ntmps9
  go_wp2_with fail
  refine (Calls.mono (by unfold inGuard at h; simpa using h) ?_)
  rintro e w1 ⟨he, hS, h0, h1⟩
  have c0 := cell_at h0 (i := 0) rfl
  have c1 := cell_at h0 (i := 1) rfl
  have c2 := cell_at h1 (i := 0) rfl
  rcases ends_cases he with ⟨rfl, rfl⟩ | ⟨hst, v, older, hv, rfl, hold⟩
  · go_wp2
    refine leaves_cons (f := 25) (args := #[.pointer (some ⟨w.heap.size, 0, none⟩), .pointer (some ⟨w.heap.size + 1, 0, none⟩)]) (by simp) (by simp [go_sem]) ?_
    refine (catch_idle _ _ w1).mono ?_
    rintro e u' w2 ⟨rfl, rfl, rfl⟩
    refine ⟨_, ?_, rfl, _, hS, Kept.refl _ _⟩
    simp [results, Try.results9, go_sem, c0, c1, c2, Out.told, Out.stopped, stopV]
  · refine leaves_cons (f := 25) (args := #[.pointer (some ⟨w.heap.size, 0, none⟩), .pointer (some ⟨w.heap.size + 1, 0, none⟩)]) (by simp) (by simp [go_sem]) ?_
    refine (catch_panic o v hv older w.heap.size w1 h0 h1).mono ?_
    rintro e u' w2 ⟨rfl, rfl, hk, ⟨a', b', hab, g0⟩, g1⟩
    show Leaves _ _ _ _ [] (settle _) w2
    rw [settle_rec hold]
    refine ⟨_, ?_, rfl, _, hS, hk⟩
    rw [hab, hst]
    simp [results, Try.results9, go_sem, cell_at g0 (i := 0) rfl, cell_at g0 (i := 1) rfl, cell_at g1 (i := 0) rfl]

theorem must_ok (a b : Int) (w : World) : Calls Try.prog 22 #[.bool true, .int .i64 a, .int .i64 b] w fun e w' => Out.done.ends e ∧ w' = w := by
  go_enter Try.func22, Try.ntmps22
  go_wp2
  go_end0
  exact ⟨rfl, rfl⟩

theorem must_not (a b : Int) (w : World) : Calls Try.prog 22 #[.bool false, .int .i64 a, .int .i64 b] w fun e w' => (Out.halts a b).ends e ∧ w' = w := by
  go_enter Try.func22, Try.ntmps22
  go_wp2_with fail
  refine (stop_w a b w).mono ?_
  rintro e w1 ⟨he, rfl⟩
  rcases ends_cases he with ⟨h, rfl⟩ | ⟨hst, v, older, hv, rfl, hold⟩
  · cases h
  · exact ⟨rfl, ends_stop hv hold, rfl⟩

theorem kept_guard {w w' : World} (h : Kept (fun k => k = w.heap.size ∨ k = w.heap.size + 1) (inGuard w) w') : Kept (fun _ => False) w w' :=
  Kept.trans (((Kept.refl _ w).alloc _).alloc _) h (fun k hk hx => by omega)

theorem inGuard0 (w : World) : (inGuard w).heap[w.heap.size]? = some (.cells #[.int .i64 0, .int .i64 0] 26 (0, 0)) := alloc_off (alloc_at _ _)

theorem inGuard1 (w : World) : (inGuard w).heap[w.heap.size + 1]? = some (.cells #[.bool false] 4 (0, 0)) := by 
  exact alloc_at1 _ _ _

theorem inGuard_size (w : World) : (inGuard w).heap.size = w.heap.size + 2 := by simp [inGuard]

/-- A guard of what turns nothing. -/
theorem guard_same (fv : Value) (o : Out) (w : World) (h : Calls Try.prog 27 #[fv] (inGuard w) fun e w' => o.ends e ∧ Kept (fun _ => False) (inGuard w) w') :
    Calls Try.prog 9 #[fv] w fun e w' => e = .returned (.tuple #[o.told, .bool o.stopped]) ∧ Kept (fun _ => False) w w' := by
  refine (guard_w fv o (fun w' => Kept (fun _ => False) (inGuard w) w') w (h.mono ?_)).mono ?_
  · rintro e w' ⟨he, hk⟩
    exact ⟨he, hk, hk.at (inGuard0 w) (by simp), hk.at (inGuard1 w) (by simp)⟩
  · rintro e w' ⟨rfl, w1, h1, hk⟩
    refine ⟨rfl, kept_guard ((h1.mono (fun _ _ h => h.elim)).trans hk (fun _ _ h => h))⟩

theorem guard_nil (w : World) : Calls Try.prog 9 #[.nilFunc] w fun e w' => e = .returned (.tuple #[stopV 0 0, .bool false]) ∧ Kept (fun _ => False) w w' :=
  guard_same _ .done w ((run_nil _).mono fun _ _ ⟨he, hw⟩ => ⟨he, hw ▸ Kept.refl _ _⟩)

theorem guard_fn (F : Nat) (cap : Array Value) (hF : Enters F) (o : Out) (w : World) (h : Calls Try.prog F cap (inGuard w) fun e w' => o.ends e ∧ Kept (fun _ => False) (inGuard w) w') :
    Calls Try.prog 9 #[.func (.func F) #[] cap] w fun e w' => e = .returned (.tuple #[o.told, .bool o.stopped]) ∧ Kept (fun _ => False) w w' :=
  guard_same _ o w (run_w F cap hF o _ _ h)

end Go.Proofs.Ytkmfeenooidbhaa
