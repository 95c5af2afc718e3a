
/- What marks, Sort and Within do when they are called; no conditions but that a row has no more than a million keys. -/
import Derived.Test.YtkpcillgoeidaaaKRow
import Derived.Test.YtkpcillgoeidaaaSortF
namespace Go.Proofs.Ytkpcillgoeidaaa
open Go.RowKit

theorem place2 (x y : Int) (w : World) : Calls Try.prog 78 #[.agg #[.int .i64 x, .int .i64 y]] w fun e w' => e = .returned (.int .i64 (plc (x, y))) ∧ Kept (fun _ => False) w w' := place_w (x, y) w

theorem pair_eta (k : Int × Int) : (k.1, k.2) = k := rfl

theorem SrcK.lone {w : World} {E : Nat} {x y : Int} (h : w.heap[E]? = some (.cells #[.int .i64 x, .int .i64 y] 61 (0, 0))) : SrcK (.slice (some ⟨E, 0, Option.none⟩) 1 1) [(x, y)] w :=
  SrcK.row (l := [(x, y)]) (l' := []) h rfl 1

theorem keyat2 (p : Nat) (hp : p < 55) (w : World) : Calls Try.prog 82 #[.int .i64 (p : Int)] w fun e w' => e = .returned (.tuple #[.agg #[.int .i64 (keyAt p).1, .int .i64 (keyAt p).2], .bool true]) ∧ Kept (fun _ => False) w w' := by
  have := keyat_w p (by omega) w
  rw [isAt_yes (by omega) (by omega)] at this
  exact this

theorem row_off {w : World} {base : Nat} {e : TypeId} {size : Nat} {v : Value} {n : Nat} {xs : List Value} (h : w.ownsRow base e size v n xs) {k : Nat} {c : Array Value} {t : TypeId} (hc : w.heap[k]? = some (.cells c t (0, 0))) (ht : t ≠ e) : v.ownBlock ≠ some k := by
  intro hk
  rcases h.2 with ⟨rfl, _⟩ | ⟨g, cap, cur, rfl, _, hgb, _⟩
  · simp [Value.ownBlock] at hk
  · have : g = k := by simpa [Value.ownBlock] using hk
    subst this
    rw [hc] at hgb
    simp at hgb
    exact ht hgb.2

set_option maxHeartbeats 800000 in
theorem same_w (x y : Value) (l : Ks) (hl : l.length ≤ 1000000) (w : World) (h : SrcK x l w) (h' : SrcK y l w) :
    Calls Try.prog 55 #[x, y] w fun e w' => e = .returned (.bool true) ∧ Kept (fun _ => False) w w' := by
  obtain ⟨ao, b, o, c, rfl, -, hao, hc⟩ := h
  obtain ⟨bo, b', o', c', rfl, -, hbo, hc'⟩ := h'
  obtain ⟨n, hn⟩ : ∃ n : Nat, l.length = n := ⟨_, rfl⟩
  rw [hn] at hl hao hc hbo hc'
  simp only [hn]
  clear hn
  have HC : Hid _ := hc
  have HC' : Hid _ := hc'
  clear hc hc'
  go_enter Try.func55, Try.ntmps55
  go_wp2
  go_loopw [5] (fun s wr => ∃ i m : Nat, s = .int .i64 i ∧ i ≤ n ∧ wr = w.drewN m) (fun s _ => n - (intOf s).toNat)
  case atStart => exact ⟨0, 0, rfl, Nat.zero_le _, rfl⟩
  case round =>
    obtain ⟨i, m, rfl, hi, rfl⟩ := hrel
    by_cases hlt : i < n
    · obtain ⟨c0, c1⟩ := HC.out i hlt
      obtain ⟨d0, d1⟩ := HC'.out i hlt
      obtain rfl := hao (by omega)
      obtain rfl := hbo (by omega)
      have t1 : (i : Int) < (n : Int) := by omega
      clear HC HC' hao hbo
      generalize (kd l i).1 = k1 at *
      generalize (kd l i).2 = k2 at *
      go_wp2_with fail
      go_quiet (fail)
      go_wp2
      go_roundw
      case rel => exact ⟨i + 1, _, by go_num, by omega, rfl⟩
      case measure => simp [intOf]; omega
    · clear HC HC' hao hbo
      go_wp2
      go_ret
      exact ⟨rfl, kept_drewN _ _⟩
end Go.Proofs.Ytkpcillgoeidaaa
