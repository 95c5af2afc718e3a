/- The chapter's runs; no conditions. -/
import Derived.Test.YtghgnapogomnlaaRead
import Derived.Test.YtghgnapogomnlaaWrite
import Derived.Test.YtghgnapogomnlaaChange
namespace Go.Proofs.Ytghgnapogomnlaa
open Go.RowKit
set_option maxRecDepth 100000
set_option linter.unusedSimpArgs false

def f0 : StF := fun _ => none
def g0 : VwF := fun _ => none
def abc : ByteArray := ⟨#[97, 98, 99]⟩
def xyz : ByteArray := ⟨#[120, 121, 122]⟩
def axyz : ByteArray := ⟨#[97, 120, 121, 122]⟩
def r1 : VwF := allocT f0 g0 2
def r2 : VwF := writeT f0 r1 1 0 abc
def r3 : VwF := writeT f0 r2 1 1 xyz
def r4 : VwF := findT r3 1
def r5 : VwF := changeT f0 r4 1 0 0
def r6 : VwF := findT r5 1

theorem ra : allocA f0 g0 = 1 := by decide +kernel
theorem rb : (findV f0 r1 1).s.size = 0 := by decide +kernel
theorem rc : writeA f0 r1 1 0 abc = 3 := by decide +kernel
theorem rd : (findV f0 r2 1).s.size = 3 := by decide +kernel
theorem re : writeA f0 r2 1 1 xyz = 3 := by decide +kernel
theorem rf : (findV f0 r3 1).s.size = 4 := by decide +kernel
theorem rg : partF (findV f0 r3 1).s 0 9 = axyz := by decide +kernel
theorem rh : isI f0 r4 1 = true := by decide +kernel
theorem ri : isI f0 r5 1 = false := by decide +kernel
theorem rj : allocA f0 r6 = 1 := by decide +kernel

theorem axyz_list : axyz.toList = [97, 120, 121, 122] := by decide +kernel
theorem alloc1 : allocV 1 = .tuple #[.int .i64 1, .bool true] := rfl

set_option maxHeartbeats 2000000 in
theorem runs_w (w : World) : Calls Try.prog 3 #[] w fun e w' => e = .returned (.bool true) ∧ Kept (fun _ => False) w w' := by
  go_enter Try.func3, Try.ntmps3
  go_wp2_with fail
  refine (new_w w).mono ?_
  rintro e w1 ⟨p, B, rfl, hS1, hk1, hp, hB⟩
  go_wp2_with fail
  refine (look_w p w1).mono ?_
  rintro e w2 ⟨q, N, rfl, hv2, hk2, hq, hN⟩
  have hS2 : StoreIn p B f0 w2 := hS1.still hk2
  have hNB : N ≠ B := by have := hS1.map.lt; omega
  have hNw : w.heap.size ≤ N := by have := hk1.size; omega
  have K2 : Kept (fun _ => False) w w2 := hk1.thru hk2
  replace hv2 : ViewIn q N p g0 w2 := hv2
  clear hS1 hk1 hk2 hq hN hp hB
  go_wp2_with fail
  refine (alloc_w q N p B f0 g0 2 w2 hv2 hS2 hNB).mono ?_
  rintro e w3 ⟨rfl, hv3, hk3⟩
  replace hv3 : ViewIn q N p r1 w3 := hv3
  have hS3 := hS2.kept hk3 (fun e => hv2.map.off hS2.cell e) (fun e => hNB e.symm)
  have K3 : Kept (fun _ => False) w w3 := K2.trans hk3 (fun k h1 h2 => by omega)
  clear hv2 hS2 hk3 K2
  rw [ra, alloc1]
  go_wp2_with fail
  refine (write_w q N p B f0 r1 1 0 abc w3 hv3 hS3 hNB (by rw [rb]; omega)).mono ?_
  rintro e w4 ⟨rfl, hv4, hk4⟩
  replace hv4 : ViewIn q N p r2 w4 := hv4
  have hS4 := hS3.kept hk4 (fun e => hv3.map.off hS3.cell e) (fun e => hNB e.symm)
  have K4 : Kept (fun _ => False) w w4 := K3.trans hk4 (fun k h1 h2 => by omega)
  clear hv3 hS3 hk4 K3
  rw [rc]
  go_wp2_with fail
  refine (write_w q N p B f0 r2 1 1 xyz w4 hv4 hS4 hNB (by rw [rd]; omega)).mono ?_
  rintro e w5 ⟨rfl, hv5, hk5⟩
  replace hv5 : ViewIn q N p r3 w5 := hv5
  have hS5 := hS4.kept hk5 (fun e => hv4.map.off hS4.cell e) (fun e => hNB e.symm)
  have K5 : Kept (fun _ => False) w w5 := K4.trans hk5 (fun k h1 h2 => by omega)
  clear hv4 hS4 hk5 K4
  rw [re]
  go_wp2_with fail
  refine (read_w q N p B f0 r3 1 0 9 w5 hv5 hS5 hNB (by rw [rf]; omega)).mono ?_
  rintro e w6 ⟨rfl, hv6, hk6⟩
  replace hv6 : ViewIn q N p r4 w6 := hv6
  have hS6 := hS5.kept hk6 (fun e => hv5.map.off hS5.cell e) (fun e => hNB e.symm)
  have K6 : Kept (fun _ => False) w w6 := K5.trans hk6 (fun k h1 h2 => by omega)
  clear hv5 hS5 hk6 K5
  rw [rg]
  go_wp2_with fail
  refine (change_w q N p B f0 r4 1 0 0 w6 hv6 hS6 hNB).mono ?_
  rintro e w7 ⟨rfl, hv7, hk7⟩
  replace hv7 : ViewIn q N p r5 w7 := hv7
  have hS7 := hS6.kept hk7 (fun e => hv6.map.off hS6.cell e) (fun e => hNB e.symm)
  have K7 : Kept (fun _ => False) w w7 := K6.trans hk7 (fun k h1 h2 => by omega)
  clear hv6 hS6 hk7 K6
  rw [rh]
  go_wp2_with fail
  refine (is_w q N p B f0 r5 1 w7 hv7 hS7 hNB).mono ?_
  rintro e w8 ⟨rfl, hv8, hk8⟩
  replace hv8 : ViewIn q N p r6 w8 := hv8
  have hS8 := hS7.kept hk8 (fun e => hv7.map.off hS7.cell e) (fun e => hNB e.symm)
  have K8 : Kept (fun _ => False) w w8 := K7.trans hk8 (fun k h1 h2 => by omega)
  clear hv7 hS7 hk8 K7
  rw [ri]
  go_wp2_with fail
  refine (alloc_w q N p B f0 r6 1 w8 hv8 hS8 hNB).mono ?_
  rintro e w9 ⟨rfl, hv9, hk9⟩
  have K9 : Kept (fun _ => False) w w9 := K8.trans hk9 (fun k h1 h2 => by omega)
  clear hv8 hS8 hk9 K8 hv9
  rw [rj, alloc1]
  have hax := axyz_list
  go_wp2
  go_ret
  exact ⟨rfl, K9⟩
end Go.Proofs.Ytghgnapogomnlaa
