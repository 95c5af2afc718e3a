/-
  No cell of these rows narrows 'for every input' (looked for: loops, veiled, ifaces, maps, wideKeys, modest, calm, conditions, laid).
  DERIVED. THE GIVEN ROWS OF THIS SEAT. 4 by the template 'for every input the law returns true; each argument reads behind the call as it read before'; 0 by the template 'total and deterministic' (their statements: YthonlakpgncinaaTotals.lean).
  GIVEN WITH THE SEED: the statements are not yours to turn. If you find one false, say at which input.
  Laid BY PROGRAM, IN A SANDBOX (cutbox-rows.mjs): the forced cells as the released guide's own fill.sh prints them over the translation caaea008eb769d6c… (all of the seat's roots in one cut). By AI agents, Wed Nov 11 2026. No macro, syntax, notation, axiom, sorry.
-/
import Derived.Test.YthonlakpgncinaaChecked
import GoSem.Claim
import GoSem.ClaimJoined
import GoSem.ClaimMapViews
import Derived.JoinedTies
import Derived.KernelRfl
namespace Go.Proofs.Ythonlakpgncinaa
/- THE CELL 'sum', in the pinned program and in every row, IS THE sha256 OF THE DUMP (.gsa) THAT YthonlakpgncinaaProg.lean LOADS. Nothing in Lean hashes anything: it is a label: what it is worth is what the hold of that sum in a sandbox is worth. -/
noncomputable def Try.pinned : Pinned := { name := "ythonlakpgncinaa", sum := "caaea008eb769d6c21dd7e6e942bb987863bf1eade0b0ee4161dd036aed141e4", checked := Try.checked }
namespace Rows
def none {H : Type} : Left H := { results := [], args := [] }

/-- 'cloisterlaw12.PathRuns': WHATEVER THE INPUT: true; the input reads as it did. -/
def pathRunsSpec : ChangeSpec := { name := "pathRuns", fn := fun _ => fun
  | [] => { results := [.lit (.bool true)], args := [] }
  | _ => none }
def pathRunsRow : OpenClaim := { program := "ythonlakpgncinaa", sum := "caaea008eb769d6c21dd7e6e942bb987863bf1eade0b0ee4161dd036aed141e4", func := "cloister/cloisterlaw12.PathRuns", spec := "pathRuns", unfollowed := true, recurses := true, plainKeys := false, apart := false }
def PathRunsSaid : Prop := pathRunsRow.holds Try.pinned (OpenSpec.ofChange pathRunsSpec)

/-- ITS FALSE NEIGHBOUR: 'it returns false'. Refute it at one input. -/
def pathRunsWrong : ChangeSpec := { name := "pathRuns", fn := fun _ => fun
  | [] => { results := [.lit (.bool false)], args := [] }
  | _ => none }
def PathRunsWrongFalsely : Prop := pathRunsRow.holds Try.pinned (OpenSpec.ofChange pathRunsWrong)

/-- 'cloisterlaw12.PathTells': WHATEVER THE INPUT: true; the input reads as it did. -/
def pathTellsSpec : ChangeSpec := { name := "pathTells", fn := fun _ => fun
  | [d1, d2, d3] => { results := [.lit (.bool true)], args := [d1, d2, d3] }
  | _ => none }
def pathTellsRow : OpenClaim := { program := "ythonlakpgncinaa", sum := "caaea008eb769d6c21dd7e6e942bb987863bf1eade0b0ee4161dd036aed141e4", func := "cloister/cloisterlaw12.PathTells", spec := "pathTells", unfollowed := true, recurses := true, plainKeys := false, apart := false }
def PathTellsSaid : Prop := pathTellsRow.holds Try.pinned (OpenSpec.ofChange pathTellsSpec)

/-- ITS FALSE NEIGHBOUR: 'it returns false'. Refute it at one input. -/
def pathTellsWrong : ChangeSpec := { name := "pathTells", fn := fun _ => fun
  | [d1, d2, d3] => { results := [.lit (.bool false)], args := [d1, d2, d3] }
  | _ => none }
def PathTellsWrongFalsely : Prop := pathTellsRow.holds Try.pinned (OpenSpec.ofChange pathTellsWrong)

/-- 'cloisterlaw12.PathSteps': WHATEVER THE INPUT: true; the input reads as it did. -/
def pathStepsSpec : ChangeSpec := { name := "pathSteps", fn := fun _ => fun
  | [d1, d2] => { results := [.lit (.bool true)], args := [d1, d2] }
  | _ => none }
def pathStepsRow : OpenClaim := { program := "ythonlakpgncinaa", sum := "caaea008eb769d6c21dd7e6e942bb987863bf1eade0b0ee4161dd036aed141e4", func := "cloister/cloisterlaw12.PathSteps", spec := "pathSteps", unfollowed := true, recurses := true, plainKeys := false, apart := false }
def PathStepsSaid : Prop := pathStepsRow.holds Try.pinned (OpenSpec.ofChange pathStepsSpec)

/-- ITS FALSE NEIGHBOUR: 'it returns false'. Refute it at one input. -/
def pathStepsWrong : ChangeSpec := { name := "pathSteps", fn := fun _ => fun
  | [d1, d2] => { results := [.lit (.bool false)], args := [d1, d2] }
  | _ => none }
def PathStepsWrongFalsely : Prop := pathStepsRow.holds Try.pinned (OpenSpec.ofChange pathStepsWrong)

/-- 'cloisterlaw12.PathRoot': WHATEVER THE INPUT: true; the input reads as it did. -/
def pathRootSpec : ChangeSpec := { name := "pathRoot", fn := fun _ => fun
  | [d1, d2, d3] => { results := [.lit (.bool true)], args := [d1, d2, d3] }
  | _ => none }
def pathRootRow : OpenClaim := { program := "ythonlakpgncinaa", sum := "caaea008eb769d6c21dd7e6e942bb987863bf1eade0b0ee4161dd036aed141e4", func := "cloister/cloisterlaw12.PathRoot", spec := "pathRoot", unfollowed := true, recurses := true, plainKeys := false, apart := false }
def PathRootSaid : Prop := pathRootRow.holds Try.pinned (OpenSpec.ofChange pathRootSpec)

/-- ITS FALSE NEIGHBOUR: 'it returns false'. Refute it at one input. -/
def pathRootWrong : ChangeSpec := { name := "pathRoot", fn := fun _ => fun
  | [d1, d2, d3] => { results := [.lit (.bool false)], args := [d1, d2, d3] }
  | _ => none }
def PathRootWrongFalsely : Prop := pathRootRow.holds Try.pinned (OpenSpec.ofChange pathRootWrong)

/- THE SECOND FORM. 'bulk': how many values and letters a reading holds, each counted each time it is reached (what is shared counts as often as it is met; a slice's spare places count too). A statement '..UptoSaid' is the law's where the arguments, and the package variables that the reading takes, are together of bulk at most 1048576: NARROWER than '..Said'. Prove '..Said' where nothing that the law and all that it calls make is longer than what came in: it says more and counts as full. Else prove '..UptoSaid'. A law counts once. -/
mutual
def uptoBulk {H : Type} : DataW H → Nat
  | .lit (.string bytes) => bytes.length + 1
  | .lit _ => 1
  | .nil => 1
  | .ptr d => uptoBulk d + 1
  | .slice elems spare => uptoBulkAll elems + uptoBulkAll spare + 1
  | .agg parts => uptoBulkAll parts + 1
  | .iface _ d => uptoBulk d + 1
  | .map entries => uptoBulkEntries entries + 1
  | .held _ => 1
def uptoBulkAll {H : Type} : List (DataW H) → Nat
  | [] => 0
  | d :: r => uptoBulk d + uptoBulkAll r
def uptoBulkEntries {H : Type} : List (Lit × DataW H) → Nat
  | [] => 0
  | x :: r => uptoBulkEntry x + uptoBulkEntries r
def uptoBulkEntry {H : Type} : Lit × DataW H → Nat
  | (.string bytes, d) => bytes.length + uptoBulk d + 1
  | (_, d) => uptoBulk d + 1
 end
def uptoSmall : (H : Type) → List (DataW H) → Bool := fun _ ds => decide (uptoBulkAll ds ≤ 1048576)
def OpenSpec.upto (s : _root_.Go.ChangeSpec) : _root_.Go.OpenSpec := { _root_.Go.OpenSpec.ofChange s with cond := some uptoSmall }

/-- 'cloisterlaw12.PathRuns', WHERE WHAT IT READS IS OF BULK AT MOST 1048576: true; the input reads as it did. -/
def pathRunsUptoRow : OpenClaim := { program := "ythonlakpgncinaa", sum := "caaea008eb769d6c21dd7e6e942bb987863bf1eade0b0ee4161dd036aed141e4", func := "cloister/cloisterlaw12.PathRuns", spec := "pathRuns", unfollowed := true, recurses := true, plainKeys := false, apart := false, narrowed := true }
def PathRunsUptoSaid : Prop := pathRunsUptoRow.holds Try.pinned (OpenSpec.upto pathRunsSpec)

/-- 'cloisterlaw12.PathTells', WHERE WHAT IT READS IS OF BULK AT MOST 1048576: true; the input reads as it did. -/
def pathTellsUptoRow : OpenClaim := { program := "ythonlakpgncinaa", sum := "caaea008eb769d6c21dd7e6e942bb987863bf1eade0b0ee4161dd036aed141e4", func := "cloister/cloisterlaw12.PathTells", spec := "pathTells", unfollowed := true, recurses := true, plainKeys := false, apart := false, narrowed := true }
def PathTellsUptoSaid : Prop := pathTellsUptoRow.holds Try.pinned (OpenSpec.upto pathTellsSpec)

/-- 'cloisterlaw12.PathSteps', WHERE WHAT IT READS IS OF BULK AT MOST 1048576: true; the input reads as it did. -/
def pathStepsUptoRow : OpenClaim := { program := "ythonlakpgncinaa", sum := "caaea008eb769d6c21dd7e6e942bb987863bf1eade0b0ee4161dd036aed141e4", func := "cloister/cloisterlaw12.PathSteps", spec := "pathSteps", unfollowed := true, recurses := true, plainKeys := false, apart := false, narrowed := true }
def PathStepsUptoSaid : Prop := pathStepsUptoRow.holds Try.pinned (OpenSpec.upto pathStepsSpec)

/-- 'cloisterlaw12.PathRoot', WHERE WHAT IT READS IS OF BULK AT MOST 1048576: true; the input reads as it did. -/
def pathRootUptoRow : OpenClaim := { program := "ythonlakpgncinaa", sum := "caaea008eb769d6c21dd7e6e942bb987863bf1eade0b0ee4161dd036aed141e4", func := "cloister/cloisterlaw12.PathRoot", spec := "pathRoot", unfollowed := true, recurses := true, plainKeys := false, apart := false, narrowed := true }
def PathRootUptoSaid : Prop := pathRootUptoRow.holds Try.pinned (OpenSpec.upto pathRootSpec)

end Rows
end Go.Proofs.Ythonlakpgncinaa
