/-
  No cell of these rows narrows 'for every input' (looked for: loops, veiled, ifaces, maps, wideKeys, modest, calm, conditions, laid).
  DERIVED. THE GIVEN ROWS OF THIS SEAT. 5 by the template 'for every input the law returns true; each argument reads behind the call as it read before'; 0 by the template 'total and deterministic' (their statements: YtimjhjlgnoiimaaTotals.lean).
  GIVEN WITH THE SEED: the statements are not yours to turn. If you find one false, say at which input.
  Laid BY PROGRAM, IN A SANDBOX (cutbox-rows.mjs): the forced cells as the released guide's own fill.sh prints them over the translation ef1616c2c5de9f6e… (all of the seat's roots in one cut). By AI agents, Wed Nov 11 2026. No macro, syntax, notation, axiom, sorry.
-/
import Derived.Test.YtimjhjlgnoiimaaChecked
import GoSem.Claim
import GoSem.ClaimJoined
import GoSem.ClaimMapViews
import Derived.JoinedTies
import Derived.KernelRfl
namespace Go.Proofs.Ytimjhjlgnoiimaa
/- THE CELL 'sum', in the pinned program and in every row, IS THE sha256 OF THE DUMP (.gsa) THAT YtimjhjlgnoiimaaProg.lean LOADS. Nothing in Lean hashes anything: it is a label: what it is worth is what the hold of that sum in a sandbox is worth. -/
noncomputable def Try.pinned : Pinned := { name := "ytimjhjlgnoiimaa", sum := "ef1616c2c5de9f6e0888a5b9eca3713ed01a6406a4a99ca61bf4a96d2565519c", checked := Try.checked }
namespace Rows
def none {H : Type} : Left H := { results := [], args := [] }

/-- 'cloisterlaw2.HaltRuns': WHATEVER THE INPUT: true; the input reads as it did. -/
def haltRunsSpec : ChangeSpec := { name := "haltRuns", fn := fun _ => fun
  | [] => { results := [.lit (.bool true)], args := [] }
  | _ => none }
def haltRunsRow : OpenClaim := { program := "ytimjhjlgnoiimaa", sum := "ef1616c2c5de9f6e0888a5b9eca3713ed01a6406a4a99ca61bf4a96d2565519c", func := "cloister/cloisterlaw2.HaltRuns", spec := "haltRuns", unfollowed := true, recurses := true, apart := false }
def HaltRunsSaid : Prop := haltRunsRow.holds Try.pinned (OpenSpec.ofChange haltRunsSpec)

/-- ITS FALSE NEIGHBOUR: 'it returns false'. Refute it at one input. -/
def haltRunsWrong : ChangeSpec := { name := "haltRuns", fn := fun _ => fun
  | [] => { results := [.lit (.bool false)], args := [] }
  | _ => none }
def HaltRunsWrongFalsely : Prop := haltRunsRow.holds Try.pinned (OpenSpec.ofChange haltRunsWrong)

/-- 'cloisterlaw2.HaltRows': WHATEVER THE INPUT: true; the input reads as it did. -/
def haltRowsSpec : ChangeSpec := { name := "haltRows", fn := fun _ => fun
  | [d] => { results := [.lit (.bool true)], args := [d] }
  | _ => none }
def haltRowsRow : OpenClaim := { program := "ytimjhjlgnoiimaa", sum := "ef1616c2c5de9f6e0888a5b9eca3713ed01a6406a4a99ca61bf4a96d2565519c", func := "cloister/cloisterlaw2.HaltRows", spec := "haltRows", unfollowed := true, recurses := true, apart := false }
def HaltRowsSaid : Prop := haltRowsRow.holds Try.pinned (OpenSpec.ofChange haltRowsSpec)

/-- ITS FALSE NEIGHBOUR: 'it returns false'. Refute it at one input. -/
def haltRowsWrong : ChangeSpec := { name := "haltRows", fn := fun _ => fun
  | [d] => { results := [.lit (.bool false)], args := [d] }
  | _ => none }
def HaltRowsWrongFalsely : Prop := haltRowsRow.holds Try.pinned (OpenSpec.ofChange haltRowsWrong)

/-- 'cloisterlaw2.HaltAfter': WHATEVER THE INPUT: true; the input reads as it did. -/
def haltAfterSpec : ChangeSpec := { name := "haltAfter", fn := fun _ => fun
  | [d1, d2, d3] => { results := [.lit (.bool true)], args := [d1, d2, d3] }
  | _ => none }
def haltAfterRow : OpenClaim := { program := "ytimjhjlgnoiimaa", sum := "ef1616c2c5de9f6e0888a5b9eca3713ed01a6406a4a99ca61bf4a96d2565519c", func := "cloister/cloisterlaw2.HaltAfter", spec := "haltAfter", unfollowed := true, recurses := true, apart := false }
def HaltAfterSaid : Prop := haltAfterRow.holds Try.pinned (OpenSpec.ofChange haltAfterSpec)

/-- ITS FALSE NEIGHBOUR: 'it returns false'. Refute it at one input. -/
def haltAfterWrong : ChangeSpec := { name := "haltAfter", fn := fun _ => fun
  | [d1, d2, d3] => { results := [.lit (.bool false)], args := [d1, d2, d3] }
  | _ => none }
def HaltAfterWrongFalsely : Prop := haltAfterRow.holds Try.pinned (OpenSpec.ofChange haltAfterWrong)

/-- 'cloisterlaw2.HaltDeep': WHATEVER THE INPUT: true; the input reads as it did. -/
def haltDeepSpec : ChangeSpec := { name := "haltDeep", fn := fun _ => fun
  | [d1, d2, d3] => { results := [.lit (.bool true)], args := [d1, d2, d3] }
  | _ => none }
def haltDeepRow : OpenClaim := { program := "ytimjhjlgnoiimaa", sum := "ef1616c2c5de9f6e0888a5b9eca3713ed01a6406a4a99ca61bf4a96d2565519c", func := "cloister/cloisterlaw2.HaltDeep", spec := "haltDeep", unfollowed := true, recurses := true, apart := false }
def HaltDeepSaid : Prop := haltDeepRow.holds Try.pinned (OpenSpec.ofChange haltDeepSpec)

/-- ITS FALSE NEIGHBOUR: 'it returns false'. Refute it at one input. -/
def haltDeepWrong : ChangeSpec := { name := "haltDeep", fn := fun _ => fun
  | [d1, d2, d3] => { results := [.lit (.bool false)], args := [d1, d2, d3] }
  | _ => none }
def HaltDeepWrongFalsely : Prop := haltDeepRow.holds Try.pinned (OpenSpec.ofChange haltDeepWrong)

/-- 'cloisterlaw2.HaltNest': WHATEVER THE INPUT: true; the input reads as it did. -/
def haltNestSpec : ChangeSpec := { name := "haltNest", fn := fun _ => fun
  | [d1, d2] => { results := [.lit (.bool true)], args := [d1, d2] }
  | _ => none }
def haltNestRow : OpenClaim := { program := "ytimjhjlgnoiimaa", sum := "ef1616c2c5de9f6e0888a5b9eca3713ed01a6406a4a99ca61bf4a96d2565519c", func := "cloister/cloisterlaw2.HaltNest", spec := "haltNest", unfollowed := true, recurses := true, apart := false }
def HaltNestSaid : Prop := haltNestRow.holds Try.pinned (OpenSpec.ofChange haltNestSpec)

/-- ITS FALSE NEIGHBOUR: 'it returns false'. Refute it at one input. -/
def haltNestWrong : ChangeSpec := { name := "haltNest", fn := fun _ => fun
  | [d1, d2] => { results := [.lit (.bool false)], args := [d1, d2] }
  | _ => none }
def HaltNestWrongFalsely : Prop := haltNestRow.holds Try.pinned (OpenSpec.ofChange haltNestWrong)

/- THE SECOND FORM. 'bulk': how many values and letters a reading holds, each counted each time it is reached (what is shared counts as often as it is met; a slice's spare places count too). A statement '..UptoSaid' is the law's where the arguments, and the package variables that the reading takes, are together of bulk at most 1048576: NARROWER than '..Said'. Prove '..Said' where nothing that the law and all that it calls make is longer than what came in: it says more and counts as full. Else prove '..UptoSaid'. A law counts once. -/
mutual
def uptoBulk {H : Type} : DataW H → Nat
  | .lit (.string bytes) => bytes.length + 1
  | .lit _ => 1
  | .nil => 1
  | .ptr d => uptoBulk d + 1
  | .slice elems spare => uptoBulkAll elems + uptoBulkAll spare + 1
  | .agg parts => uptoBulkAll parts + 1
  | .iface _ d => uptoBulk d + 1
  | .map entries => uptoBulkEntries entries + 1
  | .held _ => 1
def uptoBulkAll {H : Type} : List (DataW H) → Nat
  | [] => 0
  | d :: r => uptoBulk d + uptoBulkAll r
def uptoBulkEntries {H : Type} : List (Lit × DataW H) → Nat
  | [] => 0
  | x :: r => uptoBulkEntry x + uptoBulkEntries r
def uptoBulkEntry {H : Type} : Lit × DataW H → Nat
  | (.string bytes, d) => bytes.length + uptoBulk d + 1
  | (_, d) => uptoBulk d + 1
 end
def uptoSmall : (H : Type) → List (DataW H) → Bool := fun _ ds => decide (uptoBulkAll ds ≤ 1048576)
def OpenSpec.upto (s : _root_.Go.ChangeSpec) : _root_.Go.OpenSpec := { _root_.Go.OpenSpec.ofChange s with cond := some uptoSmall }

/-- 'cloisterlaw2.HaltRuns', WHERE WHAT IT READS IS OF BULK AT MOST 1048576: true; the input reads as it did. -/
def haltRunsUptoRow : OpenClaim := { program := "ytimjhjlgnoiimaa", sum := "ef1616c2c5de9f6e0888a5b9eca3713ed01a6406a4a99ca61bf4a96d2565519c", func := "cloister/cloisterlaw2.HaltRuns", spec := "haltRuns", unfollowed := true, recurses := true, apart := false, narrowed := true }
def HaltRunsUptoSaid : Prop := haltRunsUptoRow.holds Try.pinned (OpenSpec.upto haltRunsSpec)

/-- 'cloisterlaw2.HaltRows', WHERE WHAT IT READS IS OF BULK AT MOST 1048576: true; the input reads as it did. -/
def haltRowsUptoRow : OpenClaim := { program := "ytimjhjlgnoiimaa", sum := "ef1616c2c5de9f6e0888a5b9eca3713ed01a6406a4a99ca61bf4a96d2565519c", func := "cloister/cloisterlaw2.HaltRows", spec := "haltRows", unfollowed := true, recurses := true, apart := false, narrowed := true }
def HaltRowsUptoSaid : Prop := haltRowsUptoRow.holds Try.pinned (OpenSpec.upto haltRowsSpec)

/-- 'cloisterlaw2.HaltAfter', WHERE WHAT IT READS IS OF BULK AT MOST 1048576: true; the input reads as it did. -/
def haltAfterUptoRow : OpenClaim := { program := "ytimjhjlgnoiimaa", sum := "ef1616c2c5de9f6e0888a5b9eca3713ed01a6406a4a99ca61bf4a96d2565519c", func := "cloister/cloisterlaw2.HaltAfter", spec := "haltAfter", unfollowed := true, recurses := true, apart := false, narrowed := true }
def HaltAfterUptoSaid : Prop := haltAfterUptoRow.holds Try.pinned (OpenSpec.upto haltAfterSpec)

/-- 'cloisterlaw2.HaltDeep', WHERE WHAT IT READS IS OF BULK AT MOST 1048576: true; the input reads as it did. -/
def haltDeepUptoRow : OpenClaim := { program := "ytimjhjlgnoiimaa", sum := "ef1616c2c5de9f6e0888a5b9eca3713ed01a6406a4a99ca61bf4a96d2565519c", func := "cloister/cloisterlaw2.HaltDeep", spec := "haltDeep", unfollowed := true, recurses := true, apart := false, narrowed := true }
def HaltDeepUptoSaid : Prop := haltDeepUptoRow.holds Try.pinned (OpenSpec.upto haltDeepSpec)

/-- 'cloisterlaw2.HaltNest', WHERE WHAT IT READS IS OF BULK AT MOST 1048576: true; the input reads as it did. -/
def haltNestUptoRow : OpenClaim := { program := "ytimjhjlgnoiimaa", sum := "ef1616c2c5de9f6e0888a5b9eca3713ed01a6406a4a99ca61bf4a96d2565519c", func := "cloister/cloisterlaw2.HaltNest", spec := "haltNest", unfollowed := true, recurses := true, apart := false, narrowed := true }
def HaltNestUptoSaid : Prop := haltNestUptoRow.holds Try.pinned (OpenSpec.upto haltNestSpec)

end Rows
end Go.Proofs.Ytimjhjlgnoiimaa
