/-
  No cell of these rows narrows 'for every input' (looked for: loops, veiled, ifaces, maps, wideKeys, modest, calm, conditions, laid).
  DERIVED. THE GIVEN ROWS OF THIS SEAT. 4 by the template 'for every input the law returns true; each argument reads behind the call as it read before'; 0 by the template 'total and deterministic' (their statements: YtkmfeenooidbhaaTotals.lean).
  GIVEN WITH THE SEED: the statements are not yours to turn. If you find one false, say at which input.
  Laid BY PROGRAM, IN A SANDBOX (cutbox-rows.mjs): the forced cells as the released guide's own fill.sh prints them over the translation 5412f157747db644… (all of the seat's roots in one cut). By AI agents, Wed Nov 11 2026. No macro, syntax, notation, axiom, sorry.
-/
import Derived.Test.YtkmfeenooidbhaaChecked
import GoSem.Claim
import GoSem.ClaimJoined
import GoSem.ClaimMapViews
import Derived.JoinedTies
import Derived.KernelRfl
namespace Go.Proofs.Ytkmfeenooidbhaa
/- THE CELL 'sum', in the pinned program and in every row, IS THE sha256 OF THE DUMP (.gsa) THAT YtkmfeenooidbhaaProg.lean LOADS. Nothing in Lean hashes anything: it is a label: what it is worth is what the hold of that sum in a sandbox is worth. -/
noncomputable def Try.pinned : Pinned := { name := "ytkmfeenooidbhaa", sum := "5412f157747db64421dfb367e13501713dbbc66cee90c210e2d2895a4aa04343", checked := Try.checked }
namespace Rows
def none {H : Type} : Left H := { results := [], args := [] }

/-- 'cloisterlaw6.RankRuns': WHATEVER THE INPUT: true; the input reads as it did. -/
def rankRunsSpec : ChangeSpec := { name := "rankRuns", fn := fun _ => fun
  | [] => { results := [.lit (.bool true)], args := [] }
  | _ => none }
def rankRunsRow : OpenClaim := { program := "ytkmfeenooidbhaa", sum := "5412f157747db64421dfb367e13501713dbbc66cee90c210e2d2895a4aa04343", func := "cloister/cloisterlaw6.RankRuns", spec := "rankRuns", unfollowed := true, recurses := true, apart := false }
def RankRunsSaid : Prop := rankRunsRow.holds Try.pinned (OpenSpec.ofChange rankRunsSpec)

/-- ITS FALSE NEIGHBOUR: 'it returns false'. Refute it at one input. -/
def rankRunsWrong : ChangeSpec := { name := "rankRuns", fn := fun _ => fun
  | [] => { results := [.lit (.bool false)], args := [] }
  | _ => none }
def RankRunsWrongFalsely : Prop := rankRunsRow.holds Try.pinned (OpenSpec.ofChange rankRunsWrong)

/-- 'cloisterlaw6.RankPlays': WHATEVER THE INPUT: true; the input reads as it did. -/
def rankPlaysSpec : ChangeSpec := { name := "rankPlays", fn := fun _ => fun
  | [d1, d2] => { results := [.lit (.bool true)], args := [d1, d2] }
  | _ => none }
def rankPlaysRow : OpenClaim := { program := "ytkmfeenooidbhaa", sum := "5412f157747db64421dfb367e13501713dbbc66cee90c210e2d2895a4aa04343", func := "cloister/cloisterlaw6.RankPlays", spec := "rankPlays", unfollowed := true, recurses := true, apart := false }
def RankPlaysSaid : Prop := rankPlaysRow.holds Try.pinned (OpenSpec.ofChange rankPlaysSpec)

/-- ITS FALSE NEIGHBOUR: 'it returns false'. Refute it at one input. -/
def rankPlaysWrong : ChangeSpec := { name := "rankPlays", fn := fun _ => fun
  | [d1, d2] => { results := [.lit (.bool false)], args := [d1, d2] }
  | _ => none }
def RankPlaysWrongFalsely : Prop := rankPlaysRow.holds Try.pinned (OpenSpec.ofChange rankPlaysWrong)

/-- 'cloisterlaw6.RankCircle': WHATEVER THE INPUT: true; the input reads as it did. -/
def rankCircleSpec : ChangeSpec := { name := "rankCircle", fn := fun _ => fun
  | [d1, d2, d3] => { results := [.lit (.bool true)], args := [d1, d2, d3] }
  | _ => none }
def rankCircleRow : OpenClaim := { program := "ytkmfeenooidbhaa", sum := "5412f157747db64421dfb367e13501713dbbc66cee90c210e2d2895a4aa04343", func := "cloister/cloisterlaw6.RankCircle", spec := "rankCircle", unfollowed := true, recurses := true, apart := false }
def RankCircleSaid : Prop := rankCircleRow.holds Try.pinned (OpenSpec.ofChange rankCircleSpec)

/-- ITS FALSE NEIGHBOUR: 'it returns false'. Refute it at one input. -/
def rankCircleWrong : ChangeSpec := { name := "rankCircle", fn := fun _ => fun
  | [d1, d2, d3] => { results := [.lit (.bool false)], args := [d1, d2, d3] }
  | _ => none }
def RankCircleWrongFalsely : Prop := rankCircleRow.holds Try.pinned (OpenSpec.ofChange rankCircleWrong)

/-- 'cloisterlaw6.RankOwn': WHATEVER THE INPUT: true; the input reads as it did. -/
def rankOwnSpec : ChangeSpec := { name := "rankOwn", fn := fun _ => fun
  | [d1, d2, d3, d4] => { results := [.lit (.bool true)], args := [d1, d2, d3, d4] }
  | _ => none }
def rankOwnRow : OpenClaim := { program := "ytkmfeenooidbhaa", sum := "5412f157747db64421dfb367e13501713dbbc66cee90c210e2d2895a4aa04343", func := "cloister/cloisterlaw6.RankOwn", spec := "rankOwn", unfollowed := true, recurses := true, apart := false }
def RankOwnSaid : Prop := rankOwnRow.holds Try.pinned (OpenSpec.ofChange rankOwnSpec)

/-- ITS FALSE NEIGHBOUR: 'it returns false'. Refute it at one input. -/
def rankOwnWrong : ChangeSpec := { name := "rankOwn", fn := fun _ => fun
  | [d1, d2, d3, d4] => { results := [.lit (.bool false)], args := [d1, d2, d3, d4] }
  | _ => none }
def RankOwnWrongFalsely : Prop := rankOwnRow.holds Try.pinned (OpenSpec.ofChange rankOwnWrong)

/- THE SECOND FORM. 'bulk': how many values and letters a reading holds, each counted each time it is reached (what is shared counts as often as it is met; a slice's spare places count too). A statement '..UptoSaid' is the law's where the arguments, and the package variables that the reading takes, are together of bulk at most 1048576: NARROWER than '..Said'. Prove '..Said' where nothing that the law and all that it calls make is longer than what came in: it says more and counts as full. Else prove '..UptoSaid'. A law counts once. -/
mutual
def uptoBulk {H : Type} : DataW H → Nat
  | .lit (.string bytes) => bytes.length + 1
  | .lit _ => 1
  | .nil => 1
  | .ptr d => uptoBulk d + 1
  | .slice elems spare => uptoBulkAll elems + uptoBulkAll spare + 1
  | .agg parts => uptoBulkAll parts + 1
  | .iface _ d => uptoBulk d + 1
  | .map entries => uptoBulkEntries entries + 1
  | .held _ => 1
def uptoBulkAll {H : Type} : List (DataW H) → Nat
  | [] => 0
  | d :: r => uptoBulk d + uptoBulkAll r
def uptoBulkEntries {H : Type} : List (Lit × DataW H) → Nat
  | [] => 0
  | x :: r => uptoBulkEntry x + uptoBulkEntries r
def uptoBulkEntry {H : Type} : Lit × DataW H → Nat
  | (.string bytes, d) => bytes.length + uptoBulk d + 1
  | (_, d) => uptoBulk d + 1
 end
def uptoSmall : (H : Type) → List (DataW H) → Bool := fun _ ds => decide (uptoBulkAll ds ≤ 1048576)
def OpenSpec.upto (s : _root_.Go.ChangeSpec) : _root_.Go.OpenSpec := { _root_.Go.OpenSpec.ofChange s with cond := some uptoSmall }

/-- 'cloisterlaw6.RankRuns', WHERE WHAT IT READS IS OF BULK AT MOST 1048576: true; the input reads as it did. -/
def rankRunsUptoRow : OpenClaim := { program := "ytkmfeenooidbhaa", sum := "5412f157747db64421dfb367e13501713dbbc66cee90c210e2d2895a4aa04343", func := "cloister/cloisterlaw6.RankRuns", spec := "rankRuns", unfollowed := true, recurses := true, apart := false, narrowed := true }
def RankRunsUptoSaid : Prop := rankRunsUptoRow.holds Try.pinned (OpenSpec.upto rankRunsSpec)

/-- 'cloisterlaw6.RankPlays', WHERE WHAT IT READS IS OF BULK AT MOST 1048576: true; the input reads as it did. -/
def rankPlaysUptoRow : OpenClaim := { program := "ytkmfeenooidbhaa", sum := "5412f157747db64421dfb367e13501713dbbc66cee90c210e2d2895a4aa04343", func := "cloister/cloisterlaw6.RankPlays", spec := "rankPlays", unfollowed := true, recurses := true, apart := false, narrowed := true }
def RankPlaysUptoSaid : Prop := rankPlaysUptoRow.holds Try.pinned (OpenSpec.upto rankPlaysSpec)

/-- 'cloisterlaw6.RankCircle', WHERE WHAT IT READS IS OF BULK AT MOST 1048576: true; the input reads as it did. -/
def rankCircleUptoRow : OpenClaim := { program := "ytkmfeenooidbhaa", sum := "5412f157747db64421dfb367e13501713dbbc66cee90c210e2d2895a4aa04343", func := "cloister/cloisterlaw6.RankCircle", spec := "rankCircle", unfollowed := true, recurses := true, apart := false, narrowed := true }
def RankCircleUptoSaid : Prop := rankCircleUptoRow.holds Try.pinned (OpenSpec.upto rankCircleSpec)

/-- 'cloisterlaw6.RankOwn', WHERE WHAT IT READS IS OF BULK AT MOST 1048576: true; the input reads as it did. -/
def rankOwnUptoRow : OpenClaim := { program := "ytkmfeenooidbhaa", sum := "5412f157747db64421dfb367e13501713dbbc66cee90c210e2d2895a4aa04343", func := "cloister/cloisterlaw6.RankOwn", spec := "rankOwn", unfollowed := true, recurses := true, apart := false, narrowed := true }
def RankOwnUptoSaid : Prop := rankOwnUptoRow.holds Try.pinned (OpenSpec.upto rankOwnSpec)

end Rows
end Go.Proofs.Ytkmfeenooidbhaa
