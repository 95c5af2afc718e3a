/-
  No cell of these rows narrows 'for every input' (looked for: loops, veiled, ifaces, maps, wideKeys, modest, calm, conditions, laid).
  DERIVED. THE GIVEN ROWS OF THIS SEAT. 4 by the template 'for every input the law returns true; each argument reads behind the call as it read before'; 0 by the template 'total and deterministic' (their statements: YtckbimgoepcoaaaTotals.lean).
  GIVEN WITH THE SEED: the statements are not yours to turn. If you find one false, say at which input.
  Laid BY PROGRAM, IN A SANDBOX (cutbox-rows.mjs): the forced cells as the released guide's own fill.sh prints them over the translation 5364f87b92d5f93b… (all of the seat's roots in one cut). By AI agents, Wed Nov 11 2026. No macro, syntax, notation, axiom, sorry.
-/
import Derived.Test.YtckbimgoepcoaaaChecked
import GoSem.Claim
import GoSem.ClaimJoined
import GoSem.ClaimMapViews
import Derived.JoinedTies
import Derived.KernelRfl
namespace Go.Proofs.Ytckbimgoepcoaaa
/- THE CELL 'sum', in the pinned program and in every row, IS THE sha256 OF THE DUMP (.gsa) THAT YtckbimgoepcoaaaProg.lean LOADS. Nothing in Lean hashes anything: it is a label: what it is worth is what the hold of that sum in a sandbox is worth. -/
noncomputable def Try.pinned : Pinned := { name := "ytckbimgoepcoaaa", sum := "5364f87b92d5f93ba2b08c0b331e59464bf5f6674e1f8964268b0c2d96eb6b8b", checked := Try.checked }
namespace Rows
def none {H : Type} : Left H := { results := [], args := [] }

/-- 'cloisterlaw4.HartRuns': WHATEVER THE INPUT: true; the input reads as it did. -/
def hartRunsSpec : ChangeSpec := { name := "hartRuns", fn := fun _ => fun
  | [] => { results := [.lit (.bool true)], args := [] }
  | _ => none }
def hartRunsRow : OpenClaim := { program := "ytckbimgoepcoaaa", sum := "5364f87b92d5f93ba2b08c0b331e59464bf5f6674e1f8964268b0c2d96eb6b8b", func := "cloister/cloisterlaw4.HartRuns", spec := "hartRuns", unfollowed := true, recurses := true, apart := false }
def HartRunsSaid : Prop := hartRunsRow.holds Try.pinned (OpenSpec.ofChange hartRunsSpec)

/-- ITS FALSE NEIGHBOUR: 'it returns false'. Refute it at one input. -/
def hartRunsWrong : ChangeSpec := { name := "hartRuns", fn := fun _ => fun
  | [] => { results := [.lit (.bool false)], args := [] }
  | _ => none }
def HartRunsWrongFalsely : Prop := hartRunsRow.holds Try.pinned (OpenSpec.ofChange hartRunsWrong)

/-- 'cloisterlaw4.HartPlays': WHATEVER THE INPUT: true; the input reads as it did. -/
def hartPlaysSpec : ChangeSpec := { name := "hartPlays", fn := fun _ => fun
  | [d1, d2] => { results := [.lit (.bool true)], args := [d1, d2] }
  | _ => none }
def hartPlaysRow : OpenClaim := { program := "ytckbimgoepcoaaa", sum := "5364f87b92d5f93ba2b08c0b331e59464bf5f6674e1f8964268b0c2d96eb6b8b", func := "cloister/cloisterlaw4.HartPlays", spec := "hartPlays", unfollowed := true, recurses := true, apart := false }
def HartPlaysSaid : Prop := hartPlaysRow.holds Try.pinned (OpenSpec.ofChange hartPlaysSpec)

/-- ITS FALSE NEIGHBOUR: 'it returns false'. Refute it at one input. -/
def hartPlaysWrong : ChangeSpec := { name := "hartPlays", fn := fun _ => fun
  | [d1, d2] => { results := [.lit (.bool false)], args := [d1, d2] }
  | _ => none }
def HartPlaysWrongFalsely : Prop := hartPlaysRow.holds Try.pinned (OpenSpec.ofChange hartPlaysWrong)

/-- 'cloisterlaw4.HartNests': WHATEVER THE INPUT: true; the input reads as it did. -/
def hartNestsSpec : ChangeSpec := { name := "hartNests", fn := fun _ => fun
  | [d1, d2, d3, d4] => { results := [.lit (.bool true)], args := [d1, d2, d3, d4] }
  | _ => none }
def hartNestsRow : OpenClaim := { program := "ytckbimgoepcoaaa", sum := "5364f87b92d5f93ba2b08c0b331e59464bf5f6674e1f8964268b0c2d96eb6b8b", func := "cloister/cloisterlaw4.HartNests", spec := "hartNests", unfollowed := true, recurses := true, apart := false }
def HartNestsSaid : Prop := hartNestsRow.holds Try.pinned (OpenSpec.ofChange hartNestsSpec)

/-- ITS FALSE NEIGHBOUR: 'it returns false'. Refute it at one input. -/
def hartNestsWrong : ChangeSpec := { name := "hartNests", fn := fun _ => fun
  | [d1, d2, d3, d4] => { results := [.lit (.bool false)], args := [d1, d2, d3, d4] }
  | _ => none }
def HartNestsWrongFalsely : Prop := hartNestsRow.holds Try.pinned (OpenSpec.ofChange hartNestsWrong)

/-- 'cloisterlaw4.HartMail': WHATEVER THE INPUT: true; the input reads as it did. -/
def hartMailSpec : ChangeSpec := { name := "hartMail", fn := fun _ => fun
  | [d1, d2, d3, d4] => { results := [.lit (.bool true)], args := [d1, d2, d3, d4] }
  | _ => none }
def hartMailRow : OpenClaim := { program := "ytckbimgoepcoaaa", sum := "5364f87b92d5f93ba2b08c0b331e59464bf5f6674e1f8964268b0c2d96eb6b8b", func := "cloister/cloisterlaw4.HartMail", spec := "hartMail", unfollowed := true, recurses := true, apart := false }
def HartMailSaid : Prop := hartMailRow.holds Try.pinned (OpenSpec.ofChange hartMailSpec)

/-- ITS FALSE NEIGHBOUR: 'it returns false'. Refute it at one input. -/
def hartMailWrong : ChangeSpec := { name := "hartMail", fn := fun _ => fun
  | [d1, d2, d3, d4] => { results := [.lit (.bool false)], args := [d1, d2, d3, d4] }
  | _ => none }
def HartMailWrongFalsely : Prop := hartMailRow.holds Try.pinned (OpenSpec.ofChange hartMailWrong)

/- THE SECOND FORM. 'bulk': how many values and letters a reading holds, each counted each time it is reached (what is shared counts as often as it is met; a slice's spare places count too). A statement '..UptoSaid' is the law's where the arguments, and the package variables that the reading takes, are together of bulk at most 1048576: NARROWER than '..Said'. Prove '..Said' where nothing that the law and all that it calls make is longer than what came in: it says more and counts as full. Else prove '..UptoSaid'. A law counts once. -/
mutual
def uptoBulk {H : Type} : DataW H → Nat
  | .lit (.string bytes) => bytes.length + 1
  | .lit _ => 1
  | .nil => 1
  | .ptr d => uptoBulk d + 1
  | .slice elems spare => uptoBulkAll elems + uptoBulkAll spare + 1
  | .agg parts => uptoBulkAll parts + 1
  | .iface _ d => uptoBulk d + 1
  | .map entries => uptoBulkEntries entries + 1
  | .held _ => 1
def uptoBulkAll {H : Type} : List (DataW H) → Nat
  | [] => 0
  | d :: r => uptoBulk d + uptoBulkAll r
def uptoBulkEntries {H : Type} : List (Lit × DataW H) → Nat
  | [] => 0
  | x :: r => uptoBulkEntry x + uptoBulkEntries r
def uptoBulkEntry {H : Type} : Lit × DataW H → Nat
  | (.string bytes, d) => bytes.length + uptoBulk d + 1
  | (_, d) => uptoBulk d + 1
 end
def uptoSmall : (H : Type) → List (DataW H) → Bool := fun _ ds => decide (uptoBulkAll ds ≤ 1048576)
def OpenSpec.upto (s : _root_.Go.ChangeSpec) : _root_.Go.OpenSpec := { _root_.Go.OpenSpec.ofChange s with cond := some uptoSmall }

/-- 'cloisterlaw4.HartRuns', WHERE WHAT IT READS IS OF BULK AT MOST 1048576: true; the input reads as it did. -/
def hartRunsUptoRow : OpenClaim := { program := "ytckbimgoepcoaaa", sum := "5364f87b92d5f93ba2b08c0b331e59464bf5f6674e1f8964268b0c2d96eb6b8b", func := "cloister/cloisterlaw4.HartRuns", spec := "hartRuns", unfollowed := true, recurses := true, apart := false, narrowed := true }
def HartRunsUptoSaid : Prop := hartRunsUptoRow.holds Try.pinned (OpenSpec.upto hartRunsSpec)

/-- 'cloisterlaw4.HartPlays', WHERE WHAT IT READS IS OF BULK AT MOST 1048576: true; the input reads as it did. -/
def hartPlaysUptoRow : OpenClaim := { program := "ytckbimgoepcoaaa", sum := "5364f87b92d5f93ba2b08c0b331e59464bf5f6674e1f8964268b0c2d96eb6b8b", func := "cloister/cloisterlaw4.HartPlays", spec := "hartPlays", unfollowed := true, recurses := true, apart := false, narrowed := true }
def HartPlaysUptoSaid : Prop := hartPlaysUptoRow.holds Try.pinned (OpenSpec.upto hartPlaysSpec)

/-- 'cloisterlaw4.HartNests', WHERE WHAT IT READS IS OF BULK AT MOST 1048576: true; the input reads as it did. -/
def hartNestsUptoRow : OpenClaim := { program := "ytckbimgoepcoaaa", sum := "5364f87b92d5f93ba2b08c0b331e59464bf5f6674e1f8964268b0c2d96eb6b8b", func := "cloister/cloisterlaw4.HartNests", spec := "hartNests", unfollowed := true, recurses := true, apart := false, narrowed := true }
def HartNestsUptoSaid : Prop := hartNestsUptoRow.holds Try.pinned (OpenSpec.upto hartNestsSpec)

/-- 'cloisterlaw4.HartMail', WHERE WHAT IT READS IS OF BULK AT MOST 1048576: true; the input reads as it did. -/
def hartMailUptoRow : OpenClaim := { program := "ytckbimgoepcoaaa", sum := "5364f87b92d5f93ba2b08c0b331e59464bf5f6674e1f8964268b0c2d96eb6b8b", func := "cloister/cloisterlaw4.HartMail", spec := "hartMail", unfollowed := true, recurses := true, apart := false, narrowed := true }
def HartMailUptoSaid : Prop := hartMailUptoRow.holds Try.pinned (OpenSpec.upto hartMailSpec)

end Rows
end Go.Proofs.Ytckbimgoepcoaaa
