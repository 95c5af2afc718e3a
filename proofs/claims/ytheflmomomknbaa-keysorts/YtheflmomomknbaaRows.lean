/-
  No cell of these rows narrows 'for every input' (looked for: loops, veiled, ifaces, maps, wideKeys, modest, calm, conditions, laid).
  DERIVED. THE GIVEN ROWS OF THIS SEAT. 5 by the template 'for every input the law returns true; each argument reads behind the call as it read before'; 0 by the template 'total and deterministic' (their statements: YtheflmomomknbaaTotals.lean).
  GIVEN WITH THE SEED: the statements are not yours to turn. If you find one false, say at which input.
  Laid BY PROGRAM, IN A SANDBOX (cutbox-rows.mjs): the forced cells as the released guide's own fill.sh prints them over the translation e82d7f07457f56a2… (all of the seat's roots in one cut). By AI agents, Wed Nov 11 2026. No macro, syntax, notation, axiom, sorry.
-/
import Derived.Test.YtheflmomomknbaaChecked
import GoSem.Claim
import GoSem.ClaimJoined
import GoSem.ClaimMapViews
import Derived.JoinedTies
import Derived.KernelRfl
namespace Go.Proofs.Ytheflmomomknbaa
/- THE CELL 'sum', in the pinned program and in every row, IS THE sha256 OF THE DUMP (.gsa) THAT YtheflmomomknbaaProg.lean LOADS. Nothing in Lean hashes anything: it is a label: what it is worth is what the hold of that sum in a sandbox is worth. -/
noncomputable def Try.pinned : Pinned := { name := "ytheflmomomknbaa", sum := "e82d7f07457f56a27713df33b68c1abc5a3882f121d424b71ae0e771d997144b", checked := Try.checked }
namespace Rows
def none {H : Type} : Left H := { results := [], args := [] }

/-- 'cloisterlaw7.KeyRuns': WHATEVER THE INPUT: true; the input reads as it did. -/
def keyRunsSpec : ChangeSpec := { name := "keyRuns", fn := fun _ => fun
  | [] => { results := [.lit (.bool true)], args := [] }
  | _ => none }
def keyRunsRow : OpenClaim := { program := "ytheflmomomknbaa", sum := "e82d7f07457f56a27713df33b68c1abc5a3882f121d424b71ae0e771d997144b", func := "cloister/cloisterlaw7.KeyRuns", spec := "keyRuns", apart := false }
def KeyRunsSaid : Prop := keyRunsRow.holds Try.pinned (OpenSpec.ofChange keyRunsSpec)

/-- ITS FALSE NEIGHBOUR: 'it returns false'. Refute it at one input. -/
def keyRunsWrong : ChangeSpec := { name := "keyRuns", fn := fun _ => fun
  | [] => { results := [.lit (.bool false)], args := [] }
  | _ => none }
def KeyRunsWrongFalsely : Prop := keyRunsRow.holds Try.pinned (OpenSpec.ofChange keyRunsWrong)

/-- 'cloisterlaw7.KeyTells': WHATEVER THE INPUT: true; the input reads as it did. -/
def keyTellsSpec : ChangeSpec := { name := "keyTells", fn := fun _ => fun
  | [d1, d2] => { results := [.lit (.bool true)], args := [d1, d2] }
  | _ => none }
def keyTellsRow : OpenClaim := { program := "ytheflmomomknbaa", sum := "e82d7f07457f56a27713df33b68c1abc5a3882f121d424b71ae0e771d997144b", func := "cloister/cloisterlaw7.KeyTells", spec := "keyTells", apart := false }
def KeyTellsSaid : Prop := keyTellsRow.holds Try.pinned (OpenSpec.ofChange keyTellsSpec)

/-- ITS FALSE NEIGHBOUR: 'it returns false'. Refute it at one input. -/
def keyTellsWrong : ChangeSpec := { name := "keyTells", fn := fun _ => fun
  | [d1, d2] => { results := [.lit (.bool false)], args := [d1, d2] }
  | _ => none }
def KeyTellsWrongFalsely : Prop := keyTellsRow.holds Try.pinned (OpenSpec.ofChange keyTellsWrong)

/-- 'cloisterlaw7.KeyRow': WHATEVER THE INPUT: true; the input reads as it did. -/
def keyRowSpec : ChangeSpec := { name := "keyRow", fn := fun _ => fun
  | [d1, d2] => { results := [.lit (.bool true)], args := [d1, d2] }
  | _ => none }
def keyRowRow : OpenClaim := { program := "ytheflmomomknbaa", sum := "e82d7f07457f56a27713df33b68c1abc5a3882f121d424b71ae0e771d997144b", func := "cloister/cloisterlaw7.KeyRow", spec := "keyRow", apart := false }
def KeyRowSaid : Prop := keyRowRow.holds Try.pinned (OpenSpec.ofChange keyRowSpec)

/-- ITS FALSE NEIGHBOUR: 'it returns false'. Refute it at one input. -/
def keyRowWrong : ChangeSpec := { name := "keyRow", fn := fun _ => fun
  | [d1, d2] => { results := [.lit (.bool false)], args := [d1, d2] }
  | _ => none }
def KeyRowWrongFalsely : Prop := keyRowRow.holds Try.pinned (OpenSpec.ofChange keyRowWrong)

/-- 'cloisterlaw7.KeySorts': WHATEVER THE INPUT: true; the input reads as it did. -/
def keySortsSpec : ChangeSpec := { name := "keySorts", fn := fun _ => fun
  | [d1, d2] => { results := [.lit (.bool true)], args := [d1, d2] }
  | _ => none }
def keySortsRow : OpenClaim := { program := "ytheflmomomknbaa", sum := "e82d7f07457f56a27713df33b68c1abc5a3882f121d424b71ae0e771d997144b", func := "cloister/cloisterlaw7.KeySorts", spec := "keySorts", apart := false }
def KeySortsSaid : Prop := keySortsRow.holds Try.pinned (OpenSpec.ofChange keySortsSpec)

/-- ITS FALSE NEIGHBOUR: 'it returns false'. Refute it at one input. -/
def keySortsWrong : ChangeSpec := { name := "keySorts", fn := fun _ => fun
  | [d1, d2] => { results := [.lit (.bool false)], args := [d1, d2] }
  | _ => none }
def KeySortsWrongFalsely : Prop := keySortsRow.holds Try.pinned (OpenSpec.ofChange keySortsWrong)

/-- 'cloisterlaw7.KeyKinds': WHATEVER THE INPUT: true; the input reads as it did. -/
def keyKindsSpec : ChangeSpec := { name := "keyKinds", fn := fun _ => fun
  | [d1, d2] => { results := [.lit (.bool true)], args := [d1, d2] }
  | _ => none }
def keyKindsRow : OpenClaim := { program := "ytheflmomomknbaa", sum := "e82d7f07457f56a27713df33b68c1abc5a3882f121d424b71ae0e771d997144b", func := "cloister/cloisterlaw7.KeyKinds", spec := "keyKinds", apart := false }
def KeyKindsSaid : Prop := keyKindsRow.holds Try.pinned (OpenSpec.ofChange keyKindsSpec)

/-- ITS FALSE NEIGHBOUR: 'it returns false'. Refute it at one input. -/
def keyKindsWrong : ChangeSpec := { name := "keyKinds", fn := fun _ => fun
  | [d1, d2] => { results := [.lit (.bool false)], args := [d1, d2] }
  | _ => none }
def KeyKindsWrongFalsely : Prop := keyKindsRow.holds Try.pinned (OpenSpec.ofChange keyKindsWrong)

/- THE SECOND FORM. 'bulk': how many values and letters a reading holds, each counted each time it is reached (what is shared counts as often as it is met; a slice's spare places count too). A statement '..UptoSaid' is the law's where the arguments, and the package variables that the reading takes, are together of bulk at most 1048576: NARROWER than '..Said'. Prove '..Said' where nothing that the law and all that it calls make is longer than what came in: it says more and counts as full. Else prove '..UptoSaid'. A law counts once. -/
mutual
def uptoBulk {H : Type} : DataW H → Nat
  | .lit (.string bytes) => bytes.length + 1
  | .lit _ => 1
  | .nil => 1
  | .ptr d => uptoBulk d + 1
  | .slice elems spare => uptoBulkAll elems + uptoBulkAll spare + 1
  | .agg parts => uptoBulkAll parts + 1
  | .iface _ d => uptoBulk d + 1
  | .map entries => uptoBulkEntries entries + 1
  | .held _ => 1
def uptoBulkAll {H : Type} : List (DataW H) → Nat
  | [] => 0
  | d :: r => uptoBulk d + uptoBulkAll r
def uptoBulkEntries {H : Type} : List (Lit × DataW H) → Nat
  | [] => 0
  | x :: r => uptoBulkEntry x + uptoBulkEntries r
def uptoBulkEntry {H : Type} : Lit × DataW H → Nat
  | (.string bytes, d) => bytes.length + uptoBulk d + 1
  | (_, d) => uptoBulk d + 1
 end
def uptoSmall : (H : Type) → List (DataW H) → Bool := fun _ ds => decide (uptoBulkAll ds ≤ 1048576)
def OpenSpec.upto (s : _root_.Go.ChangeSpec) : _root_.Go.OpenSpec := { _root_.Go.OpenSpec.ofChange s with cond := some uptoSmall }

/-- 'cloisterlaw7.KeyRuns', WHERE WHAT IT READS IS OF BULK AT MOST 1048576: true; the input reads as it did. -/
def keyRunsUptoRow : OpenClaim := { program := "ytheflmomomknbaa", sum := "e82d7f07457f56a27713df33b68c1abc5a3882f121d424b71ae0e771d997144b", func := "cloister/cloisterlaw7.KeyRuns", spec := "keyRuns", apart := false, narrowed := true }
def KeyRunsUptoSaid : Prop := keyRunsUptoRow.holds Try.pinned (OpenSpec.upto keyRunsSpec)

/-- 'cloisterlaw7.KeyTells', WHERE WHAT IT READS IS OF BULK AT MOST 1048576: true; the input reads as it did. -/
def keyTellsUptoRow : OpenClaim := { program := "ytheflmomomknbaa", sum := "e82d7f07457f56a27713df33b68c1abc5a3882f121d424b71ae0e771d997144b", func := "cloister/cloisterlaw7.KeyTells", spec := "keyTells", apart := false, narrowed := true }
def KeyTellsUptoSaid : Prop := keyTellsUptoRow.holds Try.pinned (OpenSpec.upto keyTellsSpec)

/-- 'cloisterlaw7.KeyRow', WHERE WHAT IT READS IS OF BULK AT MOST 1048576: true; the input reads as it did. -/
def keyRowUptoRow : OpenClaim := { program := "ytheflmomomknbaa", sum := "e82d7f07457f56a27713df33b68c1abc5a3882f121d424b71ae0e771d997144b", func := "cloister/cloisterlaw7.KeyRow", spec := "keyRow", apart := false, narrowed := true }
def KeyRowUptoSaid : Prop := keyRowUptoRow.holds Try.pinned (OpenSpec.upto keyRowSpec)

/-- 'cloisterlaw7.KeySorts', WHERE WHAT IT READS IS OF BULK AT MOST 1048576: true; the input reads as it did. -/
def keySortsUptoRow : OpenClaim := { program := "ytheflmomomknbaa", sum := "e82d7f07457f56a27713df33b68c1abc5a3882f121d424b71ae0e771d997144b", func := "cloister/cloisterlaw7.KeySorts", spec := "keySorts", apart := false, narrowed := true }
def KeySortsUptoSaid : Prop := keySortsUptoRow.holds Try.pinned (OpenSpec.upto keySortsSpec)

/-- 'cloisterlaw7.KeyKinds', WHERE WHAT IT READS IS OF BULK AT MOST 1048576: true; the input reads as it did. -/
def keyKindsUptoRow : OpenClaim := { program := "ytheflmomomknbaa", sum := "e82d7f07457f56a27713df33b68c1abc5a3882f121d424b71ae0e771d997144b", func := "cloister/cloisterlaw7.KeyKinds", spec := "keyKinds", apart := false, narrowed := true }
def KeyKindsUptoSaid : Prop := keyKindsUptoRow.holds Try.pinned (OpenSpec.upto keyKindsSpec)

end Rows
end Go.Proofs.Ytheflmomomknbaa
