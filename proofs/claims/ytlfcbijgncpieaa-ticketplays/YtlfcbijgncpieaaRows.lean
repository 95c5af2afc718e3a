/-
  No cell of these rows narrows 'for every input' (looked for: loops, veiled, ifaces, maps, wideKeys, modest, calm, conditions, laid).
  DERIVED. THE GIVEN ROWS OF THIS SEAT. 5 by the template 'for every input the law returns true; each argument reads behind the call as it read before'; 0 by the template 'total and deterministic' (their statements: YtlfcbijgncpieaaTotals.lean).
  GIVEN WITH THE SEED: the statements are not yours to turn. If you find one false, say at which input.
  Laid BY PROGRAM, IN A SANDBOX (cutbox-rows.mjs): the forced cells as the released guide's own fill.sh prints them over the translation 2c8eecebcf901496… (all of the seat's roots in one cut). By AI agents, Wed Nov 11 2026. No macro, syntax, notation, axiom, sorry.
-/
import Derived.Test.YtlfcbijgncpieaaChecked
import GoSem.Claim
import GoSem.ClaimJoined
import GoSem.ClaimMapViews
import Derived.JoinedTies
import Derived.KernelRfl
namespace Go.Proofs.Ytlfcbijgncpieaa
/- THE CELL 'sum', in the pinned program and in every row, IS THE sha256 OF THE DUMP (.gsa) THAT YtlfcbijgncpieaaProg.lean LOADS. Nothing in Lean hashes anything: it is a label: what it is worth is what the hold of that sum in a sandbox is worth. -/
noncomputable def Try.pinned : Pinned := { name := "ytlfcbijgncpieaa", sum := "2c8eecebcf901496857c41ed0a7aaff4f1e24270b427af86fc06a12878808234", checked := Try.checked }
namespace Rows
def none {H : Type} : Left H := { results := [], args := [] }

/-- 'cloisterlaw5.TicketRuns': WHATEVER THE INPUT: true; the input reads as it did. -/
def ticketRunsSpec : ChangeSpec := { name := "ticketRuns", fn := fun _ => fun
  | [] => { results := [.lit (.bool true)], args := [] }
  | _ => none }
def ticketRunsRow : OpenClaim := { program := "ytlfcbijgncpieaa", sum := "2c8eecebcf901496857c41ed0a7aaff4f1e24270b427af86fc06a12878808234", func := "cloister/cloisterlaw5.TicketRuns", spec := "ticketRuns", apart := false }
def TicketRunsSaid : Prop := ticketRunsRow.holds Try.pinned (OpenSpec.ofChange ticketRunsSpec)

/-- ITS FALSE NEIGHBOUR: 'it returns false'. Refute it at one input. -/
def ticketRunsWrong : ChangeSpec := { name := "ticketRuns", fn := fun _ => fun
  | [] => { results := [.lit (.bool false)], args := [] }
  | _ => none }
def TicketRunsWrongFalsely : Prop := ticketRunsRow.holds Try.pinned (OpenSpec.ofChange ticketRunsWrong)

/-- 'cloisterlaw5.TicketPlays': WHATEVER THE INPUT: true; the input reads as it did. -/
def ticketPlaysSpec : ChangeSpec := { name := "ticketPlays", fn := fun _ => fun
  | [d1, d2] => { results := [.lit (.bool true)], args := [d1, d2] }
  | _ => none }
def ticketPlaysRow : OpenClaim := { program := "ytlfcbijgncpieaa", sum := "2c8eecebcf901496857c41ed0a7aaff4f1e24270b427af86fc06a12878808234", func := "cloister/cloisterlaw5.TicketPlays", spec := "ticketPlays", unfollowed := true, recurses := true, apart := false }
def TicketPlaysSaid : Prop := ticketPlaysRow.holds Try.pinned (OpenSpec.ofChange ticketPlaysSpec)

/-- ITS FALSE NEIGHBOUR: 'it returns false'. Refute it at one input. -/
def ticketPlaysWrong : ChangeSpec := { name := "ticketPlays", fn := fun _ => fun
  | [d1, d2] => { results := [.lit (.bool false)], args := [d1, d2] }
  | _ => none }
def TicketPlaysWrongFalsely : Prop := ticketPlaysRow.holds Try.pinned (OpenSpec.ofChange ticketPlaysWrong)

/-- 'cloisterlaw5.TicketOne': WHATEVER THE INPUT: true; the input reads as it did. -/
def ticketOneSpec : ChangeSpec := { name := "ticketOne", fn := fun _ => fun
  | [d1, d2] => { results := [.lit (.bool true)], args := [d1, d2] }
  | _ => none }
def ticketOneRow : OpenClaim := { program := "ytlfcbijgncpieaa", sum := "2c8eecebcf901496857c41ed0a7aaff4f1e24270b427af86fc06a12878808234", func := "cloister/cloisterlaw5.TicketOne", spec := "ticketOne", apart := false }
def TicketOneSaid : Prop := ticketOneRow.holds Try.pinned (OpenSpec.ofChange ticketOneSpec)

/-- ITS FALSE NEIGHBOUR: 'it returns false'. Refute it at one input. -/
def ticketOneWrong : ChangeSpec := { name := "ticketOne", fn := fun _ => fun
  | [d1, d2] => { results := [.lit (.bool false)], args := [d1, d2] }
  | _ => none }
def TicketOneWrongFalsely : Prop := ticketOneRow.holds Try.pinned (OpenSpec.ofChange ticketOneWrong)

/-- 'cloisterlaw5.TicketTurn': WHATEVER THE INPUT: true; the input reads as it did. -/
def ticketTurnSpec : ChangeSpec := { name := "ticketTurn", fn := fun _ => fun
  | [d1, d2] => { results := [.lit (.bool true)], args := [d1, d2] }
  | _ => none }
def ticketTurnRow : OpenClaim := { program := "ytlfcbijgncpieaa", sum := "2c8eecebcf901496857c41ed0a7aaff4f1e24270b427af86fc06a12878808234", func := "cloister/cloisterlaw5.TicketTurn", spec := "ticketTurn", apart := false }
def TicketTurnSaid : Prop := ticketTurnRow.holds Try.pinned (OpenSpec.ofChange ticketTurnSpec)

/-- ITS FALSE NEIGHBOUR: 'it returns false'. Refute it at one input. -/
def ticketTurnWrong : ChangeSpec := { name := "ticketTurn", fn := fun _ => fun
  | [d1, d2] => { results := [.lit (.bool false)], args := [d1, d2] }
  | _ => none }
def TicketTurnWrongFalsely : Prop := ticketTurnRow.holds Try.pinned (OpenSpec.ofChange ticketTurnWrong)

/-- 'cloisterlaw5.TicketWait': WHATEVER THE INPUT: true; the input reads as it did. -/
def ticketWaitSpec : ChangeSpec := { name := "ticketWait", fn := fun _ => fun
  | [d1, d2, d3] => { results := [.lit (.bool true)], args := [d1, d2, d3] }
  | _ => none }
def ticketWaitRow : OpenClaim := { program := "ytlfcbijgncpieaa", sum := "2c8eecebcf901496857c41ed0a7aaff4f1e24270b427af86fc06a12878808234", func := "cloister/cloisterlaw5.TicketWait", spec := "ticketWait", apart := false }
def TicketWaitSaid : Prop := ticketWaitRow.holds Try.pinned (OpenSpec.ofChange ticketWaitSpec)

/-- ITS FALSE NEIGHBOUR: 'it returns false'. Refute it at one input. -/
def ticketWaitWrong : ChangeSpec := { name := "ticketWait", fn := fun _ => fun
  | [d1, d2, d3] => { results := [.lit (.bool false)], args := [d1, d2, d3] }
  | _ => none }
def TicketWaitWrongFalsely : Prop := ticketWaitRow.holds Try.pinned (OpenSpec.ofChange ticketWaitWrong)

/- THE SECOND FORM. 'bulk': how many values and letters a reading holds, each counted each time it is reached (what is shared counts as often as it is met; a slice's spare places count too). A statement '..UptoSaid' is the law's where the arguments, and the package variables that the reading takes, are together of bulk at most 1048576: NARROWER than '..Said'. Prove '..Said' where nothing that the law and all that it calls make is longer than what came in: it says more and counts as full. Else prove '..UptoSaid'. A law counts once. -/
mutual
def uptoBulk {H : Type} : DataW H → Nat
  | .lit (.string bytes) => bytes.length + 1
  | .lit _ => 1
  | .nil => 1
  | .ptr d => uptoBulk d + 1
  | .slice elems spare => uptoBulkAll elems + uptoBulkAll spare + 1
  | .agg parts => uptoBulkAll parts + 1
  | .iface _ d => uptoBulk d + 1
  | .map entries => uptoBulkEntries entries + 1
  | .held _ => 1
def uptoBulkAll {H : Type} : List (DataW H) → Nat
  | [] => 0
  | d :: r => uptoBulk d + uptoBulkAll r
def uptoBulkEntries {H : Type} : List (Lit × DataW H) → Nat
  | [] => 0
  | x :: r => uptoBulkEntry x + uptoBulkEntries r
def uptoBulkEntry {H : Type} : Lit × DataW H → Nat
  | (.string bytes, d) => bytes.length + uptoBulk d + 1
  | (_, d) => uptoBulk d + 1
 end
def uptoSmall : (H : Type) → List (DataW H) → Bool := fun _ ds => decide (uptoBulkAll ds ≤ 1048576)
def OpenSpec.upto (s : _root_.Go.ChangeSpec) : _root_.Go.OpenSpec := { _root_.Go.OpenSpec.ofChange s with cond := some uptoSmall }

/-- 'cloisterlaw5.TicketRuns', WHERE WHAT IT READS IS OF BULK AT MOST 1048576: true; the input reads as it did. -/
def ticketRunsUptoRow : OpenClaim := { program := "ytlfcbijgncpieaa", sum := "2c8eecebcf901496857c41ed0a7aaff4f1e24270b427af86fc06a12878808234", func := "cloister/cloisterlaw5.TicketRuns", spec := "ticketRuns", apart := false, narrowed := true }
def TicketRunsUptoSaid : Prop := ticketRunsUptoRow.holds Try.pinned (OpenSpec.upto ticketRunsSpec)

/-- 'cloisterlaw5.TicketPlays', WHERE WHAT IT READS IS OF BULK AT MOST 1048576: true; the input reads as it did. -/
def ticketPlaysUptoRow : OpenClaim := { program := "ytlfcbijgncpieaa", sum := "2c8eecebcf901496857c41ed0a7aaff4f1e24270b427af86fc06a12878808234", func := "cloister/cloisterlaw5.TicketPlays", spec := "ticketPlays", unfollowed := true, recurses := true, apart := false, narrowed := true }
def TicketPlaysUptoSaid : Prop := ticketPlaysUptoRow.holds Try.pinned (OpenSpec.upto ticketPlaysSpec)

/-- 'cloisterlaw5.TicketOne', WHERE WHAT IT READS IS OF BULK AT MOST 1048576: true; the input reads as it did. -/
def ticketOneUptoRow : OpenClaim := { program := "ytlfcbijgncpieaa", sum := "2c8eecebcf901496857c41ed0a7aaff4f1e24270b427af86fc06a12878808234", func := "cloister/cloisterlaw5.TicketOne", spec := "ticketOne", apart := false, narrowed := true }
def TicketOneUptoSaid : Prop := ticketOneUptoRow.holds Try.pinned (OpenSpec.upto ticketOneSpec)

/-- 'cloisterlaw5.TicketTurn', WHERE WHAT IT READS IS OF BULK AT MOST 1048576: true; the input reads as it did. -/
def ticketTurnUptoRow : OpenClaim := { program := "ytlfcbijgncpieaa", sum := "2c8eecebcf901496857c41ed0a7aaff4f1e24270b427af86fc06a12878808234", func := "cloister/cloisterlaw5.TicketTurn", spec := "ticketTurn", apart := false, narrowed := true }
def TicketTurnUptoSaid : Prop := ticketTurnUptoRow.holds Try.pinned (OpenSpec.upto ticketTurnSpec)

/-- 'cloisterlaw5.TicketWait', WHERE WHAT IT READS IS OF BULK AT MOST 1048576: true; the input reads as it did. -/
def ticketWaitUptoRow : OpenClaim := { program := "ytlfcbijgncpieaa", sum := "2c8eecebcf901496857c41ed0a7aaff4f1e24270b427af86fc06a12878808234", func := "cloister/cloisterlaw5.TicketWait", spec := "ticketWait", apart := false, narrowed := true }
def TicketWaitUptoSaid : Prop := ticketWaitUptoRow.holds Try.pinned (OpenSpec.upto ticketWaitSpec)

end Rows
end Go.Proofs.Ytlfcbijgncpieaa
