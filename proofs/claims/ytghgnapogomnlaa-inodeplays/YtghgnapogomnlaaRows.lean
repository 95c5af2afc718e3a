/-
  No cell of these rows narrows 'for every input' (looked for: loops, veiled, ifaces, maps, wideKeys, modest, calm, conditions, laid).
  DERIVED. THE GIVEN ROWS OF THIS SEAT. 5 by the template 'for every input the law returns true; each argument reads behind the call as it read before'; 0 by the template 'total and deterministic' (their statements: YtghgnapogomnlaaTotals.lean).
  GIVEN WITH THE SEED: the statements are not yours to turn. If you find one false, say at which input.
  Laid BY PROGRAM, IN A SANDBOX (cutbox-rows.mjs): the forced cells as the released guide's own fill.sh prints them over the translation 20036a7bcc9a2d09… (all of the seat's roots in one cut). By AI agents, Wed Nov 11 2026. No macro, syntax, notation, axiom, sorry.
-/
import Derived.Test.YtghgnapogomnlaaChecked
import GoSem.Claim
import GoSem.ClaimJoined
import GoSem.ClaimMapViews
import Derived.JoinedTies
import Derived.KernelRfl
namespace Go.Proofs.Ytghgnapogomnlaa
/- THE CELL 'sum', in the pinned program and in every row, IS THE sha256 OF THE DUMP (.gsa) THAT YtghgnapogomnlaaProg.lean LOADS. Nothing in Lean hashes anything: it is a label: what it is worth is what the hold of that sum in a sandbox is worth. -/
noncomputable def Try.pinned : Pinned := { name := "ytghgnapogomnlaa", sum := "20036a7bcc9a2d0924269296134340c3101833d394f80feaf9290cf448392272", checked := Try.checked }
namespace Rows
def none {H : Type} : Left H := { results := [], args := [] }

/-- 'cloisterlaw10.InodeRuns': WHATEVER THE INPUT: true; the input reads as it did. -/
def inodeRunsSpec : ChangeSpec := { name := "inodeRuns", fn := fun _ => fun
  | [] => { results := [.lit (.bool true)], args := [] }
  | _ => none }
def inodeRunsRow : OpenClaim := { program := "ytghgnapogomnlaa", sum := "20036a7bcc9a2d0924269296134340c3101833d394f80feaf9290cf448392272", func := "cloister/cloisterlaw10.InodeRuns", spec := "inodeRuns", plainKeys := false, apart := false }
def InodeRunsSaid : Prop := inodeRunsRow.holds Try.pinned (OpenSpec.ofChange inodeRunsSpec)

/-- ITS FALSE NEIGHBOUR: 'it returns false'. Refute it at one input. -/
def inodeRunsWrong : ChangeSpec := { name := "inodeRuns", fn := fun _ => fun
  | [] => { results := [.lit (.bool false)], args := [] }
  | _ => none }
def InodeRunsWrongFalsely : Prop := inodeRunsRow.holds Try.pinned (OpenSpec.ofChange inodeRunsWrong)

/-- 'cloisterlaw10.InodePlays': WHATEVER THE INPUT: true; the input reads as it did. -/
def inodePlaysSpec : ChangeSpec := { name := "inodePlays", fn := fun _ => fun
  | [d1, d2] => { results := [.lit (.bool true)], args := [d1, d2] }
  | _ => none }
def inodePlaysRow : OpenClaim := { program := "ytghgnapogomnlaa", sum := "20036a7bcc9a2d0924269296134340c3101833d394f80feaf9290cf448392272", func := "cloister/cloisterlaw10.InodePlays", spec := "inodePlays", unfollowed := true, recurses := true, plainKeys := false, apart := false }
def InodePlaysSaid : Prop := inodePlaysRow.holds Try.pinned (OpenSpec.ofChange inodePlaysSpec)

/-- ITS FALSE NEIGHBOUR: 'it returns false'. Refute it at one input. -/
def inodePlaysWrong : ChangeSpec := { name := "inodePlays", fn := fun _ => fun
  | [d1, d2] => { results := [.lit (.bool false)], args := [d1, d2] }
  | _ => none }
def InodePlaysWrongFalsely : Prop := inodePlaysRow.holds Try.pinned (OpenSpec.ofChange inodePlaysWrong)

/-- 'cloisterlaw10.InodeBytes': WHATEVER THE INPUT: true; the input reads as it did. -/
def inodeBytesSpec : ChangeSpec := { name := "inodeBytes", fn := fun _ => fun
  | [d1, d2, d3] => { results := [.lit (.bool true)], args := [d1, d2, d3] }
  | _ => none }
def inodeBytesRow : OpenClaim := { program := "ytghgnapogomnlaa", sum := "20036a7bcc9a2d0924269296134340c3101833d394f80feaf9290cf448392272", func := "cloister/cloisterlaw10.InodeBytes", spec := "inodeBytes", plainKeys := false, apart := false }
def InodeBytesSaid : Prop := inodeBytesRow.holds Try.pinned (OpenSpec.ofChange inodeBytesSpec)

/-- ITS FALSE NEIGHBOUR: 'it returns false'. Refute it at one input. -/
def inodeBytesWrong : ChangeSpec := { name := "inodeBytes", fn := fun _ => fun
  | [d1, d2, d3] => { results := [.lit (.bool false)], args := [d1, d2, d3] }
  | _ => none }
def InodeBytesWrongFalsely : Prop := inodeBytesRow.holds Try.pinned (OpenSpec.ofChange inodeBytesWrong)

/-- 'cloisterlaw10.InodeCounts': WHATEVER THE INPUT: true; the input reads as it did. -/
def inodeCountsSpec : ChangeSpec := { name := "inodeCounts", fn := fun _ => fun
  | [d1, d2, d3] => { results := [.lit (.bool true)], args := [d1, d2, d3] }
  | _ => none }
def inodeCountsRow : OpenClaim := { program := "ytghgnapogomnlaa", sum := "20036a7bcc9a2d0924269296134340c3101833d394f80feaf9290cf448392272", func := "cloister/cloisterlaw10.InodeCounts", spec := "inodeCounts", plainKeys := false, apart := false }
def InodeCountsSaid : Prop := inodeCountsRow.holds Try.pinned (OpenSpec.ofChange inodeCountsSpec)

/-- ITS FALSE NEIGHBOUR: 'it returns false'. Refute it at one input. -/
def inodeCountsWrong : ChangeSpec := { name := "inodeCounts", fn := fun _ => fun
  | [d1, d2, d3] => { results := [.lit (.bool false)], args := [d1, d2, d3] }
  | _ => none }
def InodeCountsWrongFalsely : Prop := inodeCountsRow.holds Try.pinned (OpenSpec.ofChange inodeCountsWrong)

/-- 'cloisterlaw10.InodeApart': WHATEVER THE INPUT: true; the input reads as it did. -/
def inodeApartSpec : ChangeSpec := { name := "inodeApart", fn := fun _ => fun
  | [d1, d2] => { results := [.lit (.bool true)], args := [d1, d2] }
  | _ => none }
def inodeApartRow : OpenClaim := { program := "ytghgnapogomnlaa", sum := "20036a7bcc9a2d0924269296134340c3101833d394f80feaf9290cf448392272", func := "cloister/cloisterlaw10.InodeApart", spec := "inodeApart", plainKeys := false, apart := false }
def InodeApartSaid : Prop := inodeApartRow.holds Try.pinned (OpenSpec.ofChange inodeApartSpec)

/-- ITS FALSE NEIGHBOUR: 'it returns false'. Refute it at one input. -/
def inodeApartWrong : ChangeSpec := { name := "inodeApart", fn := fun _ => fun
  | [d1, d2] => { results := [.lit (.bool false)], args := [d1, d2] }
  | _ => none }
def InodeApartWrongFalsely : Prop := inodeApartRow.holds Try.pinned (OpenSpec.ofChange inodeApartWrong)

/- THE SECOND FORM. 'bulk': how many values and letters a reading holds, each counted each time it is reached (what is shared counts as often as it is met; a slice's spare places count too). A statement '..UptoSaid' is the law's where the arguments, and the package variables that the reading takes, are together of bulk at most 1048576: NARROWER than '..Said'. Prove '..Said' where nothing that the law and all that it calls make is longer than what came in: it says more and counts as full. Else prove '..UptoSaid'. A law counts once. -/
mutual
def uptoBulk {H : Type} : DataW H → Nat
  | .lit (.string bytes) => bytes.length + 1
  | .lit _ => 1
  | .nil => 1
  | .ptr d => uptoBulk d + 1
  | .slice elems spare => uptoBulkAll elems + uptoBulkAll spare + 1
  | .agg parts => uptoBulkAll parts + 1
  | .iface _ d => uptoBulk d + 1
  | .map entries => uptoBulkEntries entries + 1
  | .held _ => 1
def uptoBulkAll {H : Type} : List (DataW H) → Nat
  | [] => 0
  | d :: r => uptoBulk d + uptoBulkAll r
def uptoBulkEntries {H : Type} : List (Lit × DataW H) → Nat
  | [] => 0
  | x :: r => uptoBulkEntry x + uptoBulkEntries r
def uptoBulkEntry {H : Type} : Lit × DataW H → Nat
  | (.string bytes, d) => bytes.length + uptoBulk d + 1
  | (_, d) => uptoBulk d + 1
 end
def uptoSmall : (H : Type) → List (DataW H) → Bool := fun _ ds => decide (uptoBulkAll ds ≤ 1048576)
def OpenSpec.upto (s : _root_.Go.ChangeSpec) : _root_.Go.OpenSpec := { _root_.Go.OpenSpec.ofChange s with cond := some uptoSmall }

/-- 'cloisterlaw10.InodeRuns', WHERE WHAT IT READS IS OF BULK AT MOST 1048576: true; the input reads as it did. -/
def inodeRunsUptoRow : OpenClaim := { program := "ytghgnapogomnlaa", sum := "20036a7bcc9a2d0924269296134340c3101833d394f80feaf9290cf448392272", func := "cloister/cloisterlaw10.InodeRuns", spec := "inodeRuns", plainKeys := false, apart := false, narrowed := true }
def InodeRunsUptoSaid : Prop := inodeRunsUptoRow.holds Try.pinned (OpenSpec.upto inodeRunsSpec)

/-- 'cloisterlaw10.InodePlays', WHERE WHAT IT READS IS OF BULK AT MOST 1048576: true; the input reads as it did. -/
def inodePlaysUptoRow : OpenClaim := { program := "ytghgnapogomnlaa", sum := "20036a7bcc9a2d0924269296134340c3101833d394f80feaf9290cf448392272", func := "cloister/cloisterlaw10.InodePlays", spec := "inodePlays", unfollowed := true, recurses := true, plainKeys := false, apart := false, narrowed := true }
def InodePlaysUptoSaid : Prop := inodePlaysUptoRow.holds Try.pinned (OpenSpec.upto inodePlaysSpec)

/-- 'cloisterlaw10.InodeBytes', WHERE WHAT IT READS IS OF BULK AT MOST 1048576: true; the input reads as it did. -/
def inodeBytesUptoRow : OpenClaim := { program := "ytghgnapogomnlaa", sum := "20036a7bcc9a2d0924269296134340c3101833d394f80feaf9290cf448392272", func := "cloister/cloisterlaw10.InodeBytes", spec := "inodeBytes", plainKeys := false, apart := false, narrowed := true }
def InodeBytesUptoSaid : Prop := inodeBytesUptoRow.holds Try.pinned (OpenSpec.upto inodeBytesSpec)

/-- 'cloisterlaw10.InodeCounts', WHERE WHAT IT READS IS OF BULK AT MOST 1048576: true; the input reads as it did. -/
def inodeCountsUptoRow : OpenClaim := { program := "ytghgnapogomnlaa", sum := "20036a7bcc9a2d0924269296134340c3101833d394f80feaf9290cf448392272", func := "cloister/cloisterlaw10.InodeCounts", spec := "inodeCounts", plainKeys := false, apart := false, narrowed := true }
def InodeCountsUptoSaid : Prop := inodeCountsUptoRow.holds Try.pinned (OpenSpec.upto inodeCountsSpec)

/-- 'cloisterlaw10.InodeApart', WHERE WHAT IT READS IS OF BULK AT MOST 1048576: true; the input reads as it did. -/
def inodeApartUptoRow : OpenClaim := { program := "ytghgnapogomnlaa", sum := "20036a7bcc9a2d0924269296134340c3101833d394f80feaf9290cf448392272", func := "cloister/cloisterlaw10.InodeApart", spec := "inodeApart", plainKeys := false, apart := false, narrowed := true }
def InodeApartUptoSaid : Prop := inodeApartUptoRow.holds Try.pinned (OpenSpec.upto inodeApartSpec)

end Rows
end Go.Proofs.Ytghgnapogomnlaa
