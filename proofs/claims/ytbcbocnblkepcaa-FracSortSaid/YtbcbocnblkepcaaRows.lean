/-
  No cell of these rows narrows 'for every input' (looked for: loops, veiled, ifaces, maps, wideKeys, modest, calm, conditions, laid).
  DERIVED. THE GIVEN ROWS OF THIS SEAT. 5 by the template 'for every input the law returns true; each argument reads behind the call as it read before'; 0 by the template 'total and deterministic' (their statements: YtbcbocnblkepcaaTotals.lean).
  GIVEN WITH THE SEED: the statements are not yours to turn. If you find one false, say at which input.
  Laid BY PROGRAM, IN A SANDBOX (cutbox-rows.mjs): the forced cells as the released guide's own fill.sh prints them over the translation fa527faa3fa66cfc… (all of the seat's roots in one cut). By AI agents, Wed Nov 11 2026. No macro, syntax, notation, axiom, sorry.
-/
import Derived.Test.YtbcbocnblkepcaaChecked
import GoSem.Claim
import GoSem.ClaimJoined
import GoSem.ClaimMapViews
import Derived.JoinedTies
import Derived.KernelRfl
namespace Go.Proofs.Ytbcbocnblkepcaa
/- THE CELL 'sum', in the pinned program and in every row, IS THE sha256 OF THE DUMP (.gsa) THAT YtbcbocnblkepcaaProg.lean LOADS. Nothing in Lean hashes anything: it is a label: what it is worth is what the hold of that sum in a sandbox is worth. -/
noncomputable def Try.pinned : Pinned := { name := "ytbcbocnblkepcaa", sum := "fa527faa3fa66cfc05bfb6fd1b0982771ab696fc524716db007d919895e7b5ea", checked := Try.checked }
namespace Rows
def none {H : Type} : Left H := { results := [], args := [] }

/-- 'limewashlaw03.FracDoes': WHATEVER THE INPUT: true; the input reads as it did. -/
def fracDoesSpec : ChangeSpec := { name := "fracDoes", fn := fun _ => fun
  | [d1, d2, d3] => { results := [.lit (.bool true)], args := [d1, d2, d3] }
  | _ => none }
def fracDoesRow : OpenClaim := { program := "ytbcbocnblkepcaa", sum := "fa527faa3fa66cfc05bfb6fd1b0982771ab696fc524716db007d919895e7b5ea", func := "limewash/limewashlaw03.FracDoes", spec := "fracDoes", unfollowed := true, recurses := true, apart := false }
def FracDoesSaid : Prop := fracDoesRow.holds Try.pinned (OpenSpec.ofChange fracDoesSpec)

/-- ITS FALSE NEIGHBOUR: 'it returns false'. Refute it at one input. -/
def fracDoesWrong : ChangeSpec := { name := "fracDoes", fn := fun _ => fun
  | [d1, d2, d3] => { results := [.lit (.bool false)], args := [d1, d2, d3] }
  | _ => none }
def FracDoesWrongFalsely : Prop := fracDoesRow.holds Try.pinned (OpenSpec.ofChange fracDoesWrong)

/-- 'limewashlaw03.FracOrder': WHATEVER THE INPUT: true; the input reads as it did. -/
def fracOrderSpec : ChangeSpec := { name := "fracOrder", fn := fun _ => fun
  | [d1, d2, d3] => { results := [.lit (.bool true)], args := [d1, d2, d3] }
  | _ => none }
def fracOrderRow : OpenClaim := { program := "ytbcbocnblkepcaa", sum := "fa527faa3fa66cfc05bfb6fd1b0982771ab696fc524716db007d919895e7b5ea", func := "limewash/limewashlaw03.FracOrder", spec := "fracOrder", apart := false }
def FracOrderSaid : Prop := fracOrderRow.holds Try.pinned (OpenSpec.ofChange fracOrderSpec)

/-- ITS FALSE NEIGHBOUR: 'it returns false'. Refute it at one input. -/
def fracOrderWrong : ChangeSpec := { name := "fracOrder", fn := fun _ => fun
  | [d1, d2, d3] => { results := [.lit (.bool false)], args := [d1, d2, d3] }
  | _ => none }
def FracOrderWrongFalsely : Prop := fracOrderRow.holds Try.pinned (OpenSpec.ofChange fracOrderWrong)

/-- 'limewashlaw03.FracReduced': WHATEVER THE INPUT: true; the input reads as it did. -/
def fracReducedSpec : ChangeSpec := { name := "fracReduced", fn := fun _ => fun
  | [d1, d2] => { results := [.lit (.bool true)], args := [d1, d2] }
  | _ => none }
def fracReducedRow : OpenClaim := { program := "ytbcbocnblkepcaa", sum := "fa527faa3fa66cfc05bfb6fd1b0982771ab696fc524716db007d919895e7b5ea", func := "limewash/limewashlaw03.FracReduced", spec := "fracReduced", apart := false }
def FracReducedSaid : Prop := fracReducedRow.holds Try.pinned (OpenSpec.ofChange fracReducedSpec)

/-- ITS FALSE NEIGHBOUR: 'it returns false'. Refute it at one input. -/
def fracReducedWrong : ChangeSpec := { name := "fracReduced", fn := fun _ => fun
  | [d1, d2] => { results := [.lit (.bool false)], args := [d1, d2] }
  | _ => none }
def FracReducedWrongFalsely : Prop := fracReducedRow.holds Try.pinned (OpenSpec.ofChange fracReducedWrong)

/-- 'limewashlaw03.FracFloor': WHATEVER THE INPUT: true; the input reads as it did. -/
def fracFloorSpec : ChangeSpec := { name := "fracFloor", fn := fun _ => fun
  | [d] => { results := [.lit (.bool true)], args := [d] }
  | _ => none }
def fracFloorRow : OpenClaim := { program := "ytbcbocnblkepcaa", sum := "fa527faa3fa66cfc05bfb6fd1b0982771ab696fc524716db007d919895e7b5ea", func := "limewash/limewashlaw03.FracFloor", spec := "fracFloor", apart := false }
def FracFloorSaid : Prop := fracFloorRow.holds Try.pinned (OpenSpec.ofChange fracFloorSpec)

/-- ITS FALSE NEIGHBOUR: 'it returns false'. Refute it at one input. -/
def fracFloorWrong : ChangeSpec := { name := "fracFloor", fn := fun _ => fun
  | [d] => { results := [.lit (.bool false)], args := [d] }
  | _ => none }
def FracFloorWrongFalsely : Prop := fracFloorRow.holds Try.pinned (OpenSpec.ofChange fracFloorWrong)

/-- 'limewashlaw03.FracSort': WHATEVER THE INPUT: true; the input reads as it did. -/
def fracSortSpec : ChangeSpec := { name := "fracSort", fn := fun _ => fun
  | [d1, d2] => { results := [.lit (.bool true)], args := [d1, d2] }
  | _ => none }
def fracSortRow : OpenClaim := { program := "ytbcbocnblkepcaa", sum := "fa527faa3fa66cfc05bfb6fd1b0982771ab696fc524716db007d919895e7b5ea", func := "limewash/limewashlaw03.FracSort", spec := "fracSort", unfollowed := true, recurses := true, apart := false }
def FracSortSaid : Prop := fracSortRow.holds Try.pinned (OpenSpec.ofChange fracSortSpec)

/-- ITS FALSE NEIGHBOUR: 'it returns false'. Refute it at one input. -/
def fracSortWrong : ChangeSpec := { name := "fracSort", fn := fun _ => fun
  | [d1, d2] => { results := [.lit (.bool false)], args := [d1, d2] }
  | _ => none }
def FracSortWrongFalsely : Prop := fracSortRow.holds Try.pinned (OpenSpec.ofChange fracSortWrong)

/- THE SECOND FORM. 'bulk': how many values and letters a reading holds, each counted each time it is reached (what is shared counts as often as it is met; a slice's spare places count too). A statement '..UptoSaid' is the law's where the arguments, and the package variables that the reading takes, are together of bulk at most 1048576: NARROWER than '..Said'. Prove '..Said' where nothing that the law and all that it calls make is longer than what came in: it says more and counts as full. Else prove '..UptoSaid'. A law counts once. -/
mutual
def uptoBulk {H : Type} : DataW H → Nat
  | .lit (.string bytes) => bytes.length + 1
  | .lit _ => 1
  | .nil => 1
  | .ptr d => uptoBulk d + 1
  | .slice elems spare => uptoBulkAll elems + uptoBulkAll spare + 1
  | .agg parts => uptoBulkAll parts + 1
  | .iface _ d => uptoBulk d + 1
  | .map entries => uptoBulkEntries entries + 1
  | .held _ => 1
def uptoBulkAll {H : Type} : List (DataW H) → Nat
  | [] => 0
  | d :: r => uptoBulk d + uptoBulkAll r
def uptoBulkEntries {H : Type} : List (Lit × DataW H) → Nat
  | [] => 0
  | x :: r => uptoBulkEntry x + uptoBulkEntries r
def uptoBulkEntry {H : Type} : Lit × DataW H → Nat
  | (.string bytes, d) => bytes.length + uptoBulk d + 1
  | (_, d) => uptoBulk d + 1
 end
def uptoSmall : (H : Type) → List (DataW H) → Bool := fun _ ds => decide (uptoBulkAll ds ≤ 1048576)
def OpenSpec.upto (s : _root_.Go.ChangeSpec) : _root_.Go.OpenSpec := { _root_.Go.OpenSpec.ofChange s with cond := some uptoSmall }

/-- 'limewashlaw03.FracDoes', WHERE WHAT IT READS IS OF BULK AT MOST 1048576: true; the input reads as it did. -/
def fracDoesUptoRow : OpenClaim := { program := "ytbcbocnblkepcaa", sum := "fa527faa3fa66cfc05bfb6fd1b0982771ab696fc524716db007d919895e7b5ea", func := "limewash/limewashlaw03.FracDoes", spec := "fracDoes", unfollowed := true, recurses := true, apart := false, narrowed := true }
def FracDoesUptoSaid : Prop := fracDoesUptoRow.holds Try.pinned (OpenSpec.upto fracDoesSpec)

/-- 'limewashlaw03.FracOrder', WHERE WHAT IT READS IS OF BULK AT MOST 1048576: true; the input reads as it did. -/
def fracOrderUptoRow : OpenClaim := { program := "ytbcbocnblkepcaa", sum := "fa527faa3fa66cfc05bfb6fd1b0982771ab696fc524716db007d919895e7b5ea", func := "limewash/limewashlaw03.FracOrder", spec := "fracOrder", apart := false, narrowed := true }
def FracOrderUptoSaid : Prop := fracOrderUptoRow.holds Try.pinned (OpenSpec.upto fracOrderSpec)

/-- 'limewashlaw03.FracReduced', WHERE WHAT IT READS IS OF BULK AT MOST 1048576: true; the input reads as it did. -/
def fracReducedUptoRow : OpenClaim := { program := "ytbcbocnblkepcaa", sum := "fa527faa3fa66cfc05bfb6fd1b0982771ab696fc524716db007d919895e7b5ea", func := "limewash/limewashlaw03.FracReduced", spec := "fracReduced", apart := false, narrowed := true }
def FracReducedUptoSaid : Prop := fracReducedUptoRow.holds Try.pinned (OpenSpec.upto fracReducedSpec)

/-- 'limewashlaw03.FracFloor', WHERE WHAT IT READS IS OF BULK AT MOST 1048576: true; the input reads as it did. -/
def fracFloorUptoRow : OpenClaim := { program := "ytbcbocnblkepcaa", sum := "fa527faa3fa66cfc05bfb6fd1b0982771ab696fc524716db007d919895e7b5ea", func := "limewash/limewashlaw03.FracFloor", spec := "fracFloor", apart := false, narrowed := true }
def FracFloorUptoSaid : Prop := fracFloorUptoRow.holds Try.pinned (OpenSpec.upto fracFloorSpec)

/-- 'limewashlaw03.FracSort', WHERE WHAT IT READS IS OF BULK AT MOST 1048576: true; the input reads as it did. -/
def fracSortUptoRow : OpenClaim := { program := "ytbcbocnblkepcaa", sum := "fa527faa3fa66cfc05bfb6fd1b0982771ab696fc524716db007d919895e7b5ea", func := "limewash/limewashlaw03.FracSort", spec := "fracSort", unfollowed := true, recurses := true, apart := false, narrowed := true }
def FracSortUptoSaid : Prop := fracSortUptoRow.holds Try.pinned (OpenSpec.upto fracSortSpec)

end Rows
end Go.Proofs.Ytbcbocnblkepcaa
