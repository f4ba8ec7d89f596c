/-
  No cell of these rows narrows 'for every input' (looked for: loops, veiled, ifaces, maps, wideKeys, modest, calm, conditions, laid).
  DERIVED. THE GIVEN ROWS OF THIS SEAT. 5 by the template 'for every input the law returns true; each argument reads behind the call as it read before'; 0 by the template 'total and deterministic' (their statements: YtfghjfgdjlkooaaTotals.lean).
  GIVEN WITH THE SEED: the statements are not yours to turn. If you find one false, say at which input.
  Laid BY PROGRAM, IN A SANDBOX (cutbox-rows.mjs): the forced cells as the released guide's own fill.sh prints them over the translation dc643ba8d578d058… (all of the seat's roots in one cut). By AI agents, Wed Nov 11 2026. No macro, syntax, notation, axiom, sorry.
-/
import Derived.Test.YtfghjfgdjlkooaaChecked
import GoSem.Claim
import GoSem.ClaimJoined
import GoSem.ClaimMapViews
import Derived.JoinedTies
import Derived.KernelRfl
namespace Go.Proofs.Ytfghjfgdjlkooaa
/- THE CELL 'sum', in the pinned program and in every row, IS THE sha256 OF THE DUMP (.gsa) THAT YtfghjfgdjlkooaaProg.lean LOADS. Nothing in Lean hashes anything: it is a label: what it is worth is what the hold of that sum in a sandbox is worth. -/
noncomputable def Try.pinned : Pinned := { name := "ytfghjfgdjlkooaa", sum := "dc643ba8d578d058778aaa14439db21b7656dc39682d2d053ff86c64019943db", checked := Try.checked }
namespace Rows
def none {H : Type} : Left H := { results := [], args := [] }

/-- 'limewashlaw13.SlabDoes': WHATEVER THE INPUT: true; the input reads as it did. -/
def slabDoesSpec : ChangeSpec := { name := "slabDoes", fn := fun _ => fun
  | [d1, d2, d3, d4, d5] => { results := [.lit (.bool true)], args := [d1, d2, d3, d4, d5] }
  | _ => none }
def slabDoesRow : OpenClaim := { program := "ytfghjfgdjlkooaa", sum := "dc643ba8d578d058778aaa14439db21b7656dc39682d2d053ff86c64019943db", func := "limewash/limewashlaw13.SlabDoes", spec := "slabDoes", unfollowed := true, recurses := true, apart := false }
def SlabDoesSaid : Prop := slabDoesRow.holds Try.pinned (OpenSpec.ofChange slabDoesSpec)

/-- ITS FALSE NEIGHBOUR: 'it returns false'. Refute it at one input. -/
def slabDoesWrong : ChangeSpec := { name := "slabDoes", fn := fun _ => fun
  | [d1, d2, d3, d4, d5] => { results := [.lit (.bool false)], args := [d1, d2, d3, d4, d5] }
  | _ => none }
def SlabDoesWrongFalsely : Prop := slabDoesRow.holds Try.pinned (OpenSpec.ofChange slabDoesWrong)

/-- 'limewashlaw13.SlabHas': WHATEVER THE INPUT: true; the input reads as it did. -/
def slabHasSpec : ChangeSpec := { name := "slabHas", fn := fun _ => fun
  | [d1, d2, d3] => { results := [.lit (.bool true)], args := [d1, d2, d3] }
  | _ => none }
def slabHasRow : OpenClaim := { program := "ytfghjfgdjlkooaa", sum := "dc643ba8d578d058778aaa14439db21b7656dc39682d2d053ff86c64019943db", func := "limewash/limewashlaw13.SlabHas", spec := "slabHas", unfollowed := true, recurses := true, apart := false }
def SlabHasSaid : Prop := slabHasRow.holds Try.pinned (OpenSpec.ofChange slabHasSpec)

/-- ITS FALSE NEIGHBOUR: 'it returns false'. Refute it at one input. -/
def slabHasWrong : ChangeSpec := { name := "slabHas", fn := fun _ => fun
  | [d1, d2, d3] => { results := [.lit (.bool false)], args := [d1, d2, d3] }
  | _ => none }
def SlabHasWrongFalsely : Prop := slabHasRow.holds Try.pinned (OpenSpec.ofChange slabHasWrong)

/-- 'limewashlaw13.SlabMeets': WHATEVER THE INPUT: true; the input reads as it did. -/
def slabMeetsSpec : ChangeSpec := { name := "slabMeets", fn := fun _ => fun
  | [d1, d2, d3, d4] => { results := [.lit (.bool true)], args := [d1, d2, d3, d4] }
  | _ => none }
def slabMeetsRow : OpenClaim := { program := "ytfghjfgdjlkooaa", sum := "dc643ba8d578d058778aaa14439db21b7656dc39682d2d053ff86c64019943db", func := "limewash/limewashlaw13.SlabMeets", spec := "slabMeets", unfollowed := true, recurses := true, apart := false }
def SlabMeetsSaid : Prop := slabMeetsRow.holds Try.pinned (OpenSpec.ofChange slabMeetsSpec)

/-- ITS FALSE NEIGHBOUR: 'it returns false'. Refute it at one input. -/
def slabMeetsWrong : ChangeSpec := { name := "slabMeets", fn := fun _ => fun
  | [d1, d2, d3, d4] => { results := [.lit (.bool false)], args := [d1, d2, d3, d4] }
  | _ => none }
def SlabMeetsWrongFalsely : Prop := slabMeetsRow.holds Try.pinned (OpenSpec.ofChange slabMeetsWrong)

/-- 'limewashlaw13.SlabMiddle': WHATEVER THE INPUT: true; the input reads as it did. -/
def slabMiddleSpec : ChangeSpec := { name := "slabMiddle", fn := fun _ => fun
  | [d1, d2, d3] => { results := [.lit (.bool true)], args := [d1, d2, d3] }
  | _ => none }
def slabMiddleRow : OpenClaim := { program := "ytfghjfgdjlkooaa", sum := "dc643ba8d578d058778aaa14439db21b7656dc39682d2d053ff86c64019943db", func := "limewash/limewashlaw13.SlabMiddle", spec := "slabMiddle", unfollowed := true, recurses := true, apart := false }
def SlabMiddleSaid : Prop := slabMiddleRow.holds Try.pinned (OpenSpec.ofChange slabMiddleSpec)

/-- ITS FALSE NEIGHBOUR: 'it returns false'. Refute it at one input. -/
def slabMiddleWrong : ChangeSpec := { name := "slabMiddle", fn := fun _ => fun
  | [d1, d2, d3] => { results := [.lit (.bool false)], args := [d1, d2, d3] }
  | _ => none }
def SlabMiddleWrongFalsely : Prop := slabMiddleRow.holds Try.pinned (OpenSpec.ofChange slabMiddleWrong)

/-- 'limewashlaw13.SlabHit': WHATEVER THE INPUT: true; the input reads as it did. -/
def slabHitSpec : ChangeSpec := { name := "slabHit", fn := fun _ => fun
  | [d1, d2, d3] => { results := [.lit (.bool true)], args := [d1, d2, d3] }
  | _ => none }
def slabHitRow : OpenClaim := { program := "ytfghjfgdjlkooaa", sum := "dc643ba8d578d058778aaa14439db21b7656dc39682d2d053ff86c64019943db", func := "limewash/limewashlaw13.SlabHit", spec := "slabHit", unfollowed := true, recurses := true, apart := false }
def SlabHitSaid : Prop := slabHitRow.holds Try.pinned (OpenSpec.ofChange slabHitSpec)

/-- ITS FALSE NEIGHBOUR: 'it returns false'. Refute it at one input. -/
def slabHitWrong : ChangeSpec := { name := "slabHit", fn := fun _ => fun
  | [d1, d2, d3] => { results := [.lit (.bool false)], args := [d1, d2, d3] }
  | _ => none }
def SlabHitWrongFalsely : Prop := slabHitRow.holds Try.pinned (OpenSpec.ofChange slabHitWrong)

/- THE SECOND FORM. 'bulk': how many values and letters a reading holds, each counted each time it is reached (what is shared counts as often as it is met; a slice's spare places count too). A statement '..UptoSaid' is the law's where the arguments, and the package variables that the reading takes, are together of bulk at most 1048576: NARROWER than '..Said'. Prove '..Said' where nothing that the law and all that it calls make is longer than what came in: it says more and counts as full. Else prove '..UptoSaid'. A law counts once. -/
mutual
def uptoBulk {H : Type} : DataW H → Nat
  | .lit (.string bytes) => bytes.length + 1
  | .lit _ => 1
  | .nil => 1
  | .ptr d => uptoBulk d + 1
  | .slice elems spare => uptoBulkAll elems + uptoBulkAll spare + 1
  | .agg parts => uptoBulkAll parts + 1
  | .iface _ d => uptoBulk d + 1
  | .map entries => uptoBulkEntries entries + 1
  | .held _ => 1
def uptoBulkAll {H : Type} : List (DataW H) → Nat
  | [] => 0
  | d :: r => uptoBulk d + uptoBulkAll r
def uptoBulkEntries {H : Type} : List (Lit × DataW H) → Nat
  | [] => 0
  | x :: r => uptoBulkEntry x + uptoBulkEntries r
def uptoBulkEntry {H : Type} : Lit × DataW H → Nat
  | (.string bytes, d) => bytes.length + uptoBulk d + 1
  | (_, d) => uptoBulk d + 1
 end
def uptoSmall : (H : Type) → List (DataW H) → Bool := fun _ ds => decide (uptoBulkAll ds ≤ 1048576)
def OpenSpec.upto (s : _root_.Go.ChangeSpec) : _root_.Go.OpenSpec := { _root_.Go.OpenSpec.ofChange s with cond := some uptoSmall }

/-- 'limewashlaw13.SlabDoes', WHERE WHAT IT READS IS OF BULK AT MOST 1048576: true; the input reads as it did. -/
def slabDoesUptoRow : OpenClaim := { program := "ytfghjfgdjlkooaa", sum := "dc643ba8d578d058778aaa14439db21b7656dc39682d2d053ff86c64019943db", func := "limewash/limewashlaw13.SlabDoes", spec := "slabDoes", unfollowed := true, recurses := true, apart := false, narrowed := true }
def SlabDoesUptoSaid : Prop := slabDoesUptoRow.holds Try.pinned (OpenSpec.upto slabDoesSpec)

/-- 'limewashlaw13.SlabHas', WHERE WHAT IT READS IS OF BULK AT MOST 1048576: true; the input reads as it did. -/
def slabHasUptoRow : OpenClaim := { program := "ytfghjfgdjlkooaa", sum := "dc643ba8d578d058778aaa14439db21b7656dc39682d2d053ff86c64019943db", func := "limewash/limewashlaw13.SlabHas", spec := "slabHas", unfollowed := true, recurses := true, apart := false, narrowed := true }
def SlabHasUptoSaid : Prop := slabHasUptoRow.holds Try.pinned (OpenSpec.upto slabHasSpec)

/-- 'limewashlaw13.SlabMeets', WHERE WHAT IT READS IS OF BULK AT MOST 1048576: true; the input reads as it did. -/
def slabMeetsUptoRow : OpenClaim := { program := "ytfghjfgdjlkooaa", sum := "dc643ba8d578d058778aaa14439db21b7656dc39682d2d053ff86c64019943db", func := "limewash/limewashlaw13.SlabMeets", spec := "slabMeets", unfollowed := true, recurses := true, apart := false, narrowed := true }
def SlabMeetsUptoSaid : Prop := slabMeetsUptoRow.holds Try.pinned (OpenSpec.upto slabMeetsSpec)

/-- 'limewashlaw13.SlabMiddle', WHERE WHAT IT READS IS OF BULK AT MOST 1048576: true; the input reads as it did. -/
def slabMiddleUptoRow : OpenClaim := { program := "ytfghjfgdjlkooaa", sum := "dc643ba8d578d058778aaa14439db21b7656dc39682d2d053ff86c64019943db", func := "limewash/limewashlaw13.SlabMiddle", spec := "slabMiddle", unfollowed := true, recurses := true, apart := false, narrowed := true }
def SlabMiddleUptoSaid : Prop := slabMiddleUptoRow.holds Try.pinned (OpenSpec.upto slabMiddleSpec)

/-- 'limewashlaw13.SlabHit', WHERE WHAT IT READS IS OF BULK AT MOST 1048576: true; the input reads as it did. -/
def slabHitUptoRow : OpenClaim := { program := "ytfghjfgdjlkooaa", sum := "dc643ba8d578d058778aaa14439db21b7656dc39682d2d053ff86c64019943db", func := "limewash/limewashlaw13.SlabHit", spec := "slabHit", unfollowed := true, recurses := true, apart := false, narrowed := true }
def SlabHitUptoSaid : Prop := slabHitUptoRow.holds Try.pinned (OpenSpec.upto slabHitSpec)

end Rows
end Go.Proofs.Ytfghjfgdjlkooaa
