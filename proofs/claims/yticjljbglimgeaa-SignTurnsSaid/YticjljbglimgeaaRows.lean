/-
  No cell of these rows narrows 'for every input' (looked for: loops, veiled, ifaces, maps, wideKeys, modest, calm, conditions, laid).
  DERIVED. THE GIVEN ROWS OF THIS SEAT. 5 by the template 'for every input the law returns true; each argument reads behind the call as it read before'; 0 by the template 'total and deterministic' (their statements: YticjljbglimgeaaTotals.lean).
  GIVEN WITH THE SEED: the statements are not yours to turn. If you find one false, say at which input.
  Laid BY PROGRAM, IN A SANDBOX (cutbox-rows.mjs): the forced cells as the released guide's own fill.sh prints them over the translation 8065ed2f30100082… (all of the seat's roots in one cut). By AI agents, Wed Nov 11 2026. No macro, syntax, notation, axiom, sorry.
-/
import Derived.Test.YticjljbglimgeaaChecked
import GoSem.Claim
import GoSem.ClaimJoined
import GoSem.ClaimMapViews
import Derived.JoinedTies
import Derived.KernelRfl
namespace Go.Proofs.Yticjljbglimgeaa
/- THE CELL 'sum', in the pinned program and in every row, IS THE sha256 OF THE DUMP (.gsa) THAT YticjljbglimgeaaProg.lean LOADS. Nothing in Lean hashes anything: it is a label: what it is worth is what the hold of that sum in a sandbox is worth. -/
noncomputable def Try.pinned : Pinned := { name := "yticjljbglimgeaa", sum := "8065ed2f30100082b7ffa315824b2779da58e97a5913513e0f46825f7356a6f0", checked := Try.checked }
namespace Rows
def none {H : Type} : Left H := { results := [], args := [] }

/-- 'limewashlaw09.SignDoes': WHATEVER THE INPUT: true; the input reads as it did. -/
def signDoesSpec : ChangeSpec := { name := "signDoes", fn := fun _ => fun
  | [d1, d2, d3, d4, d5, d6, d7] => { results := [.lit (.bool true)], args := [d1, d2, d3, d4, d5, d6, d7] }
  | _ => none }
def signDoesRow : OpenClaim := { program := "yticjljbglimgeaa", sum := "8065ed2f30100082b7ffa315824b2779da58e97a5913513e0f46825f7356a6f0", func := "limewash/limewashlaw09.SignDoes", spec := "signDoes", apart := false }
def SignDoesSaid : Prop := signDoesRow.holds Try.pinned (OpenSpec.ofChange signDoesSpec)

/-- ITS FALSE NEIGHBOUR: 'it returns false'. Refute it at one input. -/
def signDoesWrong : ChangeSpec := { name := "signDoes", fn := fun _ => fun
  | [d1, d2, d3, d4, d5, d6, d7] => { results := [.lit (.bool false)], args := [d1, d2, d3, d4, d5, d6, d7] }
  | _ => none }
def SignDoesWrongFalsely : Prop := signDoesRow.holds Try.pinned (OpenSpec.ofChange signDoesWrong)

/-- 'limewashlaw09.SignTurns': WHATEVER THE INPUT: true; the input reads as it did. -/
def signTurnsSpec : ChangeSpec := { name := "signTurns", fn := fun _ => fun
  | [d1, d2, d3, d4, d5, d6] => { results := [.lit (.bool true)], args := [d1, d2, d3, d4, d5, d6] }
  | _ => none }
def signTurnsRow : OpenClaim := { program := "yticjljbglimgeaa", sum := "8065ed2f30100082b7ffa315824b2779da58e97a5913513e0f46825f7356a6f0", func := "limewash/limewashlaw09.SignTurns", spec := "signTurns", apart := false }
def SignTurnsSaid : Prop := signTurnsRow.holds Try.pinned (OpenSpec.ofChange signTurnsSpec)

/-- ITS FALSE NEIGHBOUR: 'it returns false'. Refute it at one input. -/
def signTurnsWrong : ChangeSpec := { name := "signTurns", fn := fun _ => fun
  | [d1, d2, d3, d4, d5, d6] => { results := [.lit (.bool false)], args := [d1, d2, d3, d4, d5, d6] }
  | _ => none }
def SignTurnsWrongFalsely : Prop := signTurnsRow.holds Try.pinned (OpenSpec.ofChange signTurnsWrong)

/-- 'limewashlaw09.SignParts': WHATEVER THE INPUT: true; the input reads as it did. -/
def signPartsSpec : ChangeSpec := { name := "signParts", fn := fun _ => fun
  | [d1, d2, d3, d4] => { results := [.lit (.bool true)], args := [d1, d2, d3, d4] }
  | _ => none }
def signPartsRow : OpenClaim := { program := "yticjljbglimgeaa", sum := "8065ed2f30100082b7ffa315824b2779da58e97a5913513e0f46825f7356a6f0", func := "limewash/limewashlaw09.SignParts", spec := "signParts", apart := false }
def SignPartsSaid : Prop := signPartsRow.holds Try.pinned (OpenSpec.ofChange signPartsSpec)

/-- ITS FALSE NEIGHBOUR: 'it returns false'. Refute it at one input. -/
def signPartsWrong : ChangeSpec := { name := "signParts", fn := fun _ => fun
  | [d1, d2, d3, d4] => { results := [.lit (.bool false)], args := [d1, d2, d3, d4] }
  | _ => none }
def SignPartsWrongFalsely : Prop := signPartsRow.holds Try.pinned (OpenSpec.ofChange signPartsWrong)

/-- 'limewashlaw09.SignMoves': WHATEVER THE INPUT: true; the input reads as it did. -/
def signMovesSpec : ChangeSpec := { name := "signMoves", fn := fun _ => fun
  | [d1, d2, d3, d4, d5, d6, d7, d8, d9] => { results := [.lit (.bool true)], args := [d1, d2, d3, d4, d5, d6, d7, d8, d9] }
  | _ => none }
def signMovesRow : OpenClaim := { program := "yticjljbglimgeaa", sum := "8065ed2f30100082b7ffa315824b2779da58e97a5913513e0f46825f7356a6f0", func := "limewash/limewashlaw09.SignMoves", spec := "signMoves", apart := false }
def SignMovesSaid : Prop := signMovesRow.holds Try.pinned (OpenSpec.ofChange signMovesSpec)

/-- ITS FALSE NEIGHBOUR: 'it returns false'. Refute it at one input. -/
def signMovesWrong : ChangeSpec := { name := "signMoves", fn := fun _ => fun
  | [d1, d2, d3, d4, d5, d6, d7, d8, d9] => { results := [.lit (.bool false)], args := [d1, d2, d3, d4, d5, d6, d7, d8, d9] }
  | _ => none }
def SignMovesWrongFalsely : Prop := signMovesRow.holds Try.pinned (OpenSpec.ofChange signMovesWrong)

/-- 'limewashlaw09.SignFlat': WHATEVER THE INPUT: true; the input reads as it did. -/
def signFlatSpec : ChangeSpec := { name := "signFlat", fn := fun _ => fun
  | [d1, d2, d3, d4] => { results := [.lit (.bool true)], args := [d1, d2, d3, d4] }
  | _ => none }
def signFlatRow : OpenClaim := { program := "yticjljbglimgeaa", sum := "8065ed2f30100082b7ffa315824b2779da58e97a5913513e0f46825f7356a6f0", func := "limewash/limewashlaw09.SignFlat", spec := "signFlat", apart := false }
def SignFlatSaid : Prop := signFlatRow.holds Try.pinned (OpenSpec.ofChange signFlatSpec)

/-- ITS FALSE NEIGHBOUR: 'it returns false'. Refute it at one input. -/
def signFlatWrong : ChangeSpec := { name := "signFlat", fn := fun _ => fun
  | [d1, d2, d3, d4] => { results := [.lit (.bool false)], args := [d1, d2, d3, d4] }
  | _ => none }
def SignFlatWrongFalsely : Prop := signFlatRow.holds Try.pinned (OpenSpec.ofChange signFlatWrong)

/- THE SECOND FORM. 'bulk': how many values and letters a reading holds, each counted each time it is reached (what is shared counts as often as it is met; a slice's spare places count too). A statement '..UptoSaid' is the law's where the arguments, and the package variables that the reading takes, are together of bulk at most 1048576: NARROWER than '..Said'. Prove '..Said' where nothing that the law and all that it calls make is longer than what came in: it says more and counts as full. Else prove '..UptoSaid'. A law counts once. -/
mutual
def uptoBulk {H : Type} : DataW H → Nat
  | .lit (.string bytes) => bytes.length + 1
  | .lit _ => 1
  | .nil => 1
  | .ptr d => uptoBulk d + 1
  | .slice elems spare => uptoBulkAll elems + uptoBulkAll spare + 1
  | .agg parts => uptoBulkAll parts + 1
  | .iface _ d => uptoBulk d + 1
  | .map entries => uptoBulkEntries entries + 1
  | .held _ => 1
def uptoBulkAll {H : Type} : List (DataW H) → Nat
  | [] => 0
  | d :: r => uptoBulk d + uptoBulkAll r
def uptoBulkEntries {H : Type} : List (Lit × DataW H) → Nat
  | [] => 0
  | x :: r => uptoBulkEntry x + uptoBulkEntries r
def uptoBulkEntry {H : Type} : Lit × DataW H → Nat
  | (.string bytes, d) => bytes.length + uptoBulk d + 1
  | (_, d) => uptoBulk d + 1
 end
def uptoSmall : (H : Type) → List (DataW H) → Bool := fun _ ds => decide (uptoBulkAll ds ≤ 1048576)
def OpenSpec.upto (s : _root_.Go.ChangeSpec) : _root_.Go.OpenSpec := { _root_.Go.OpenSpec.ofChange s with cond := some uptoSmall }

/-- 'limewashlaw09.SignDoes', WHERE WHAT IT READS IS OF BULK AT MOST 1048576: true; the input reads as it did. -/
def signDoesUptoRow : OpenClaim := { program := "yticjljbglimgeaa", sum := "8065ed2f30100082b7ffa315824b2779da58e97a5913513e0f46825f7356a6f0", func := "limewash/limewashlaw09.SignDoes", spec := "signDoes", apart := false, narrowed := true }
def SignDoesUptoSaid : Prop := signDoesUptoRow.holds Try.pinned (OpenSpec.upto signDoesSpec)

/-- 'limewashlaw09.SignTurns', WHERE WHAT IT READS IS OF BULK AT MOST 1048576: true; the input reads as it did. -/
def signTurnsUptoRow : OpenClaim := { program := "yticjljbglimgeaa", sum := "8065ed2f30100082b7ffa315824b2779da58e97a5913513e0f46825f7356a6f0", func := "limewash/limewashlaw09.SignTurns", spec := "signTurns", apart := false, narrowed := true }
def SignTurnsUptoSaid : Prop := signTurnsUptoRow.holds Try.pinned (OpenSpec.upto signTurnsSpec)

/-- 'limewashlaw09.SignParts', WHERE WHAT IT READS IS OF BULK AT MOST 1048576: true; the input reads as it did. -/
def signPartsUptoRow : OpenClaim := { program := "yticjljbglimgeaa", sum := "8065ed2f30100082b7ffa315824b2779da58e97a5913513e0f46825f7356a6f0", func := "limewash/limewashlaw09.SignParts", spec := "signParts", apart := false, narrowed := true }
def SignPartsUptoSaid : Prop := signPartsUptoRow.holds Try.pinned (OpenSpec.upto signPartsSpec)

/-- 'limewashlaw09.SignMoves', WHERE WHAT IT READS IS OF BULK AT MOST 1048576: true; the input reads as it did. -/
def signMovesUptoRow : OpenClaim := { program := "yticjljbglimgeaa", sum := "8065ed2f30100082b7ffa315824b2779da58e97a5913513e0f46825f7356a6f0", func := "limewash/limewashlaw09.SignMoves", spec := "signMoves", apart := false, narrowed := true }
def SignMovesUptoSaid : Prop := signMovesUptoRow.holds Try.pinned (OpenSpec.upto signMovesSpec)

/-- 'limewashlaw09.SignFlat', WHERE WHAT IT READS IS OF BULK AT MOST 1048576: true; the input reads as it did. -/
def signFlatUptoRow : OpenClaim := { program := "yticjljbglimgeaa", sum := "8065ed2f30100082b7ffa315824b2779da58e97a5913513e0f46825f7356a6f0", func := "limewash/limewashlaw09.SignFlat", spec := "signFlat", apart := false, narrowed := true }
def SignFlatUptoSaid : Prop := signFlatUptoRow.holds Try.pinned (OpenSpec.upto signFlatSpec)

end Rows
end Go.Proofs.Yticjljbglimgeaa
