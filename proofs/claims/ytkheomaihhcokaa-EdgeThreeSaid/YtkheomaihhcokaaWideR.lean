/-
  A region that draws its order, walked once in the order of the text, over a class of worlds that every callee's contract keeps.
-/
import Derived.Test.YtkheomaihhcokaaBase
import Derived.Deep.DrawnRows
import Derived.Deep.Cut
import Derived.Lib.MinMax
namespace Go.Proofs.Ytkheomaihhcokaa
open Go.RowKit

/-- The class: what keeps S where nothing that was there has turned. -/
def Stays (S : World → Prop) : Prop := ∀ W W' : World, S W → Below W.heap.size W W' → S W'
/-- A world of the class. -/
structure Of (S : World → Prop) where
  world : World
  holds : S world

theorem wp_region_class {P : Program} {S : World → Prop} {id : Nat} {Q : Exit → Act → World → Prop} {a : Act} {w : World} {l : List Oper} (hm : P.follows .mixedOrders = true) (hB : Region.lexB .any l.toArray = true) (hS : S w.drew)
    (h : wpQuiet P l.toArray (fun w' => ∃ d : Of S, w' = d.world) (fun a' => ∀ w', (∃ d : Of S, w' = d.world) → Q .normal a' w') l a) : (Code.region id l.toArray true).wp P Q a w :=
  wp_region_quiet (C := fun w' => ∃ d : Of S, w' = d.world) hm hB ⟨⟨_, hS⟩, rfl⟩ (by simpa using h)

theorem class_call {P : Program} {S : World → Prop} {f : FuncId} {args : Array Value} {v : Value} (hst : Stays S) (d : Of S)
    (h : Calls P f args d.world fun e w' => e = .returned v ∧ Below d.world.heap.size d.world w') : Calls P f args d.world fun e w'' => e = .returned v ∧ ∃ d' : Of S, w'' = d'.world :=
  h.mono fun _ w' ⟨he, hb⟩ => ⟨he, ⟨w', hst d.world w' d.holds hb⟩, rfl⟩
end Go.Proofs.Ytkheomaihhcokaa
