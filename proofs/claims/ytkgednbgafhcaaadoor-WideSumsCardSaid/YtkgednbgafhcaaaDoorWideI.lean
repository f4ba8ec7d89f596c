/-
  Contracts of package wide: Add of two, in a row that the call itself has laid.
-/
import Derived.Test.YtkgednbgafhcaaaDoorWideG
namespace Go.Proofs.YtkgednbgafhcaaaDoor
open Go.RowKit

def sH (ah al bh bl : Int) : Int := (al + bl) / 1000000000000000000 + (ah + bh)
def sL (al bl : Int) : Int := (al + bl) % 1000000000000000000
def fst2 (a b : Int) (i : Nat) : Int := if i = 0 then a else b

theorem sum1 (ah al bh bl : Int) (h : Rt ah al) : sumTo (fst2 ah bh) (fst2 al bl) 1 = (ah, al) := by
  obtain ⟨h1, h2, _, _⟩ := h
  simp only [sumTo, fst2, if_pos, Prod.mk.injEq]
  omega
theorem sum2 (ah al bh bl : Int) (h : Rt ah al) : sumTo (fst2 ah bh) (fst2 al bl) 2 = (sH ah al bh bl, sL al bl) := by
  have e := sum1 ah al bh bl h
  show ((((sumTo (fst2 ah bh) (fst2 al bl) 1).2 + fst2 al bl 1) / 1000000000000000000 + ((sumTo (fst2 ah bh) (fst2 al bl) 1).1 + fst2 ah bh 1)), (((sumTo (fst2 ah bh) (fst2 al bl) 1).2 + fst2 al bl 1) % 1000000000000000000)) = _
  rw [e]; rfl
theorem allR2 (ah al bh bl : Int) : AllR (fst2 ah bh) (fst2 al bl) 2 ↔ Rt ah al ∧ Rt bh bl := by
  constructor
  · intro h; exact ⟨h 0 (by omega), h 1 (by omega)⟩
  · rintro ⟨h, k⟩ i hi
    rcases (by omega : i = 0 ∨ i = 1) with rfl | rfl
    · exact h
    · exact k
theorem allS2 (ah al bh bl : Int) (h : Rt ah al) : AllS (fst2 ah bh) (fst2 al bl) 2 ↔ Rt (sH ah al bh bl) (sL al bl) := by
  have e1 := sum1 ah al bh bl h
  have e2 := sum2 ah al bh bl h
  constructor
  · intro k; have := k 2 (by omega); rw [e2] at this; exact this
  · intro k i hi
    rcases (by omega : i = 0 ∨ i = 1 ∨ i = 2) with rfl | rfl | rfl
    · exact (by decide : Rt 0 0)
    · rw [e1]; exact h
    · rw [e2]; exact k

/-- Four cells of a row. -/
def Four (W : World) (b : Nat) (ah al bh bl : Int) : Prop := W.cell? ⟨b, 0, none⟩ = some (.int .i64 ah) ∧ W.cell? ⟨b, 1, none⟩ = some (.int .i64 al) ∧ W.cell? ⟨b, 2, none⟩ = some (.int .i64 bh) ∧ W.cell? ⟨b, 3, none⟩ = some (.int .i64 bl)

theorem add2_post (b c : Nat) (ah al bh bl : Int) (W : World) (h : Four W b ah al bh bl) :
    Calls Tryd.prog 11 #[.slice (some ⟨b, 0, none⟩) 2 c] W (AddPost (fst2 ah bh) (fst2 al bl) 2 W) :=
  add_any (fst2 ah bh) (fst2 al bl) b 0 2 c W (by omega) (fun i hi => by
    rcases (by omega : i = 0 ∨ i = 1) with rfl | rfl
    · exact ⟨h.1, h.2.1⟩
    · exact ⟨h.2.2.1, h.2.2.2⟩)
theorem add2_ok (b c : Nat) (ah al bh bl : Int) (W : World) (h : Four W b ah al bh bl) (k1 : Rt ah al) (k2 : Rt bh bl) (k3 : Rt (sH ah al bh bl) (sL al bl)) :
    Calls Tryd.prog 11 #[.slice (some ⟨b, 0, none⟩) 2 c] W fun e w' => e = .returned (.tuple #[.agg #[.int .i64 (sH ah al bh bl), .int .i64 (sL al bl)], .int .i64 0]) ∧ Below W.heap.size W w' :=
  (add2_post b c ah al bh bl W h).mono fun e w' ⟨hb, hp⟩ => by
    rcases hp with ⟨h1, _⟩ | ⟨_, h1, _⟩ | ⟨_, _, he⟩
    · exact absurd ((allR2 _ _ _ _).2 ⟨k1, k2⟩) h1
    · exact absurd ((allS2 _ _ _ _ k1).2 k3) h1
    · rw [sum2 ah al bh bl k1] at he
      exact ⟨he, hb⟩
theorem add2_arg (b c : Nat) (ah al bh bl : Int) (W : World) (h : Four W b ah al bh bl) (k : ¬ (Rt ah al ∧ Rt bh bl)) :
    Calls Tryd.prog 11 #[.slice (some ⟨b, 0, none⟩) 2 c] W fun e w' => e = .returned (.tuple #[.agg #[.int .i64 0, .int .i64 0], .int .i64 1]) ∧ Below W.heap.size W w' :=
  (add2_post b c ah al bh bl W h).mono fun e w' ⟨hb, hp⟩ => by
    rcases hp with ⟨_, he⟩ | ⟨h1, _⟩ | ⟨h1, _⟩
    · exact ⟨he, hb⟩
    · exact absurd ((allR2 _ _ _ _).1 h1) k
    · exact absurd ((allR2 _ _ _ _).1 h1) k
theorem add2_wide (b c : Nat) (ah al bh bl : Int) (W : World) (h : Four W b ah al bh bl) (k1 : Rt ah al) (k2 : Rt bh bl) (k3 : ¬ Rt (sH ah al bh bl) (sL al bl)) :
    Calls Tryd.prog 11 #[.slice (some ⟨b, 0, none⟩) 2 c] W fun e w' => e = .returned (.tuple #[.agg #[.int .i64 0, .int .i64 0], .int .i64 4]) ∧ Below W.heap.size W w' :=
  (add2_post b c ah al bh bl W h).mono fun e w' ⟨hb, hp⟩ => by
    rcases hp with ⟨h1, _⟩ | ⟨_, _, he⟩ | ⟨_, h1, _⟩
    · exact absurd ((allR2 _ _ _ _).2 ⟨k1, k2⟩) h1
    · exact ⟨he, hb⟩
    · exact absurd ((allS2 _ _ _ _ k1).1 h1) k3

/-- What Add of two answers, as three numbers. -/
def aE (ah al bh bl : Int) : Int := if Rt ah al ∧ Rt bh bl then (if Rt (sH ah al bh bl) (sL al bl) then 0 else 4) else 1
def aH (ah al bh bl : Int) : Int := if aE ah al bh bl = 0 then sH ah al bh bl else 0
def aL (ah al bh bl : Int) : Int := if aE ah al bh bl = 0 then sL al bl else 0
theorem add2_any (b c : Nat) (ah al bh bl : Int) (W : World) (h : Four W b ah al bh bl) :
    Calls Tryd.prog 11 #[.slice (some ⟨b, 0, none⟩) 2 c] W fun e w' => e = .returned (.tuple #[.agg #[.int .i64 (aH ah al bh bl), .int .i64 (aL ah al bh bl)], .int .i64 (aE ah al bh bl)]) ∧ Below W.heap.size W w' := by
  by_cases k : Rt ah al ∧ Rt bh bl
  · by_cases k3 : Rt (sH ah al bh bl) (sL al bl)
    · have e : aE ah al bh bl = 0 := by unfold aE; rw [if_pos k, if_pos k3]
      unfold aH aL; rw [e, if_pos rfl, if_pos rfl]; exact add2_ok b c ah al bh bl W h k.1 k.2 k3
    · have e : aE ah al bh bl = 4 := by unfold aE; rw [if_pos k, if_neg k3]
      unfold aH aL; rw [e, if_neg (by decide), if_neg (by decide)]; exact add2_wide b c ah al bh bl W h k.1 k.2 k3
  · have e : aE ah al bh bl = 1 := by unfold aE; rw [if_neg k]
    unfold aH aL; rw [e, if_neg (by decide), if_neg (by decide)]; exact add2_arg b c ah al bh bl W h k
end Go.Proofs.YtkgednbgafhcaaaDoor
