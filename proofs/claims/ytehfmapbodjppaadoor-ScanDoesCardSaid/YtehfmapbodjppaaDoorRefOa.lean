/-
  Plain facts for the reference's numbers: no int lies in a block; small ones.
-/
import Derived.Test.YtehfmapbodjppaaDoorRefN
namespace Go.Proofs.YtehfmapbodjppaaDoor
open Go.RowKit
open Go.BigFrame

theorem p41 : p10 41 = 100000000000000000000000000000000000000000 := rfl
theorem small_of {N : Int} (h : N.natAbs ≤ 10000000000000000000000000000000000000000) : Small N := by
  unfold Small
  have e := p10_add 41 59
  have p := p10_pos 59
  have : p10 41 * 1 ≤ p10 41 * p10 59 := Int.mul_le_mul_of_nonneg_left p (by have := p10_pos 41; omega)
  rw [p41] at this e
  have e' : p10 100 = 100000000000000000000000000000000000000000 * p10 59 := e
  omega
/-- No int lies in the block. -/
def NoInt (W : World) (g : Nat) : Prop := ∀ k x, W.cell? ⟨g, k, none⟩ ≠ some (.int .i64 x)
theorem RowF.setN {W : World} {a : Option Addr} {n c : Nat} {D : Nat → Int} (h : RowF W a n c D) {g : Nat} (hg : NoInt W g) (o : Nat) (v : Value) : RowF (W.setCell ⟨g, o, none⟩ v) a n c D := by
  rcases h with h | ⟨b, off, ha, hl, hc, h⟩
  · exact .inl h
  · refine .inr ⟨b, off, ha, Nat.lt_of_lt_of_le hl ((Below.refl 0 W).setCell (p := ⟨g, o, none⟩) (Nat.zero_le _) v).size, hc, fun i hi => ?_⟩
    exact cell_other (h i hi) (fun e => hg (off + i) (D i) (by have := h i hi; rw [show b = g from e] at this; exact this))
theorem NoInt.keep {W W' : World} {g : Nat} (h : NoInt W g) (hb : Below W.heap.size W W') (hg : g < W.heap.size) : NoInt W' g := fun k x e => h k x ((hb.cell (p := ⟨g, k, none⟩) hg).symm.trans e)
theorem NoInt.set {W : World} {g : Nat} (h : NoInt W g) {o : Nat} {v : Value} (hv : ∀ x, v ≠ .int .i64 x) (he : Has W ⟨g, o, none⟩) : NoInt (W.setCell ⟨g, o, none⟩ v) g := fun k x e => by
  obtain ⟨u, hu⟩ := he
  by_cases hk : k = o
  · subst hk
    simp [go_sem, hu] at e
    exact hv x e
  · have := h k x
    simp [go_sem] at e
    exact this e
theorem NoInt.alloc {W : World} {x y : Value} {T : TypeId} {g : Nat} (hg : g = W.heap.size) (hx : ∀ v, x ≠ .int .i64 v) (hy : ∀ v, y ≠ .int .i64 v) : NoInt (W.alloc (.cells #[x, y] T)) g := fun k v e => by
  subst hg
  match k with
  | 0 => simp at e; exact hx v e
  | 1 => simp at e; exact hy v e
  | k + 2 => simp at e
theorem NumV.setN {W : World} {v : Value} {N : Int} (h : NumV W v N) {g : Nat} (hg : NoInt W g) (o : Nat) (u : Value) : NumV (W.setCell ⟨g, o, none⟩ u) v N := by
  obtain ⟨a, n, c, D, h1, h2, h3⟩ := h
  exact ⟨a, n, c, D, h1, h2.setN hg o u, h3⟩
theorem num_open {w : World} {v : Value} {N : Int} (h : NumV w v N) : ∃ s a n c, v = .agg #[.bool s, .slice a n c] := by
  obtain ⟨a, n, c, D, h1, _⟩ := h
  exact ⟨_, _, _, _, h1⟩

end Go.Proofs.YtehfmapbodjppaaDoor
