/-
  An argument that is a row of structs of k ints each, opened: what its cells hold.
-/
import Derived.Test.YtkheomaihhcokaaBase
import Derived.ProofKit
import Derived.OpenShut
import Derived.Deep.Slices
import Derived.Lib.SmallJoins
import Derived.Carry
namespace Go.Proofs.Ytkheomaihhcokaa
open Go.ChangeShapes Go.WideShapes Go.ChangeAt Go.RowKit Go.Joins Go.Deep

/-- The slice 'a, n' reads as n structs of k ints: F i j is field j of number i. -/
def RowK (W : World) (a : Option Addr) (n k : Nat) (F : Nat → Nat → Int) : Prop :=
  n = 0 ∨ ∃ b off, a = some ⟨b, off, none⟩ ∧ b < W.heap.size ∧ ∀ i, i < n → ∀ j, j < k → W.cell? ⟨b, off + (i * k + j), none⟩ = some (.int .i64 (F i j))
theorem RowK.keep {W W' : World} {a : Option Addr} {n k : Nat} {F : Nat → Nat → Int} (h : RowK W a n k F) (hb : Below W.heap.size W W') : RowK W' a n k F := by
  rcases h with h | ⟨b, off, ha, hl, h⟩
  · exact .inl h
  · exact .inr ⟨b, off, ha, Nat.lt_of_lt_of_le hl hb.size, fun i hi j hj => keepc hb (h i hi j hj)⟩
theorem RowK.at {W : World} {a : Option Addr} {n k : Nat} {F : Nat → Nat → Int} (h : RowK W a n k F) {i : Nat} (hi : i < n) : ∃ b off, a = some ⟨b, off, none⟩ ∧ b < W.heap.size ∧ ∀ i, i < n → ∀ j, j < k → W.cell? ⟨b, off + (i * k + j), none⟩ = some (.int .i64 (F i j)) := by
  rcases h with h | h
  · omega
  · exact h
/-- All fields are ints of 64 bits. -/
def AllK (n k : Nat) (F : Nat → Nat → Int) : Prop := ∀ i, i < n → ∀ j, j < k → -9223372036854775808 ≤ F i j ∧ F i j ≤ 9223372036854775807

set_option maxRecDepth 100000 in
theorem open_structs {H : Type} {enc : TypeId × Value → H} {W : World} {r : Reach} {base k : Nat} {t e : TypeId} {fs : Array Field} {v : Value} {d : DataW H} {ps : List MemPlace}
    (ht : Try.prog.underlying t = some (.slice e)) (he : Try.prog.underlying e = some (.struct fs)) (hone : oneCellFields Try.prog fs = true) (hk : fs.size = k) (h0 : 0 < k) (hC : Try.prog.cellsOf e = k)
    (hint : ∀ (j : Nat) (f : Field), fs[j]? = some f → Try.prog.underlying f.type = some (.int .i64))
    (hval : Value.okWide Try.prog W r base t v) (hd : DataW.Trod enc Try.prog W 0 (fun _ => true) true t v d ps) :
    ∃ (a : Option Addr) (n c : Nat) (F : Nat → Nat → Int), v = .slice a n c ∧ (a = none → n = 0 ∧ c = 0) ∧ n ≤ c ∧ c ≤ 9223372036854775807 ∧ RowK W a n k F ∧ AllK n k F := by
  obtain ⟨a, len, cap, rfl⟩ := okWide_slice ht hval
  obtain ⟨fuel, hf⟩ := hd
  rcases open_slice ht hf with ⟨hcs, hx⟩ | ⟨a', len', cap', m, n, D, Pl, hcs, _, hl, hm, hmm, hx, hi⟩
  · simp [Value.cells] at hcs
    obtain ⟨rfl, rfl, rfl⟩ := hcs
    exact ⟨none, 0, 0, fun _ _ => 0, rfl, fun _ => ⟨rfl, rfl⟩, Nat.le_refl _, by omega, .inl rfl, fun i h => by omega⟩
  · simp [Value.cells] at hcs
    obtain ⟨rfl, rfl, rfl⟩ := hcs
    simp only [if_true] at hmm
    subst hmm
    have hcell : ∀ i, i < len → ∀ j, j < k → ∃ x : Int, W.cell? (a'.add (i * k + j)) = some (.int .i64 x) ∧ -9223372036854775808 ≤ x ∧ x ≤ 9223372036854775807 := by
      intro i hil j hj
      obtain ⟨cs', hc, ht'⟩ := hi i (by omega)
      rw [hC] at hc
      obtain ⟨ys, n', _, _, hlen, hyl, hfl⟩ := DataW.trod_struct he ht'
      obtain ⟨_, hcl, hat⟩ := World.cells?_some hc
      have hjf : j < fs.size := by omega
      obtain ⟨ho, hkk⟩ := hone_of hone j fs[j] (Array.getElem?_eq_getElem hjf)
      have h1 := hfl j fs[j] (Array.getElem?_eq_getElem hjf)
      rw [ho, hkk] at h1
      have hjl : j < cs'.length := by omega
      have hone' : (cs'.drop j).take 1 = [cs'[j]] := by rw [List.drop_eq_getElem_cons hjl]; rfl
      rw [hone', List.getElem?_eq_getElem (show j < ys.length by omega)] at h1
      obtain ⟨x, hx1, _, hw⟩ := DataW.trod_int (hint j fs[j] (Array.getElem?_eq_getElem hjf)) h1
      refine ⟨x, ?_, ?_⟩
      · rw [← Go.Deep.add_add, hat j (by omega), List.getElem?_eq_getElem hjl]
        simp at hx1
        rw [hx1]
      · exact bounds_i64 hw
    obtain ⟨F, hF⟩ : ∃ F : Nat → Nat → Int, ∀ i, i < len → ∀ j, j < k → W.cell? (a'.add (i * k + j)) = some (.int .i64 (F i j)) ∧ -9223372036854775808 ≤ F i j ∧ F i j ≤ 9223372036854775807 :=
      ⟨fun i j => if h : i < len ∧ j < k then (hcell i h.1 j h.2).choose else 0, fun i hi' j hj => by
        simp only [dif_pos (And.intro hi' hj)]; exact (hcell i hi' j hj).choose_spec⟩
    refine ⟨some a', len, _, F, rfl, (fun h => by cases h), hl, by unfold maxLen at hm; omega, ?_, fun i hi' j hj => (hF i hi' j hj).2⟩
    rcases Nat.eq_zero_or_pos len with z | z
    · exact .inl z
    · have h00 := (hF 0 z 0 h0).1
      obtain ⟨b, off, spot⟩ := a'
      have hspot : spot = none := by simpa [Addr.add] using World.cell?_spot h00
      subst hspot
      refine .inr ⟨b, off, rfl, ?_, fun i hi' j hj => ?_⟩
      · have := cell_lt h00; rwa [Go.WideShapes.add_plain] at this
      · rw [← Go.WideShapes.add_plain]; exact (hF i hi' j hj).1
end Go.Proofs.Ytkheomaihhcokaa
