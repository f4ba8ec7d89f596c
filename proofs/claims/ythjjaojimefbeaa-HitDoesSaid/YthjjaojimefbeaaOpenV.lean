/-
  An argument that is a row of arrays of three structs of three ints each, opened: what its cells hold.
-/
import Derived.Test.YthjjaojimefbeaaOpenK
import Derived.Test.YthjjaojimefbeaaOpenA
namespace Go.Proofs.Ythjjaojimefbeaa
open Go.ChangeShapes Go.WideShapes Go.ChangeAt Go.RowKit Go.Joins Go.Deep

theorem list9 {l : List Value} (h : l.length = 9) : ∃ a b c d e f g k m, l = [a, b, c, d, e, f, g, k, m] := by
  match l, h with
  | [a, b, c, d, e, f, g, k, m], _ => exact ⟨a, b, c, d, e, f, g, k, m, rfl⟩
/-- An int of 64 bits. -/
def IntV (v : Value) : Prop := ∃ x : Int, v = .int .i64 x ∧ -9223372036854775808 ≤ x ∧ x ≤ 9223372036854775807
section
variable {H : Type} {enc : TypeId × Value → H} {W : World}
theorem elem_ints {base : Nat} {spare : Nat → Bool} {held : Bool} {e : TypeId} {fs : Array Field} {fuel : Nat} {u v z : Value} {y : DataW H × List MemPlace} (he : Try.prog.underlying e = some (.struct fs)) (hone : oneCellFields Try.prog fs = true) (hk : fs.size = 3)
    (hint : ∀ (j : Nat) (f : Field), fs[j]? = some f → Try.prog.underlying f.type = some (.int .i64)) (h : DataW.trod enc Try.prog W base spare held fuel e [u, v, z] = some y) :
    IntV u ∧ IntV v ∧ IntV z := by
  obtain ⟨ys, n', _, _, _, hyl, hfl⟩ := DataW.trod_struct he h
  have h0 : 0 < fs.size := by omega
  have h1 : 1 < fs.size := by omega
  have h2 : 2 < fs.size := by omega
  obtain ⟨o0, k0⟩ := hone_of hone 0 fs[0] (Array.getElem?_eq_getElem h0)
  obtain ⟨o1, k1⟩ := hone_of hone 1 fs[1] (Array.getElem?_eq_getElem h1)
  obtain ⟨o2, k2⟩ := hone_of hone 2 fs[2] (Array.getElem?_eq_getElem h2)
  have e0 := hfl 0 fs[0] (Array.getElem?_eq_getElem h0)
  have e1 := hfl 1 fs[1] (Array.getElem?_eq_getElem h1)
  have e2 := hfl 2 fs[2] (Array.getElem?_eq_getElem h2)
  rw [o0, k0, List.getElem?_eq_getElem (show 0 < ys.length by omega)] at e0
  rw [o1, k1, List.getElem?_eq_getElem (show 1 < ys.length by omega)] at e1
  rw [o2, k2, List.getElem?_eq_getElem (show 2 < ys.length by omega)] at e2
  obtain ⟨a, ea, _, wa⟩ := DataW.trod_int (hint 0 fs[0] (Array.getElem?_eq_getElem h0)) e0
  obtain ⟨b, eb, _, wb⟩ := DataW.trod_int (hint 1 fs[1] (Array.getElem?_eq_getElem h1)) e1
  obtain ⟨c, ec, _, wc⟩ := DataW.trod_int (hint 2 fs[2] (Array.getElem?_eq_getElem h2)) e2
  simp at ea eb ec
  exact ⟨⟨a, ea, bounds_i64 wa⟩, ⟨b, eb, bounds_i64 wb⟩, ⟨c, ec, bounds_i64 wc⟩⟩
set_option maxRecDepth 100000 in
theorem elem_tri {base : Nat} {spare : Nat → Bool} {held : Bool} {t e : TypeId} {fs : Array Field} {fuel : Nat} {cs : List Value} {y : DataW H × List MemPlace} (ht : Try.prog.underlying t = some (.array 3 e)) (he : Try.prog.underlying e = some (.struct fs)) (hone : oneCellFields Try.prog fs = true) (hk : fs.size = 3)
    (hCe : Try.prog.cellsOf e = 3) (hl : cs.length = 9) (hint : ∀ (j : Nat) (f : Field), fs[j]? = some f → Try.prog.underlying f.type = some (.int .i64)) (h : DataW.trod enc Try.prog W base spare held fuel t cs = some y) :
    ∀ j, (hj : j < cs.length) → IntV cs[j] := by
  obtain ⟨v0, v1, v2, v3, v4, v5, v6, v7, v8, rfl⟩ := list9 hl
  obtain ⟨xs, m, _, _, _, hlen, hi⟩ := DataW.trod_array ht h
  have i0 := hi 0 (by omega)
  have i1 := hi 1 (by omega)
  have i2 := hi 2 (by omega)
  rw [hCe, List.getElem?_eq_getElem (show 0 < xs.length by omega)] at i0
  rw [hCe, List.getElem?_eq_getElem (show 1 < xs.length by omega)] at i1
  rw [hCe, List.getElem?_eq_getElem (show 2 < xs.length by omega)] at i2
  obtain ⟨a0, a1, a2⟩ := elem_ints he hone hk hint i0
  obtain ⟨b0, b1, b2⟩ := elem_ints he hone hk hint i1
  obtain ⟨c0, c1, c2⟩ := elem_ints he hone hk hint i2
  intro j hj
  have hj9 : j < 9 := hj
  rcases (show j = 0 ∨ j = 1 ∨ j = 2 ∨ j = 3 ∨ j = 4 ∨ j = 5 ∨ j = 6 ∨ j = 7 ∨ j = 8 by omega) with rfl | rfl | rfl | rfl | rfl | rfl | rfl | rfl | rfl
  · exact a0
  · exact a1
  · exact a2
  · exact b0
  · exact b1
  · exact b2
  · exact c0
  · exact c1
  · exact c2
set_option maxRecDepth 100000 in
theorem open_tris {r : Reach} {base : Nat} {t e g : TypeId} {fs : Array Field} {v : Value} {d : DataW H} {ps : List MemPlace}
    (ht : Try.prog.underlying t = some (.slice e)) (he : Try.prog.underlying e = some (.array 3 g)) (hg : Try.prog.underlying g = some (.struct fs)) (hone : oneCellFields Try.prog fs = true) (hk : fs.size = 3) (hCg : Try.prog.cellsOf g = 3) (hC : Try.prog.cellsOf e = 9)
    (hint : ∀ (j : Nat) (f : Field), fs[j]? = some f → Try.prog.underlying f.type = some (.int .i64))
    (hval : Value.okWide Try.prog W r base t v) (hd : DataW.Trod enc Try.prog W 0 (fun _ => true) true t v d ps) :
    ∃ (a : Option Addr) (n c : Nat) (F : Nat → Nat → Int), v = .slice a n c ∧ (a = none → n = 0 ∧ c = 0) ∧ n ≤ c ∧ c ≤ 9223372036854775807 ∧ RowK W a n 9 F ∧ AllK n 9 F := by
  obtain ⟨a, len, cap, rfl⟩ := okWide_slice ht hval
  obtain ⟨fuel, hf⟩ := hd
  rcases open_slice ht hf with ⟨hcs, hx⟩ | ⟨a', len', cap', m, n, D, Pl, hcs, _, hl, hm, hmm, hx, hi⟩
  · simp [Value.cells] at hcs
    obtain ⟨rfl, rfl, rfl⟩ := hcs
    exact ⟨none, 0, 0, fun _ _ => 0, rfl, fun _ => ⟨rfl, rfl⟩, Nat.le_refl _, by omega, .inl rfl, fun i h => by omega⟩
  · simp [Value.cells] at hcs
    obtain ⟨rfl, rfl, rfl⟩ := hcs
    simp only [if_true] at hmm
    subst hmm
    have hcell : ∀ i, i < len → ∀ j, j < 9 → ∃ x : Int, W.cell? (a'.add (i * 9 + j)) = some (.int .i64 x) ∧ -9223372036854775808 ≤ x ∧ x ≤ 9223372036854775807 := by
      intro i hil j hj
      obtain ⟨cs', hc, ht'⟩ := hi i (by omega)
      rw [hC] at hc
      obtain ⟨_, hcl, hat⟩ := World.cells?_some hc
      obtain ⟨x, hx1, hx2⟩ := elem_tri he hg hone hk hCg hcl hint ht' j (by omega)
      exact ⟨x, by rw [← Go.Deep.add_add, hat j (by omega), List.getElem?_eq_getElem (show j < cs'.length by omega), hx1], hx2⟩
    obtain ⟨F, hF⟩ : ∃ F : Nat → Nat → Int, ∀ i, i < len → ∀ j, j < 9 → W.cell? (a'.add (i * 9 + j)) = some (.int .i64 (F i j)) ∧ -9223372036854775808 ≤ F i j ∧ F i j ≤ 9223372036854775807 :=
      ⟨fun i j => if h : i < len ∧ j < 9 then (hcell i h.1 j h.2).choose else 0, fun i hi' j hj => by
        simp only [dif_pos (And.intro hi' hj)]; exact (hcell i hi' j hj).choose_spec⟩
    refine ⟨some a', len, _, F, rfl, (fun h => by cases h), hl, by unfold maxLen at hm; omega, ?_, fun i hi' j hj => (hF i hi' j hj).2⟩
    rcases Nat.eq_zero_or_pos len with z | z
    · exact .inl z
    · have h00 := (hF 0 z 0 (by omega)).1
      obtain ⟨b, off, spot⟩ := a'
      have hspot : spot = none := by simpa [Addr.add] using World.cell?_spot h00
      subst hspot
      refine .inr ⟨b, off, rfl, ?_, fun i hi' j hj => ?_⟩
      · have := cell_lt h00; rwa [Go.WideShapes.add_plain] at this
      · rw [← Go.WideShapes.add_plain]; exact (hF i hi' j hj).1
end
end Go.Proofs.Ythjjaojimefbeaa
