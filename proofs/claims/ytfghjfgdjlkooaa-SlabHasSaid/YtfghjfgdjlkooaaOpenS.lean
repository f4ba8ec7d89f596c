/-
  An argument that is an array of three structs of three ints each, opened.
-/
import Derived.Test.YtfghjfgdjlkooaaOpenK
import Derived.Test.YtfghjfgdjlkooaaOpenA
namespace Go.Proofs.Ytfghjfgdjlkooaa
open Go.ChangeShapes Go.WideShapes Go.ChangeAt Go.RowKit Go.Joins Go.Deep

theorem array9 {cs : Array Value} (h : cs.size = 9) : ∃ a b c d e f g k l, cs = #[a, b, c, d, e, f, g, k, l] := by
  obtain ⟨l⟩ := cs
  match l, h with
  | [a, b, c, d, e, f, g, k, l], _ => exact ⟨a, b, c, d, e, f, g, k, l, rfl⟩
section
variable {H : Type} {enc : TypeId × Value → H} {W : World} {base : Nat} {spare : Nat → Bool} {held : Bool}
theorem elem_three {e : TypeId} {fs : Array Field} {fuel : Nat} {u v z : Value} {y : DataW H × List MemPlace} (he : Try.prog.underlying e = some (.struct fs)) (hone : oneCellFields Try.prog fs = true) (hk : fs.size = 3)
    (hint : ∀ (j : Nat) (f : Field), fs[j]? = some f → Try.prog.underlying f.type = some (.int .i64)) (h : DataW.trod enc Try.prog W base spare held fuel e [u, v, z] = some y) :
    ∃ a b c : Int, u = .int .i64 a ∧ v = .int .i64 b ∧ z = .int .i64 c := by
  obtain ⟨ys, n', _, _, _, hyl, hfl⟩ := DataW.trod_struct he h
  have h0 : 0 < fs.size := by omega
  have h1 : 1 < fs.size := by omega
  have h2 : 2 < fs.size := by omega
  obtain ⟨o0, k0⟩ := hone_of hone 0 fs[0] (Array.getElem?_eq_getElem h0)
  obtain ⟨o1, k1⟩ := hone_of hone 1 fs[1] (Array.getElem?_eq_getElem h1)
  obtain ⟨o2, k2⟩ := hone_of hone 2 fs[2] (Array.getElem?_eq_getElem h2)
  have e0 := hfl 0 fs[0] (Array.getElem?_eq_getElem h0)
  have e1 := hfl 1 fs[1] (Array.getElem?_eq_getElem h1)
  have e2 := hfl 2 fs[2] (Array.getElem?_eq_getElem h2)
  rw [o0, k0, List.getElem?_eq_getElem (show 0 < ys.length by omega)] at e0
  rw [o1, k1, List.getElem?_eq_getElem (show 1 < ys.length by omega)] at e1
  rw [o2, k2, List.getElem?_eq_getElem (show 2 < ys.length by omega)] at e2
  obtain ⟨a, ea, _, _⟩ := DataW.trod_int (hint 0 fs[0] (Array.getElem?_eq_getElem h0)) e0
  obtain ⟨b, eb, _, _⟩ := DataW.trod_int (hint 1 fs[1] (Array.getElem?_eq_getElem h1)) e1
  obtain ⟨c, ec, _, _⟩ := DataW.trod_int (hint 2 fs[2] (Array.getElem?_eq_getElem h2)) e2
  simp at ea eb ec
  exact ⟨a, b, c, ea, eb, ec⟩
set_option maxRecDepth 100000 in
theorem open_tri3 {r : Reach} {b0 : Nat} {t e : TypeId} {fs : Array Field} {v : Value} {d : DataW H} {p : List MemPlace} (ht : Try.prog.underlying t = some (.array 3 e)) (he : Try.prog.underlying e = some (.struct fs)) (hone : oneCellFields Try.prog fs = true) (hk : fs.size = 3)
    (hCe : Try.prog.cellsOf e = 3) (hCt : Try.prog.cellsOf t = 9) (hint : ∀ (j : Nat) (f : Field), fs[j]? = some f → Try.prog.underlying f.type = some (.int .i64))
    (hv : Value.okWide Try.prog W r b0 t v) (h : DataW.Trod enc Try.prog W base spare held t v d p) :
    ∃ a1 a2 a3 b1 b2 b3 c1 c2 c3 : Int, v = .agg #[.int .i64 a1, .int .i64 a2, .int .i64 a3, .int .i64 b1, .int .i64 b2, .int .i64 b3, .int .i64 c1, .int .i64 c2, .int .i64 c3] := by
  simp only [Value.okWide, ht] at hv
  obtain ⟨cs, rfl, hsz, _⟩ := hv
  obtain ⟨v0, v1, v2, v3, v4, v5, v6, v7, v8, rfl⟩ := array9 (hsz.trans hCt)
  obtain ⟨fuel, hf⟩ := h
  obtain ⟨xs, m, _, _, _, hlen, hi⟩ := DataW.trod_array ht hf
  have i0 := hi 0 (by omega)
  have i1 := hi 1 (by omega)
  have i2 := hi 2 (by omega)
  rw [hCe, List.getElem?_eq_getElem (show 0 < xs.length by omega)] at i0
  rw [hCe, List.getElem?_eq_getElem (show 1 < xs.length by omega)] at i1
  rw [hCe, List.getElem?_eq_getElem (show 2 < xs.length by omega)] at i2
  obtain ⟨a1, a2, a3, rfl, rfl, rfl⟩ := elem_three he hone hk hint i0
  obtain ⟨b1, b2, b3, rfl, rfl, rfl⟩ := elem_three he hone hk hint i1
  obtain ⟨c1, c2, c3, rfl, rfl, rfl⟩ := elem_three he hone hk hint i2
  exact ⟨a1, a2, a3, b1, b2, b3, c1, c2, c3, rfl⟩
end
end Go.Proofs.Ytfghjfgdjlkooaa
