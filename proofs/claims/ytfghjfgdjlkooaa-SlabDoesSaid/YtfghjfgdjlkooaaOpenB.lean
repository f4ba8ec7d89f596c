/-
  An argument that is a struct of two structs of three ints each (a box), opened.
-/
import Derived.Test.YtfghjfgdjlkooaaOpenS
namespace Go.Proofs.Ytfghjfgdjlkooaa
open Go.ChangeShapes Go.WideShapes Go.ChangeAt Go.RowKit Go.Joins Go.Deep

theorem array6 {cs : Array Value} (h : cs.size = 6) : ∃ a b c d e f, cs = #[a, b, c, d, e, f] := by
  obtain ⟨l⟩ := cs
  match l, h with
  | [a, b, c, d, e, f], _ => exact ⟨a, b, c, d, e, f, rfl⟩
section
variable {H : Type} {enc : TypeId × Value → H} {W : World} {base : Nat} {spare : Nat → Bool} {held : Bool}
set_option maxRecDepth 100000 in
theorem open_box {r : Reach} {b0 : Nat} {t e : TypeId} {f0 f1 : Field} {fs : Array Field} {v : Value} {d : DataW H} {p : List MemPlace} (ht : Try.prog.underlying t = some (.struct #[f0, f1])) (he : Try.prog.underlying e = some (.struct fs)) (t0 : f0.type = e) (t1 : f1.type = e) (o0 : f0.offset = 0) (o1 : f1.offset = 3) (hone : oneCellFields Try.prog fs = true) (hk : fs.size = 3)
    (hCe : Try.prog.cellsOf e = 3) (hCt : Try.prog.cellsOf t = 6) (hint : ∀ (j : Nat) (f : Field), fs[j]? = some f → Try.prog.underlying f.type = some (.int .i64))
    (hv : Value.okWide Try.prog W r b0 t v) (h : DataW.Trod enc Try.prog W base spare held t v d p) :
    ∃ a1 a2 a3 b1 b2 b3 : Int, v = .agg #[.int .i64 a1, .int .i64 a2, .int .i64 a3, .int .i64 b1, .int .i64 b2, .int .i64 b3] := by
  obtain ⟨cs, rfl, hsz⟩ := okWide_struct ht hv
  obtain ⟨v0, v1, v2, v3, v4, v5, rfl⟩ := array6 (hsz.trans hCt)
  obtain ⟨fuel, hf⟩ := h
  obtain ⟨y0, y1, n, _, _, h0, h1⟩ := trod_struct2 ht hf
  rw [t0, o0, hCe] at h0
  rw [t1, o1, hCe] at h1
  obtain ⟨a1, a2, a3, rfl, rfl, rfl⟩ := elem_three he hone hk hint h0
  obtain ⟨b1, b2, b3, rfl, rfl, rfl⟩ := elem_three he hone hk hint h1
  exact ⟨a1, a2, a3, b1, b2, b3, rfl⟩
end
end Go.Proofs.Ytfghjfgdjlkooaa
