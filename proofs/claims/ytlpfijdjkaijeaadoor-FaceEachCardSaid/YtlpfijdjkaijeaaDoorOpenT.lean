/-
  An argument that is a row of texts, opened: what its cells hold.
-/
import Derived.Test.YtlpfijdjkaijeaaDoorRwS
import Derived.Test.YtlpfijdjkaijeaaDoorOpenK
namespace Go.Proofs.YtlpfijdjkaijeaaDoor
open Go.ChangeShapes Go.WideShapes Go.ChangeAt Go.RowKit Go.Joins Go.Deep

theorem cellsStr : Tryd.prog.cellsOf 9 = 1 := by kernel_rfl
set_option maxRecDepth 100000 in
theorem open_texts {H : Type} {enc : TypeId × Value → H} {W : World} {r : Reach} {base : Nat} {v : Value} {d : DataW H} {ps : List MemPlace}
    (hval : Value.okWide Tryd.prog W r base 24 v) (hd : DataW.Trod enc Tryd.prog W 0 (fun _ => true) true 24 v d ps) :
    ∃ (a : Option Addr) (n c : Nat) (F : Nat → ByteArray), v = .slice a n c ∧ n ≤ c ∧ c ≤ 9223372036854775807 ∧ RowS W a n c F := by
  obtain ⟨a, len, cap, rfl⟩ := okWide_slice Tryd.underlying24 hval
  obtain ⟨fuel, hf⟩ := hd
  rcases open_slice Tryd.underlying24 hf with ⟨hcs, hx⟩ | ⟨a', len', cap', m, n, D, Pl, hcs, _, hl, hm, hmm, hx, hi⟩
  · simp [Value.cells] at hcs
    obtain ⟨rfl, rfl, rfl⟩ := hcs
    exact ⟨none, 0, 0, fun _ => ⟨#[]⟩, rfl, Nat.le_refl _, by omega, .inl rfl⟩
  · simp [Value.cells] at hcs
    obtain ⟨rfl, rfl, rfl⟩ := hcs
    simp only [if_true] at hmm
    subst hmm
    have hcell : ∀ i, i < len → ∃ x : ByteArray, W.cell? (a'.add i) = some (.string x) := by
      intro i hil
      obtain ⟨cs', hc, ht'⟩ := hi i (by omega)
      rw [cellsStr, Nat.mul_one] at hc
      obtain ⟨s', h, _, _⟩ := DataW.trod_string Tryd.underlying9 ht'
      obtain ⟨_, hcl, hat⟩ := World.cells?_some hc
      have := hat 0 (by omega)
      rw [Go.Deep.add_add, Nat.add_zero] at this
      exact ⟨s', by rw [this, h]; rfl⟩
    obtain ⟨F, hF⟩ : ∃ F : Nat → ByteArray, ∀ i, i < len → W.cell? (a'.add i) = some (.string (F i)) :=
      ⟨fun i => if h : i < len then (hcell i h).choose else ⟨#[]⟩, fun i hi' => by
        simp only [dif_pos hi']; exact (hcell i hi').choose_spec⟩
    refine ⟨some a', len, _, F, rfl, hl, by unfold maxLen at hm; omega, ?_⟩
    rcases Nat.eq_zero_or_pos len with z | z
    · exact .inl z
    · have h00 := hF 0 z
      obtain ⟨b, off, spot⟩ := a'
      have hspot : spot = none := by simpa [Addr.add] using World.cell?_spot h00
      subst hspot
      refine .inr ⟨b, off, rfl, ?_, hl, fun i hi' => ?_⟩
      · have := cell_lt h00; rwa [Go.WideShapes.add_plain] at this
      · rw [← Go.WideShapes.add_plain]; exact hF i hi'
end Go.Proofs.YtlpfijdjkaijeaaDoor
