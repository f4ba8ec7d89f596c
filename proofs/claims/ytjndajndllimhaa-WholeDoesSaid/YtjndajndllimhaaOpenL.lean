/-
  A row of ints that came in, opened; and read again behind the call.
-/
import Derived.Test.YtjndajndllimhaaOpen
import Derived.Test.YtjndajndllimhaaWhC
namespace Go.Proofs.Ytjndajndllimhaa
open Go.ChangeShapes Go.WideShapes Go.ChangeAt Go.RowKit Go.Joins

theorem cells_int : Try.prog.cellsOf 3 = 1 := by kernel_rfl
theorem open_row2 {H : Type} {enc : TypeId × Value → H} {W : World} {r : Reach} {base : Nat} {v : Value} {d : DataW H} {ps : List MemPlace} (hval : Value.okWide Try.prog W r base 22 v) (hd : DataW.Trod enc Try.prog W 0 (fun _ => true) true 22 v d ps) :
    ∃ (a : Option Addr) (l : List Int) (c : Nat), (a = none → c = 0) ∧ v = .slice a l.length c ∧ RowL W a l c ∧ AllI l ∧ c ≤ 9223372036854775807 ∧ (∀ W', Below W.heap.size W W' → DataW.Trod enc Try.prog W' 0 (fun b => decide (b < W.heap.size)) true 22 v d ps) := by
  obtain ⟨a, len, cap, rfl⟩ := okWide_slice Try.underlying22 hval
  obtain ⟨fuel, hf⟩ := hd
  rcases open_ints Try.underlying22 Try.underlying3 cells_int hf with ⟨hcs, hx⟩ | ⟨a', len', cap', zs, hcs, _, hl, hm, hz, hx, hcell, hwz⟩
  · simp [Value.cells] at hcs
    obtain ⟨rfl, rfl, rfl⟩ := hcs
    cases hx
    refine ⟨none, [], 0, fun _ => rfl, rfl, ⟨Nat.zero_le _, .inl rfl⟩, (fun x hx => by cases hx), by omega, fun W' _ => ⟨2, ?_⟩⟩
    simp [Value.cells, DataW.trod, Try.underlying22]
  · simp [Value.cells] at hcs
    obtain ⟨rfl, rfl, rfl⟩ := hcs
    cases hx
    simp only [if_true] at hz
    have hlen : (zs.take len).length = len := by rw [List.length_take]; omega
    have hcap : cap ≤ 9223372036854775807 := by unfold maxLen at hm; omega
    refine ⟨some a', zs.take len, cap, (fun h => by cases h), by rw [hlen], ⟨by omega, ?_⟩, fun x hx => bd_i64 (hwz x (List.mem_of_mem_take hx)), hcap, fun W' hb => ⟨2, ?_⟩⟩
    · rcases Nat.eq_zero_or_pos len with h0 | h0
      · subst h0; exact .inl (by simp)
      · obtain ⟨b, off, rfl, hc⟩ := ints_at hcell (by omega)
        refine .inr ⟨b, off, rfl, cell_lt (hc 0 (by omega)), fun i hi => ?_⟩
        rw [hlen] at hi
        rw [hc i (by omega)]
        have e : (zs.take len).getD i 0 = zs.getD i 0 := by
          rw [List.getD_eq_getElem?_getD, List.getD_eq_getElem?_getD, List.getElem?_take, if_pos hi]
        rw [e]
    · refine shut_ints 0 Try.underlying22 Try.underlying3 cells_int (Nat.zero_le _) hl hm ?_ (fun i hi => keepc hb (hcell i hi)) hwz
      rcases Nat.eq_zero_or_pos cap with h0 | h0
      · subst h0
        have : len = 0 := by omega
        subst this
        rw [hz]; split <;> rfl
      · have hlt := cell_lt (hcell 0 (by omega))
        have hb' : a'.block < W.heap.size := by
          obtain ⟨b, off, rfl, hc⟩ := ints_at hcell (by omega)
          exact cell_lt (hc 0 (by omega))
        rw [hz, if_pos (decide_eq_true hb')]
theorem open_row {H : Type} {enc : TypeId × Value → H} {W : World} {r : Reach} {base : Nat} {v : Value} {d : DataW H} {ps : List MemPlace} (hval : Value.okWide Try.prog W r base 22 v) (hd : DataW.Trod enc Try.prog W 0 (fun _ => true) true 22 v d ps) :
    ∃ (a : Option Addr) (l : List Int) (c : Nat), v = .slice a l.length c ∧ RowL W a l c ∧ AllI l ∧ c ≤ 9223372036854775807 ∧ (∀ W', Below W.heap.size W W' → DataW.Trod enc Try.prog W' 0 (fun b => decide (b < W.heap.size)) true 22 v d ps) := by
  obtain ⟨a, l, c, _, h⟩ := open_row2 hval hd
  exact ⟨a, l, c, h⟩
end Go.Proofs.Ytjndajndllimhaa
