/-
  The library's Sort, Compact, DeleteFunc over rows of ints of the call's own.
-/
import Derived.Test.YtkheomaihhcokaaShelf
import Derived.Test.YtkheomaihhcokaaEcD
import Derived.Test.YtkheomaihhcokaaEcE
import Derived.Sort.OwnSorted
namespace Go.Proofs.Ytkheomaihhcokaa
open Go.RowKit Go.Sort

theorem OwnI.grown {W W' : World} {base : Nat} {row : Option Nat} {v : Value} {L : List Int} (h : OwnI W base v L) (hg : W.grownBy W' row) (hne : ∀ g, v.ownBlock = some g → row ≠ some g) : OwnI W' base v L := ownI_grown h hg hne
theorem heap_put {w : World} {g n : Nat} {os : Array Obj} {cur : Array Value} {e : TypeId} {fr : Nat × Nat} (d : Array Int) (hb : w.heap[g]? = some (.cells cur e fr)) :
    (grow (putRow (Value.int .i64) (Sort.ahead w n) g 0 d) os).heap[g]? = some (.cells (putCells (Value.int .i64) 0 d cur) e fr) := by
  have hg : g < w.heap.size := (Array.getElem?_eq_some_iff.1 hb).1
  rw [heap_grow_old _ _ (by simpa using hg)]
  simp [putRow, mapBlock, Sort.ahead, Array.getElem?_modify, hb, onCells]
theorem grown_put {w : World} {g n : Nat} {os : Array Obj} (d : Array Int) : w.grownBy (grow (putRow (Value.int .i64) (Sort.ahead w n) g 0 d) os) (some g) := by
  refine ⟨rfl, rfl, rfl, by simp, fun k hk hne => ?_⟩
  rw [heap_grow_old _ _ (by simpa using hk)]
  have : g ≠ k := fun e => hne (by rw [e])
  simp [putRow, mapBlock, Sort.ahead, Array.getElem?_modify, this]
theorem take_puts (cur : Array Value) (ts : List Int) (k : Nat) (hk : k ≤ ts.length) (h : ts.length ≤ cur.size) : (putCells (Value.int .i64) 0 ts.toArray cur).toList.take k = (ts.take k).map (Value.int .i64) := by
  apply List.ext_getElem?
  intro j
  by_cases hj : j < k
  · have h1 : j < ts.length := by omega
    have h2 : j < cur.size := by omega
    rw [List.getElem?_take_of_lt hj, Array.getElem?_toList, List.getElem?_map, List.getElem?_take_of_lt hj]
    simp [putCells, h1, h2]
  · rw [List.getElem?_take_eq_none (by omega), List.getElem?_eq_none (by simp; omega)]
/-- Behind the library's call the row holds another list, of which the first k are looked at. -/
theorem ownI_put {w : World} {base g cap n k : Nat} {os : Array Obj} {L M : List Int} (h : OwnI w base (.slice (some ⟨g, 0, none⟩) L.length cap) L) (hM : M.length = L.length) (hk : k ≤ M.length) :
    OwnI (grow (putRow (Value.int .i64) (Sort.ahead w n) g 0 M.toArray) os) base (.slice (some ⟨g, 0, none⟩) k cap) (M.take k) := by
  obtain ⟨h1, ⟨hv, _⟩ | ⟨g', cap', cur, hv, hg, hh, hn, hm, hs, ht⟩⟩ := h
  · cases hv
  · cases hv
    have hl : (M.take k).length = k := by rw [List.length_take]; omega
    unfold OwnI
    rw [hl]
    exact ⟨by simp; omega, .inr ⟨g, cap, _, rfl, hg, heap_put _ hh, by omega, hm, by simp [putCells, hs], by rw [Nat.mul_one]; exact take_puts cur M k hk (by omega)⟩⟩
theorem ownI_holds {w : World} {base g cap : Nat} {L : List Int} (h : OwnI w base (.slice (some ⟨g, 0, none⟩) L.length cap) L) : Holds (Value.int .i64) w g 0 L.toArray := by
  intro j hj
  have hj' : j < L.length := by simpa using hj
  obtain ⟨z1, z2⟩ := h.cells hj'
  rw [Nat.zero_add]
  refine ⟨?_, z2⟩
  rw [z1, getElem!_pos _ j (by simpa using hj'), List.getD_eq_getElem?_getD, List.getElem?_eq_getElem hj']
  simp
theorem ownI_nil_or {w : World} {base : Nat} {v : Value} {L : List Int} (h : OwnI w base v L) : (v = .slice none 0 0 ∧ L = []) ∨ ∃ g cap, v = .slice (some ⟨g, 0, none⟩) L.length cap ∧ base ≤ g ∧ g < w.heap.size ∧ L.length ≤ cap := by
  obtain ⟨h1, ⟨hv, h0⟩ | ⟨g, cap, cur, hv, hg, hh, hn, hrest⟩⟩ := h
  · exact .inl ⟨hv, List.eq_nil_of_length_eq_zero h0⟩
  · exact .inr ⟨g, cap, hv, hg, (Array.getElem?_eq_some_iff.1 hh).1, hn⟩
theorem sort_own (base : Nat) (v : Value) (L : List Int) (w : World) (h : OwnI w base v L) (hl : L.length ≤ 1000000) :
    Calls Try.prog 55 #[v] w fun e w' => e = .returned (.tuple #[]) ∧ OwnI w' base v (L.mergeSort fun x y => decide (x ≤ y)) ∧ w.grownBy w' v.ownBlock := by
  rcases ownI_nil_or h with ⟨rfl, rfl⟩ | ⟨g, cap, rfl, hg, hlt, hn⟩
  · refine (Try.slices_Sort_int_none none 0 w).mono ?_
    rintro e w' ⟨rfl, rfl⟩
    exact ⟨rfl, by rw [List.mergeSort_nil]; exact h, World.grownBy.refl _ _⟩
  · refine (Try.slices_Sort_int g 0 cap L w (ownI_holds h) hlt (by omega)).mono ?_
    rintro e w' ⟨rfl, n, os, rfl⟩
    refine ⟨rfl, ?_, grown_put _⟩
    have z := ownI_put (n := n) (os := os) (M := L.mergeSort fun x y => decide (x ≤ y)) (k := L.length) h (by simp) (by simp)
    rw [List.take_of_length_le (by simp)] at z
    exact z
theorem compact_own (base : Nat) (v : Value) (L : List Int) (w : World) (h : OwnI w base v L) (hl : L.length ≤ 1000000) :
    Calls Try.prog 56 #[v] w fun e w' => ∃ v', e = .returned v' ∧ OwnI w' base v' (Lib.compact L) ∧ w.grownBy w' v.ownBlock ∧ v'.ownBlock = v.ownBlock := by
  rcases ownI_nil_or h with ⟨rfl, rfl⟩ | ⟨g, cap, rfl, hg, hlt, hn⟩
  · refine (Try.slices_Compact_int_empty none 0 w).mono ?_
    rintro e w' ⟨rfl, rfl⟩
    exact ⟨_, rfl, h, World.grownBy.refl _ _, rfl⟩
  · refine (Try.slices_Compact_int g 0 cap L w (ownI_holds h) (by omega) hn).mono ?_
    rintro e w' ⟨rfl, n, rfl⟩
    have hc := Lib.compact_length_le L
    have z := ownI_put (n := n) (os := #[]) (M := Lib.compact L ++ List.replicate (L.length - (Lib.compact L).length) 0) (k := (Lib.compact L).length) h (by rw [List.length_append, List.length_replicate]; omega) (by rw [List.length_append]; omega)
    have g := grown_put (w := w) (g := g) (n := n) (os := #[]) (Lib.compact L ++ List.replicate (L.length - (Lib.compact L).length) 0).toArray
    rw [grow_empty] at z g
    rw [List.take_left] at z
    exact ⟨_, rfl, z, g, rfl⟩
end Go.Proofs.Ytkheomaihhcokaa
