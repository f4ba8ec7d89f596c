/-
  append of one element of K cells (a string, a struct, an array of structs) behind a row of the call's own; rows of texts of the call's own, read.
-/
import Derived.Test.YtlpfijdjkaijeaaDoorAppL
import Derived.Test.YtlpfijdjkaijeaaDoorRwS
import Derived.Test.YtlpfijdjkaijeaaDoorRel
namespace Go.Proofs.YtlpfijdjkaijeaaDoor
open Go.RowKit

theorem app_one {W : World} {ops : Array Oper} {rest : List Oper} {o : Oper} {a : Act} {Q : Exit → Act → World → Prop} (hgd : o.guard = none) (s x : Operand) (t e : TypeId) (z : Value) (K bytes : Nat)
    (ht : Tryd.prog.underlying t = some (.slice e)) (hinfo : (Tryd.prog.info? e).map (fun i => (i.zero, i.size, i.bytes)) = some (some z, K, bytes)) (hzs : z.cells.size = K) (hK : 0 < K)
    (ho : o.op = .call { callee := .builtin .append, args := #[s, x], argTypes := #[t, t] })
    (base : Nat) (v : Value) (k : Nat) (L cs : List Value) (hcs : cs.length = K) (hone : ∀ u ∈ cs, u.oneCell' = true) (hs : a.eval s = v) (hown : W.ownsRow base e K v k L) (hx : a.eval x = .slice (some ⟨W.heap.size, 0, none⟩) 1 1)
    (hk : (k + 1) * bytes ≤ 140737488355328) (hk2 : k ≤ 1000000) (hbase : base ≤ W.heap.size)
    (h : ∀ v' w', w'.ownsRow base e K v' (k + 1) (L ++ cs) → Below base W w' → wpList Tryd.prog ops Q rest (a.put o.dst v') w') : wpList Tryd.prog ops Q (o :: rest) a (W.alloc (.cells cs.toArray e)) := by
  obtain ⟨i0, hi, hz0, hz1, hz2⟩ := info_parts hinfo
  refine wpList_append_own _ hgd s x t ho base e i0 z K bytes ht hi hz0 hz1 hz2 hzs hK v k L hs (hown.alloc _) ⟨W.heap.size, 0, none⟩ 1 1 cs hx (by rw [hcs, Nat.one_mul]) ?_ hone ?_ hk ?_ ?_
  · intro j u hj
    rw [Go.WideShapes.add_plain, Nat.zero_add]
    exact alloc_cell rfl (by rw [List.getElem?_toArray]; exact hj)
  · unfold maxLen; omega
  · simp; omega
  · intro v' w1 hown' hgrow _
    exact h v' w1 hown' (((Below.refl base W).alloc hbase _).grown hgrow (by simp; omega) (fun g hg => (hown.lt g hg).1))
/-- The same as one operation of a region, the new element in a block of its own. -/
theorem app_act {W : World} {o : Oper} {a : Act} {Kk : Act → World → Prop} {Q : Exit → Act → World → Prop} (s x : Operand) (t e : TypeId) (z : Value) (K bytes : Nat)
    (ht : Tryd.prog.underlying t = some (.slice e)) (hinfo : (Tryd.prog.info? e).map (fun i => (i.zero, i.size, i.bytes)) = some (some z, K, bytes)) (hzs : z.cells.size = K) (hK : 0 < K)
    (ho : o.op = .call { callee := .builtin .append, args := #[s, x], argTypes := #[t, t] })
    (base : Nat) (v : Value) (k : Nat) (L : List Value) (cs : Array Value) (hcs : cs.size = K) (hone : ∀ u ∈ cs, u.oneCell' = true) (hs : a.eval s = v) (hown : W.ownsRow base e K v k L) (g c : Nat) (hx : a.eval x = .slice (some ⟨g, 0, none⟩) 1 c) (hl : Lok W g e cs)
    (hk : (k + 1) * bytes ≤ 140737488355328) (hk2 : k ≤ 1000000) (hbase : base ≤ W.heap.size)
    (h : ∀ v' w', w'.ownsRow base e K v' (k + 1) (L ++ cs.toList) → Below base W w' → Kk (a.put o.dst v') w') : o.wp Tryd.prog a W Kk Q := by
  obtain ⟨i0, hi, hz0, hz1, hz2⟩ := info_parts hinfo
  refine wp_append_own W s x t ho base e i0 z K bytes ht hi hz0 hz1 hz2 hzs hK v k L hs hown ⟨g, 0, none⟩ 1 c cs.toList hx (by rw [Nat.one_mul]; simpa using hcs) ?_ (fun u hu => hone u (by simpa using hu)) ?_ hk hbase ?_
  · intro j u hj
    rw [Go.WideShapes.add_plain, Nat.zero_add]
    exact hl.cell (by rw [Array.getElem?_toList] at hj; exact hj)
  · unfold maxLen; omega
  · intro v' w1 hown' hgrow _
    exact h v' w1 hown' ((Below.refl base W).grown hgrow hbase (fun g hg => (hown.lt g hg).1))
/-- A row of the call's own, under a name of this text's (so that '.keep' is told of it). -/
def OwnR (w : World) (base : Nat) (e : TypeId) (k : Nat) (v : Value) (n : Nat) (xs : List Value) : Prop := w.ownsRow base e k v n xs
theorem OwnR.keep {w w' : World} {base : Nat} {e : TypeId} {k : Nat} {v : Value} {n : Nat} {xs : List Value} (h : OwnR w base e k v n xs) (hb : Below w.heap.size w w') : OwnR w' base e k v n xs := ownK_keep h hb
/-- A row of texts of the call's own, read. -/
theorem rowS_of_own {w : World} {base n : Nat} {v : Value} {L : List ByteArray} (h : w.ownsRow base 9 1 v n (L.map Value.string)) : L.length = n ∧ ∃ a c, v = .slice a n c ∧ n ≤ c ∧ c ≤ 9223372036854775807 ∧ RowS w a n c (fun i => (L[i]?).getD ⟨#[]⟩) := by
  have hl := h.lt
  have hc := fun (g : Nat) (hg : v.ownBlock = some g) => h.cells hg
  have hL : L.length = n := by have := h.1; simpa using this
  refine ⟨hL, ?_⟩
  obtain ⟨h1, ⟨rfl, h0⟩ | ⟨g, cap, cur, rfl, hb, hh, hk, hm, _, _⟩⟩ := h
  · exact ⟨none, 0, by rw [h0], by omega, by omega, .inl h0⟩
  · refine ⟨_, cap, rfl, hk, by unfold maxLen at hm; omega, .inr ⟨g, 0, rfl, (hl g rfl).2, hk, fun i hi => ?_⟩⟩
    have := hc g rfl i (.string (L[i]'(by omega))) (by rw [List.getElem?_map, List.getElem?_eq_getElem (by omega)]; rfl)
    rw [Go.WideShapes.add_plain] at this
    rw [this]
    show some (Value.string L[i]) = some (Value.string ((L[i]?).getD ⟨#[]⟩))
    rw [List.getElem?_eq_getElem (by omega)]; rfl
theorem valsK_succ (n k : Nat) (F : Nat → Nat → Int) : valsK (n + 1) k F = valsK n k F ++ (List.range k).map fun j => Value.int .i64 (F n j) := by
  rcases Nat.eq_zero_or_pos k with z | hk
  · subst z; simp [valsK]
  · unfold valsK
    rw [Nat.add_mul, Nat.one_mul, List.range_add, List.map_append, List.map_map]
    congr 1
    refine List.map_congr_left fun q hq => ?_
    rw [List.mem_range] at hq
    simp only [Function.comp]
    rw [Nat.mul_comm n k, Nat.mul_add_div hk, Nat.mul_add_mod, Nat.div_eq_of_lt hq, Nat.mod_eq_of_lt hq, Nat.add_zero]
end Go.Proofs.YtlpfijdjkaijeaaDoor
