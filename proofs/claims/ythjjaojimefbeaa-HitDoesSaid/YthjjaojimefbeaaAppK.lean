/-
  append of a row of structs of ints that came in, nil or not, to nothing: a row of the call's own that reads alike.
-/
import Derived.Test.YthjjaojimefbeaaOpenK
import Derived.Maps.AppendAt
import Derived.OwnWalk
import Derived.Laws.AppendOwnNone
namespace Go.Proofs.Ythjjaojimefbeaa
open Go.RowKit

def valsK (n k : Nat) (F : Nat → Nat → Int) : List Value := (List.range (n * k)).map fun q => .int .i64 (F (q / k) (q % k))
theorem valsK_length (n k : Nat) (F : Nat → Nat → Int) : (valsK n k F).length = n * k := by simp [valsK]
theorem valsK_at {n k : Nat} {F : Nat → Nat → Int} {q : Nat} {u : Value} (h : (valsK n k F)[q]? = some u) : q < n * k ∧ u = .int .i64 (F (q / k) (q % k)) := by
  unfold valsK at h
  rw [List.getElem?_map] at h
  obtain ⟨x, hx, rfl⟩ := Option.map_eq_some_iff.1 h
  have z : q < n * k := by
    rcases Nat.lt_or_ge q (n * k) with z | z
    · exact z
    · rw [List.getElem?_eq_none (by simpa using z)] at hx; cases hx
  rw [List.getElem?_range z] at hx
  cases hx
  exact ⟨z, rfl⟩
theorem valsK_get {n k i j : Nat} (F : Nat → Nat → Int) (hi : i < n) (hj : j < k) : (valsK n k F)[i * k + j]? = some (.int .i64 (F i j)) := by
  have hq : i * k + j < n * k := Nat.lt_of_lt_of_le (Nat.add_lt_add_left hj (i * k)) (by rw [← Nat.succ_mul]; exact Nat.mul_le_mul_right k hi)
  have hk : 0 < k := by omega
  unfold valsK
  rw [List.getElem?_map, List.getElem?_range hq]
  simp only [Option.map_some]
  rw [Nat.mul_comm i k, Nat.mul_add_div hk, Nat.mul_add_mod, Nat.div_eq_of_lt hj, Nat.mod_eq_of_lt hj, Nat.add_zero]
theorem valsK_one {n k : Nat} {F : Nat → Nat → Int} : ∀ u ∈ valsK n k F, u.oneCell' = true := by
  intro u hu
  unfold valsK at hu
  obtain ⟨q, _, rfl⟩ := List.mem_map.1 hu
  rfl
/-- A row of the call's own, read as structs. -/
theorem rowK_of_own {w : World} {base n k : Nat} {e : TypeId} {v : Value} {F : Nat → Nat → Int} (h : w.ownsRow base e k v n (valsK n k F)) : ∃ a c, v = .slice a n c ∧ (a = none → n = 0 ∧ c = 0) ∧ n ≤ c ∧ c ≤ 9223372036854775807 ∧ RowK w a n k F := by
  have hl := h.lt
  have hc := fun (g : Nat) (hg : v.ownBlock = some g) => h.cells hg
  obtain ⟨h1, ⟨rfl, h0⟩ | ⟨g, cap, cur, rfl, hb, hh, hk, hm, _, _⟩⟩ := h
  · exact ⟨none, 0, by rw [h0], fun _ => ⟨h0, rfl⟩, by omega, by omega, .inl h0⟩
  · refine ⟨_, cap, rfl, (fun h => by cases h), hk, by unfold maxLen at hm; omega, .inr ⟨g, 0, rfl, (hl g rfl).2, fun i hi j hj => ?_⟩⟩
    have := hc g rfl (i * k + j) _ (valsK_get F hi hj)
    rwa [Go.WideShapes.add_plain] at this
theorem wpList_append_rowk {P : Program} {w : World} {ops : Array Oper} {rest : List Oper} {o : Oper} {a : Act} {Q : Exit → Act → World → Prop} (hgd : o.guard = none) (s x : Operand) (t : TypeId)
    (ho : o.op = .call { callee := .builtin .append, args := #[s, x], argTypes := #[t, t] })
    (base : Nat) (e : TypeId) (i : TypeInfo) (z : Value) (k bytes : Nat) (ht : P.underlying t = some (.slice e)) (hi : P.info? e = some i) (hz : i.zero = some z)
    (hsize : i.size = k) (hby : i.bytes = bytes) (hzs : z.cells.size = k) (hsz : 0 < k)
    (A : Option Addr) (n c : Nat) (F : Nat → Nat → Int) (hs : a.eval s = .slice none 0 0) (hx : a.eval x = .slice A n c) (hA : A = none → n = 0 ∧ c = 0) (hr : RowK w A n k F)
    (h63 : n ≤ maxLen) (hbytes : n * bytes ≤ 140737488355328) (hbase : base ≤ w.heap.size)
    (h : ∀ A' c' w', (A' = none → n = 0 ∧ c' = 0) → n ≤ c' → c' ≤ 9223372036854775807 → RowK w' A' n k F → Below w.heap.size w w' → wpList P ops Q rest (a.put o.dst (.slice A' n c')) w') : wpList P ops Q (o :: rest) a w := by
  rcases A with _ | ad
  · obtain ⟨rfl, rfl⟩ := hA rfl
    exact wpList_append_own_none hgd s x t ho base e i k ht hi (.slice none 0 0) 0 [] hs (World.ownsRow_nil _ _ _ _) hx (h none 0 w (fun _ => ⟨rfl, rfl⟩) (Nat.le_refl _) (by omega) (.inl rfl) (Below.refl _ _))
  · refine wpList_append_own_at w hgd s x t ho base e i z k bytes ht hi hz hsize hby hzs hsz (.slice none 0 0) 0 [] hs (World.ownsRow_nil _ _ _ _) ad n c (valsK n k F) hx (valsK_length n k F) ?_ valsK_one (by omega) (by rw [Nat.zero_add]; exact hbytes) hbase ?_
    · intro q u hq
      obtain ⟨h1, rfl⟩ := valsK_at hq
      rcases hr with rfl | ⟨b, off, e, _, hc⟩
      · simp at h1
      · cases e
        have hd : q / k < n := (Nat.div_lt_iff_lt_mul hsz).2 h1
        have := hc (q / k) hd (q % k) (Nat.mod_lt _ hsz)
        rw [Go.WideShapes.add_plain]
        rwa [Nat.mul_comm, Nat.div_add_mod] at this
    · intro v' w' hown hgrow _ _
      rw [List.nil_append, Nat.zero_add] at hown
      obtain ⟨a', c', rfl, h1, h2, h3, h4⟩ := rowK_of_own hown
      exact h a' c' w' h1 h2 h3 h4 ((Below.refl _ w).grown hgrow (Nat.le_refl _) (fun g hg => by simp [Value.ownBlock] at hg))
end Go.Proofs.Ythjjaojimefbeaa
