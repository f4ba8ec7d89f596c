/-
  Edges of triangles: what stands in the rows of those next to one and of all edges, and in which order. No program.
-/
import Derived.Test.YtkheomaihhcokaaEgT
import Derived.Test.YtkheomaihhcokaaEgJ
namespace Go.Proofs.Ytkheomaihhcokaa

theorem nx_mem {F : Nat → Nat → Int} {i : Nat} {x : Int} : ∀ {n : Nat}, x ∈ nxL F i n ↔ ∃ k : Nat, k < n ∧ x = (k : Int) ∧ nxB F i k = true
  | 0 => ⟨(fun h => by cases h), (fun ⟨_, h, _⟩ => absurd h (by omega))⟩
  | n + 1 => by
    show x ∈ nxL F i n ++ (if nxB F i n then [(n : Int)] else []) ↔ _
    rw [List.mem_append, nx_mem (n := n)]
    constructor
    · rintro (⟨k, a, b, c⟩ | h)
      · exact ⟨k, by omega, b, c⟩
      · by_cases e : nxB F i n = true
        · rw [if_pos e, List.mem_singleton] at h
          exact ⟨n, by omega, h, e⟩
        · rw [if_neg e] at h
          cases h
    · rintro ⟨k, a, b, c⟩
      by_cases e : k = n
      · subst e
        exact .inr (by rw [if_pos c, List.mem_singleton]; exact b)
      · exact .inl ⟨k, by omega, b, c⟩
theorem nx_rise (F : Nat → Nat → Int) (i : Nat) : ∀ n, (nxL F i n).Pairwise (· < ·)
  | 0 => List.Pairwise.nil
  | n + 1 => by
    show (nxL F i n ++ (if nxB F i n then [(n : Int)] else [])).Pairwise (· < ·)
    rw [List.pairwise_append]
    refine ⟨nx_rise F i n, by split <;> simp, fun x hx y hy => ?_⟩
    obtain ⟨k, a, rfl, _⟩ := nx_mem.1 hx
    split at hy
    · rw [List.mem_singleton] at hy
      omega
    · cases hy
theorem rise_at {l : List Int} (h : l.Pairwise (· < ·)) {j k : Nat} (hjk : j < k) (hk : k < l.length) : l.getD j 0 < l.getD k 0 := by
  rw [List.getD_eq_getElem?_getD, List.getD_eq_getElem?_getD, List.getElem?_eq_getElem hk, List.getElem?_eq_getElem (show j < l.length from by omega)]
  exact List.pairwise_iff_getElem.1 h j k (by omega) hk hjk
theorem mem_at {l : List Int} {j : Nat} (h : j < l.length) : l.getD j 0 ∈ l := by
  rw [List.getD_eq_getElem?_getD, List.getElem?_eq_getElem h]
  exact List.getElem_mem h
theorem th_mem {F : Nat → Nat → Int} {a b x : Int} : ∀ {n : Nat}, x ∈ thL F a b n ↔ ∃ k : Nat, k < n ∧ x = (k : Int) ∧ hasB (F k 0) (F k 3) (F k 6) a b = true
  | 0 => ⟨(fun h => by cases h), (fun ⟨_, h, _⟩ => absurd h (by omega))⟩
  | n + 1 => by
    show x ∈ thL F a b n ++ (if hasB (F n 0) (F n 3) (F n 6) a b then [(n : Int)] else []) ↔ _
    rw [List.mem_append, th_mem (n := n)]
    constructor
    · rintro (⟨k, p, q, c⟩ | h)
      · exact ⟨k, by omega, q, c⟩
      · by_cases e : hasB (F n 0) (F n 3) (F n 6) a b = true
        · rw [if_pos e, List.mem_singleton] at h
          exact ⟨n, by omega, h, e⟩
        · rw [if_neg e] at h
          cases h
    · rintro ⟨k, p, q, c⟩
      by_cases e : k = n
      · subst e
        exact .inr (by rw [if_pos c, List.mem_singleton]; exact q)
      · exact .inl ⟨k, by omega, q, c⟩
theorem th_in {F : Nat → Nat → Int} {a b : Int} {n i : Nat} (hi : i < n) : (i : Int) ∈ thL F a b n ↔ hasB (F i 0) (F i 3) (F i 6) a b = true := by
  rw [th_mem]
  constructor
  · rintro ⟨k, _, e, h⟩
    obtain rfl : i = k := by omega
    exact h
  · exact fun h => ⟨i, hi, rfl, h⟩
theorem th_rise (F : Nat → Nat → Int) (a b : Int) : ∀ n, (thL F a b n).Pairwise (· < ·)
  | 0 => List.Pairwise.nil
  | n + 1 => by
    show (thL F a b n ++ (if hasB (F n 0) (F n 3) (F n 6) a b then [(n : Int)] else [])).Pairwise (· < ·)
    rw [List.pairwise_append]
    refine ⟨th_rise F a b n, by split <;> simp, fun x hx y hy => ?_⟩
    obtain ⟨k, p, rfl, _⟩ := th_mem.1 hx
    split at hy
    · rw [List.mem_singleton] at hy
      omega
    · cases hy
theorem eb_mem {F : Nat → Nat → Int} {n a : Nat} {e : Int × Int × List Int} : ∀ {j : Nat}, e ∈ ebL F n a j ↔ ∃ t : Nat, t < j ∧ ¬ (thL F a ((a + 1 + t : Nat) : Int) n).length = 0 ∧ e = ((a : Int), ((a + 1 + t : Nat) : Int), thL F a ((a + 1 + t : Nat) : Int) n)
  | 0 => ⟨(fun h => by cases h), (fun ⟨_, h, _⟩ => absurd h (by omega))⟩
  | j + 1 => by
    show e ∈ ebL F n a j ++ (if (thL F a ((a + 1 + j : Nat) : Int) n).length = 0 then [] else [((a : Int), ((a + 1 + j : Nat) : Int), thL F a ((a + 1 + j : Nat) : Int) n)]) ↔ _
    rw [List.mem_append, eb_mem (j := j)]
    constructor
    · rintro (⟨t, p, q⟩ | h)
      · exact ⟨t, by omega, q⟩
      · by_cases z : (thL F a ((a + 1 + j : Nat) : Int) n).length = 0
        · rw [if_pos z] at h
          cases h
        · rw [if_neg z, List.mem_singleton] at h
          exact ⟨j, by omega, z, h⟩
    · rintro ⟨t, p, q, r⟩
      by_cases z : t = j
      · subst z
        exact .inr (by rw [if_neg q, List.mem_singleton]; exact r)
      · exact .inl ⟨t, by omega, q, r⟩
theorem ea_mem {F : Nat → Nat → Int} {n m : Nat} {e : Int × Int × List Int} : ∀ {A : Nat}, e ∈ eaL F n m A ↔ ∃ a : Nat, a < A ∧ e ∈ ebL F n a (m - (a + 1))
  | 0 => ⟨(fun h => by cases h), (fun ⟨_, h, _⟩ => absurd h (by omega))⟩
  | A + 1 => by
    show e ∈ eaL F n m A ++ ebL F n A (m - (A + 1)) ↔ _
    rw [List.mem_append, ea_mem (A := A)]
    constructor
    · rintro (⟨a, p, q⟩ | h)
      · exact ⟨a, by omega, q⟩
      · exact ⟨A, by omega, h⟩
    · rintro ⟨a, p, q⟩
      by_cases z : a = A
      · subst z
        exact .inr q
      · exact .inl ⟨a, by omega, q⟩
/-- All edges: each pair of places, the lesser first, that some triangle has. -/
theorem ea_iff {F : Nat → Nat → Int} {n m : Nat} {e : Int × Int × List Int} : e ∈ eaL F n m m ↔ ∃ a b : Nat, a < b ∧ b < m ∧ e = ((a : Int), (b : Int), thL F a b n) ∧ ¬ (thL F a b n).length = 0 := by
  rw [ea_mem]
  constructor
  · rintro ⟨a, p, q⟩
    obtain ⟨t, r, s, u⟩ := eb_mem.1 q
    exact ⟨a, a + 1 + t, by omega, by omega, u, s⟩
  · rintro ⟨a, b, p, q, r, s⟩
    refine ⟨a, by omega, eb_mem.2 ⟨b - (a + 1), by omega, ?_⟩⟩
    rw [show a + 1 + (b - (a + 1)) = b from by omega]
    exact ⟨s, r⟩
/-- Edges rise. -/
def eLt (x y : Int × Int × List Int) : Prop := x.1 < y.1 ∨ x.1 = y.1 ∧ x.2.1 < y.2.1
theorem eb_rise (F : Nat → Nat → Int) (n a : Nat) : ∀ j, (ebL F n a j).Pairwise eLt
  | 0 => List.Pairwise.nil
  | j + 1 => by
    show (ebL F n a j ++ (if (thL F a ((a + 1 + j : Nat) : Int) n).length = 0 then [] else [((a : Int), ((a + 1 + j : Nat) : Int), thL F a ((a + 1 + j : Nat) : Int) n)])).Pairwise eLt
    rw [List.pairwise_append]
    refine ⟨eb_rise F n a j, by split <;> simp, fun x hx y hy => ?_⟩
    obtain ⟨t, p, _, rfl⟩ := eb_mem.1 hx
    split at hy
    · cases hy
    · rw [List.mem_singleton] at hy
      subst hy
      exact .inr ⟨rfl, by show ((a + 1 + t : Nat) : Int) < ((a + 1 + j : Nat) : Int); omega⟩
theorem ea_rise (F : Nat → Nat → Int) (n m : Nat) : ∀ A, (eaL F n m A).Pairwise eLt
  | 0 => List.Pairwise.nil
  | A + 1 => by
    show (eaL F n m A ++ ebL F n A (m - (A + 1))).Pairwise eLt
    rw [List.pairwise_append]
    refine ⟨ea_rise F n m A, eb_rise F n A _, fun x hx y hy => ?_⟩
    obtain ⟨a, p, q⟩ := ea_mem.1 hx
    obtain ⟨t, _, _, rfl⟩ := eb_mem.1 q
    obtain ⟨s, _, _, rfl⟩ := eb_mem.1 hy
    exact .inl (by show (a : Int) < (A : Int); omega)
/-- Two triangles that are next to one another stand at one edge. -/
theorem ea_share {F : Nat → Nat → Int} {n m i k : Nat} (hi : i < n) (hk : k < n) (hF : ∀ j, j = 0 ∨ j = 3 ∨ j = 6 → 0 ≤ F i j ∧ F i j < (m : Int)) (h : nxB F i k = true) : ∃ e, e ∈ eaL F n m m ∧ (i : Int) ∈ e.2.2 ∧ (k : Int) ∈ e.2.2 := by
  have ne : ¬ i = k := fun x => by rw [x, nxB_same] at h; cases h
  rw [nxB_other ne] at h
  have go : ∀ p q : Int, 0 ≤ p → p < (m : Int) → 0 ≤ q → q < (m : Int) → ¬ p = q → hasB (F i 0) (F i 3) (F i 6) p q = true → hasB (F k 0) (F k 3) (F k 6) p q = true → ∃ e, e ∈ eaL F n m m ∧ (i : Int) ∈ e.2.2 ∧ (k : Int) ∈ e.2.2 := by
    have lt : ∀ p q : Nat, p < q → q < m → hasB (F i 0) (F i 3) (F i 6) p q = true → hasB (F k 0) (F k 3) (F k 6) p q = true → ∃ e, e ∈ eaL F n m m ∧ (i : Int) ∈ e.2.2 ∧ (k : Int) ∈ e.2.2 := by
      intro p q h1 h2 h3 h4
      have a := (th_in hi).2 h3
      exact ⟨_, ea_iff.2 ⟨p, q, h1, h2, rfl, fun z => by rw [List.eq_nil_of_length_eq_zero z] at a; cases a⟩, a, (th_in hk).2 h4⟩
    have sw : ∀ x y z p q : Int, hasB x y z p q = true → hasB x y z q p = true := by
      intro x y z p q h
      rw [hasB_iff, ed3_iff, ed3_iff, ed3_iff] at h ⊢
      omega
    intro p q p0 pm q0 qm nq h3 h4
    obtain ⟨p, rfl⟩ := Int.eq_ofNat_of_zero_le p0
    obtain ⟨q, rfl⟩ := Int.eq_ofNat_of_zero_le q0
    rcases Nat.lt_or_ge p q with l | l
    · exact lt p q l (by omega) h3 h4
    · exact lt q p (by omega) (by omega) (sw _ _ _ _ _ h3) (sw _ _ _ _ _ h4)
  have f0 := hF 0 (.inl rfl)
  have f3 := hF 3 (.inr (.inl rfl))
  have f6 := hF 6 (.inr (.inr rfl))
  unfold nxE at h
  rw [Bool.or_eq_true, Bool.or_eq_true, Bool.and_eq_true, Bool.and_eq_true, Bool.and_eq_true, bne_iff_ne, bne_iff_ne, bne_iff_ne] at h
  rcases h with h | h | h
  · exact go _ _ f0.1 f0.2 f3.1 f3.2 h.1 (hasB_iff.2 (.inl (ed3_iff.2 ⟨h.1, .inl ⟨rfl, rfl⟩⟩))) h.2
  · exact go _ _ f3.1 f3.2 f6.1 f6.2 h.1 (hasB_iff.2 (.inr (.inl (ed3_iff.2 ⟨h.1, .inl ⟨rfl, rfl⟩⟩)))) h.2
  · exact go _ _ f6.1 f6.2 f0.1 f0.2 h.1 (hasB_iff.2 (.inr (.inr (ed3_iff.2 ⟨h.1, .inl ⟨rfl, rfl⟩⟩)))) h.2
end Go.Proofs.Ytkheomaihhcokaa
