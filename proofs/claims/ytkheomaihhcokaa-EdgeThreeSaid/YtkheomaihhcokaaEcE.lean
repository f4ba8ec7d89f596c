/-
  What is next to a triangle, by its edges: gathered, sorted, each once, but for itself. No program.
-/
import Derived.Test.YtkheomaihhcokaaGaE
import Derived.Lib.SlicesCompact
namespace Go.Proofs.Ytkheomaihhcokaa

theorem rise_one : ∀ {l m : List Int}, l.Pairwise (· < ·) → m.Pairwise (· < ·) → (∀ x, x ∈ l ↔ x ∈ m) → l = m
  | [], [], _, _, _ => rfl
  | [], b :: m, _, _, h => absurd ((h b).2 (List.mem_cons_self ..)) (by simp)
  | a :: l, [], _, _, h => absurd ((h a).1 (List.mem_cons_self ..)) (by simp)
  | a :: l, b :: m, p, q, h => by
    obtain ⟨p1, p2⟩ := List.pairwise_cons.1 p
    obtain ⟨q1, q2⟩ := List.pairwise_cons.1 q
    have e : a = b := by
      rcases List.mem_cons.1 ((h a).1 (List.mem_cons_self ..)) with e | e
      · exact e
      · rcases List.mem_cons.1 ((h b).2 (List.mem_cons_self ..)) with f | f
        · exact f.symm
        · have := q1 a e; have := p1 b f; omega
    subst e
    congr 1
    refine rise_one p2 q2 fun x => ⟨fun hx => ?_, fun hx => ?_⟩
    · rcases List.mem_cons.1 ((h x).1 (List.mem_cons_of_mem _ hx)) with e | e
      · have := p1 x hx; omega
      · exact e
    · rcases List.mem_cons.1 ((h x).2 (List.mem_cons_of_mem _ hx)) with e | e
      · have := q1 x hx; omega
      · exact e
theorem compact_up {d : Array Int} (hs : ∀ j k, j ≤ k → k < d.size → d[j]! ≤ d[k]!) : ∀ m, m ≤ d.size → (∀ x, x ∈ Lib.compactUpTo d m ↔ ∃ j, j < m ∧ x = d[j]!) ∧ (Lib.compactUpTo d m).Pairwise (· < ·)
  | 0, _ => by simp [Lib.compactUpTo]
  | m + 1, h => by
    obtain ⟨h1, h2⟩ := compact_up hs m (Nat.le_of_succ_le h)
    rw [Lib.compactUpTo_succ]
    cases hk : Lib.keeps d m with
    | true =>
      simp only [if_true]
      refine ⟨fun x => ?_, ?_⟩
      · rw [List.mem_append, List.mem_singleton, h1]
        constructor
        · rintro (⟨j, hj, e⟩ | e)
          · exact ⟨j, by omega, e⟩
          · exact ⟨m, by omega, e⟩
        · rintro ⟨j, hj, e⟩
          by_cases q : j = m
          · exact .inr (by rw [e, q])
          · exact .inl ⟨j, by omega, e⟩
      · refine List.pairwise_append.2 ⟨h2, by simp, fun x hx y hy => ?_⟩
        rw [List.mem_singleton] at hy
        obtain ⟨j, hj, e⟩ := (h1 x).1 hx
        subst hy e
        have a1 := hs j (m - 1) (by omega) (by omega)
        have a2 := hs (m - 1) m (by omega) (by omega)
        have ne : d[m]! ≠ d[m - 1]! := fun e => by
          rw [Lib.keeps_neg (by omega) e] at hk; cases hk
        omega
    | false =>
      simp only [Bool.false_eq_true, if_false, List.append_nil]
      refine ⟨fun x => ?_, h2⟩
      rw [h1]
      have hm : 0 < m := by
        rcases Nat.eq_zero_or_pos m with q | q
        · subst q; rw [Lib.keeps_lt_one d 0 (by omega)] at hk; cases hk
        · exact q
      have eq : d[m]! = d[m - 1]! := Classical.byContradiction fun ne => by
        rw [Lib.keeps_pos ne] at hk; cases hk
      constructor
      · rintro ⟨j, hj, e⟩
        exact ⟨j, by omega, e⟩
      · rintro ⟨j, hj, e⟩
        by_cases q : j = m
        · exact ⟨m - 1, by omega, by rw [e, q, eq]⟩
        · exact ⟨j, by omega, e⟩
def leI (x y : Int) : Bool := decide (x ≤ y)
theorem sortI_rise (L : List Int) : (L.mergeSort fun x y => decide (x ≤ y)).Pairwise (· ≤ ·) := by
  have z := List.pairwise_mergeSort (le := fun x y : Int => decide (x ≤ y)) (by intro a b c; simp; omega) (by intro a b; simp; omega) L
  exact z.imp (fun h => of_decide_eq_true h)
/-- Sorted, and each once. -/
theorem compact_sorted (L : List Int) : (∀ x, x ∈ Lib.compact (L.mergeSort fun x y => decide (x ≤ y)) ↔ x ∈ L) ∧ (Lib.compact (L.mergeSort fun x y => decide (x ≤ y))).Pairwise (· < ·) := by
  have hs := sortI_rise L
  have hm : ∀ x, x ∈ (L.mergeSort fun x y => decide (x ≤ y)) ↔ x ∈ L := fun x => (List.mergeSort_perm L _).mem_iff
  generalize (L.mergeSort fun x y => decide (x ≤ y)) = M at *
  have hsz : M.toArray.size = M.length := by simp
  have hd : ∀ j k, j ≤ k → k < M.toArray.size → M.toArray[j]! ≤ M.toArray[k]! := fun j k hjk hk => by
    rw [getElem!_pos _ j (by omega), getElem!_pos _ k hk]
    by_cases e : j = k
    · subst e; exact Int.le_refl _
    · simp only [List.getElem_toArray]
      exact List.pairwise_iff_getElem.1 hs j k (by simp at hk; omega) (by simpa using hk) (by omega)
  obtain ⟨h1, h2⟩ := compact_up hd M.length (by simp)
  refine ⟨fun x => ?_, h2⟩
  show x ∈ Lib.compactUpTo M.toArray M.length ↔ _
  rw [h1, ← hm]
  constructor
  · rintro ⟨j, hj, e⟩
    rw [e, getElem!_pos _ j (by simpa using hj)]
    simp
  · intro hx
    obtain ⟨j, hj, e⟩ := List.mem_iff_getElem.1 hx
    exact ⟨j, hj, by rw [getElem!_pos _ j (by simpa using hj), ← e]; simp⟩
theorem ed3_swap (x y a b : Int) : ed3 x y a b = ed3 x y b a := decide_eq_decide.2 ⟨fun h => ⟨h.1, h.2.symm⟩, fun h => ⟨h.1, h.2.symm⟩⟩
theorem hasB_swap (x y z a b : Int) : hasB x y z a b = hasB x y z b a := by unfold hasB; rw [ed3_swap x y, ed3_swap y z, ed3_swap z x]
/-- Two triangles have an edge in common: there is one that both have. -/
theorem nxE_edge {x y z u v t : Int} : nxE x y z u v t = true ↔ ∃ a b : Int, a < b ∧ hasB x y z a b = true ∧ hasB u v t a b = true := by
  have one : ∀ p q : Int, (∃ a b : Int, a < b ∧ ed3 p q a b = true ∧ hasB u v t a b = true) ↔ (p ≠ q ∧ hasB u v t p q = true) := fun p q => by
    constructor
    · rintro ⟨a, b, h1, h2, h3⟩
      rw [ed3_iff] at h2
      obtain ⟨n, ⟨rfl, rfl⟩ | ⟨rfl, rfl⟩⟩ := h2
      · exact ⟨n, h3⟩
      · exact ⟨n, by rw [hasB_swap]; exact h3⟩
    · rintro ⟨n, h⟩
      by_cases q' : p < q
      · exact ⟨p, q, q', ed3_yes n (.inl ⟨rfl, rfl⟩), h⟩
      · exact ⟨q, p, by omega, ed3_yes n (.inr ⟨rfl, rfl⟩), by rw [hasB_swap]; exact h⟩
  have e : nxE x y z u v t = true ↔ (x ≠ y ∧ hasB u v t x y = true) ∨ (y ≠ z ∧ hasB u v t y z = true) ∨ (z ≠ x ∧ hasB u v t z x = true) := by
    unfold nxE
    simp only [Bool.or_eq_true, Bool.and_eq_true, bne_iff_ne]
  rw [e, ← one, ← one, ← one]
  constructor
  · rintro (⟨a, b, h1, h2, h3⟩ | ⟨a, b, h1, h2, h3⟩ | ⟨a, b, h1, h2, h3⟩)
    · exact ⟨a, b, h1, hasB_iff.2 (.inl h2), h3⟩
    · exact ⟨a, b, h1, hasB_iff.2 (.inr (.inl h2)), h3⟩
    · exact ⟨a, b, h1, hasB_iff.2 (.inr (.inr h2)), h3⟩
  · rintro ⟨a, b, h1, h2, h3⟩
    rcases hasB_iff.1 h2 with h2 | h2 | h2
    · exact .inl ⟨a, b, h1, h2, h3⟩
    · exact .inr (.inl ⟨a, b, h1, h2, h3⟩)
    · exact .inr (.inr ⟨a, b, h1, h2, h3⟩)
/-- The triangles that have one of some edges, edge by edge. -/
def ctL (F : Nat → Nat → Int) (n : Nat) (L : List (Int × Int)) : Nat → List Int
  | 0 => []
  | j + 1 => ctL F n L j ++ ownS F n (L.getD j (0, 0)).1 (L.getD j (0, 0)).2
theorem ct_mem {F : Nat → Nat → Int} {n : Nat} {L : List (Int × Int)} {x : Int} : ∀ j, j ≤ L.length → (x ∈ ctL F n L j ↔ ∃ p, p ∈ L.take j ∧ x ∈ ownS F n p.1 p.2)
  | 0, _ => by simp [ctL]
  | j + 1, h => by
    have hj : j < L.length := h
    have e : L.getD j (0, 0) = L[j] := by rw [List.getD_eq_getElem?_getD, List.getElem?_eq_getElem hj]; rfl
    have ht : L.take (j + 1) = L.take j ++ [L[j]] := by rw [List.take_add_one, List.getElem?_eq_getElem hj]; rfl
    show x ∈ ctL F n L j ++ ownS F n (L.getD j (0, 0)).1 (L.getD j (0, 0)).2 ↔ _
    rw [e, ht, List.mem_append, ct_mem j (Nat.le_of_lt hj)]
    constructor
    · rintro (⟨p, h1, h2⟩ | h2)
      · exact ⟨p, List.mem_append.2 (.inl h1), h2⟩
      · exact ⟨_, List.mem_append.2 (.inr (List.mem_singleton.2 rfl)), h2⟩
    · rintro ⟨p, h1, h2⟩
      rcases List.mem_append.1 h1 with h1 | h1
      · exact .inl ⟨p, h1, h2⟩
      · rw [List.mem_singleton.1 h1] at h2; exact .inr h2
theorem ct_len {F : Nat → Nat → Int} {n : Nat} {L : List (Int × Int)} : ∀ j, (ctL F n L j).length ≤ j * n
  | 0 => by simp [ctL]
  | j + 1 => by
    have := ct_len (F := F) (n := n) (L := L) j
    have z : ∀ a c, (ownS F n a c).length ≤ n := fun a c => by
      unfold ownS
      split
      · exact thL_len F a c n
      · simp
    have := z (L.getD j (0, 0)).1 (L.getD j (0, 0)).2
    show (ctL F n L j ++ ownS F n (L.getD j (0, 0)).1 (L.getD j (0, 0)).2).length ≤ _
    rw [List.length_append, Nat.add_mul]
    omega
theorem ct_next {F : Nat → Nat → Int} {n i : Nat} : (Lib.compact ((ctL F n (sdL (F i 0) (F i 3) (F i 6)) (sdL (F i 0) (F i 3) (F i 6)).length).mergeSort fun x y => decide (x ≤ y))).filter (fun k => !(k == (i : Int))) = nxL F i n := by
  obtain ⟨h1, h2⟩ := compact_sorted (ctL F n (sdL (F i 0) (F i 3) (F i 6)) (sdL (F i 0) (F i 3) (F i 6)).length)
  refine rise_one (h2.filter _) (nx_rise F i n) fun x => ?_
  rw [List.mem_filter, h1, ct_mem _ (Nat.le_refl _), List.take_of_length_le (Nat.le_refl _), nx_mem]
  constructor
  · rintro ⟨⟨p, hp, hx⟩, hne⟩
    have hp' := sdL_mem.1 hp
    unfold ownS at hx
    rw [if_pos hp'.1] at hx
    obtain ⟨k, hk, e, hh⟩ := th_mem.1 hx
    refine ⟨k, hk, e, ?_⟩
    have ne : ¬ i = k := fun q => by
      rw [e, q] at hne; simp at hne
    rw [nxB_other ne]
    exact nxE_edge.2 ⟨p.1, p.2, hp'.1, hp'.2, hh⟩
  · rintro ⟨k, hk, e, hh⟩
    have ne : ¬ i = k := fun q => by
      rw [q, nxB_same] at hh; cases hh
    rw [nxB_other ne] at hh
    obtain ⟨a, b, h3, h4, h5⟩ := nxE_edge.1 hh
    refine ⟨⟨(a, b), sdL_mem.2 ⟨h3, h4⟩, ?_⟩, ?_⟩
    · unfold ownS
      rw [if_pos h3]
      exact th_mem.2 ⟨k, hk, e, h5⟩
    · rw [e]
      simp
      omega
end Go.Proofs.Ytkheomaihhcokaa
