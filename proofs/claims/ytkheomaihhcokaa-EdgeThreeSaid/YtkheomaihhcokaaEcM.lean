/-
  Rows of edges as the library sorts them; which edges there are.
-/
import Derived.Test.YtkheomaihhcokaaEcL
namespace Go.Proofs.Ytkheomaihhcokaa
open Go.RowKit Go.Sort

def kA : Value → Int × Int
  | .agg cs => match cs.toList with
    | [.int _ a, .int _ c] => (a, c)
    | _ => (0, 0)
  | _ => (0, 0)
theorem kA_key (a c : Int) : kA (keyV a c) = (a, c) := rfl
def slP : Value → Option Addr × Nat × Nat
  | .slice p n c => (p, n, c)
  | _ => (none, 0, 0)
def toSd (e : MapEntry) : SdE := ((kA e.key).1, (kA e.key).2, slP e.val)
theorem encE_len (x : SdE) : (encE x).length = 3 := rfl
theorem encE_one : ∀ x : SdE, ∀ v ∈ encE x, v.oneCell' = true := fun x v hv => by
  unfold encE at hv
  simp only [List.mem_cons, List.not_mem_nil, or_false] at hv
  rcases hv with rfl | rfl | rfl <;> rfl
theorem flat_list : ∀ (D : List SdE) (t : Nat), t < D.length * 3 → (D.flatMap encE)[t]? = some ((encE (D.toArray[t / 3]!))[t % 3]!)
  | [], t, h => absurd h (by simp)
  | x :: D, t, h => by
    by_cases ht : t < 3
    · have e1 : t / 3 = 0 := by omega
      have e2 : t % 3 = t := by omega
      rw [List.flatMap_cons, List.getElem?_append_left (by rw [encE_len]; exact ht), e1, e2]
      have e3 : (x :: D).toArray[0]! = x := by simp
      rw [e3, List.getElem?_eq_getElem (by rw [encE_len]; exact ht), getElem!_pos (encE x) t (by rw [encE_len]; exact ht)]
    · obtain ⟨s, rfl⟩ : ∃ s, t = s + 3 := ⟨t - 3, by omega⟩
      rw [List.flatMap_cons, List.getElem?_append_right (by rw [encE_len]; omega), encE_len, Nat.add_sub_cancel, show (s + 3) / 3 = s / 3 + 1 from by omega, show (s + 3) % 3 = s % 3 from by omega]
      have hs : s < D.length * 3 := by simp at h; omega
      rw [flat_list D s hs]
      have e3 : (x :: D).toArray[s / 3 + 1]! = D.toArray[s / 3]! := by
        have q : s / 3 < D.length := by omega
        rw [getElem!_pos _ _ (by simpa using q), getElem!_pos _ _ (by simpa using q)]
        simp
      rw [e3]
theorem flat_eq (D : List SdE) : (flatK encE 3 D.toArray).toList = D.flatMap encE := by
  apply List.ext_getElem?
  intro t
  by_cases h : t < D.length * 3
  · rw [flat_list D t h, Array.getElem?_toList]
    have h2 : t < (flatK encE 3 D.toArray).size := by simpa using h
    rw [Array.getElem?_eq_getElem h2, ← getElem!_pos _ t h2, get_flatK _ _ _ t (by simpa using h)]
  · have l : (D.flatMap encE).length = D.length * 3 := by
      clear h
      induction D with
      | nil => rfl
      | cons x D ih => rw [List.flatMap_cons, List.length_append, ih, encE_len]; simp; omega
    rw [List.getElem?_eq_none (by simp; omega), List.getElem?_eq_none (by omega)]
theorem flat_length (D : List SdE) : (D.flatMap encE).length = D.length * 3 := by rw [← flat_eq]; simp
theorem holds_flat {w : World} {base g cap : Nat} {D : List SdE} (h : w.ownsRow base 39 3 (.slice (some ⟨g, 0, none⟩) D.length cap) D.length (D.flatMap encE)) : HoldsK encE 3 w g 0 D.toArray := by
  obtain ⟨h1, ⟨hv, _⟩ | ⟨g', cap', cur, hv, hg, hh, hn, hm, hs, ht⟩⟩ := h
  · cases hv
  · cases hv
    intro j hj
    have hj' : j < D.length * 3 := by simpa using hj
    have e : cur.toList[j]? = (D.flatMap encE)[j]? := by rw [← ht, List.getElem?_take_of_lt hj']
    rw [flat_list D j hj'] at e
    refine ⟨?_, by simp [World.frozen?, hh]⟩
    rw [get_flatK _ _ _ j (by simpa using hj'), Nat.zero_add]
    simp only [World.cell?, hh]
    simp only [Option.isSome_none, Bool.false_eq_true, if_false]
    rw [← Array.getElem?_toList, e]; rfl
theorem heap_putA {w : World} {g n : Nat} {os : Array Obj} {cur : Array Value} {e : TypeId} {fr : Nat × Nat} (d : Array Value) (hb : w.heap[g]? = some (.cells cur e fr)) :
    (grow (putRow id (Sort.ahead w n) g 0 d) os).heap[g]? = some (.cells (putCells id 0 d cur) e fr) := by
  have hg : g < w.heap.size := (Array.getElem?_eq_some_iff.1 hb).1
  rw [heap_grow_old _ _ (by simpa using hg)]
  simp [putRow, mapBlock, Sort.ahead, Array.getElem?_modify, hb, onCells]
theorem grown_putA {w : World} {g n : Nat} {os : Array Obj} (d : Array Value) : w.grownBy (grow (putRow id (Sort.ahead w n) g 0 d) os) (some g) := by
  refine ⟨rfl, rfl, rfl, by simp, fun k hk hne => ?_⟩
  rw [heap_grow_old _ _ (by simpa using hk)]
  have : g ≠ k := fun e => hne (by rw [e])
  simp [putRow, mapBlock, Sort.ahead, Array.getElem?_modify, this]
theorem take_putA (cur : Array Value) (ts : Array Value) (k : Nat) (hk : k = ts.size) (h : ts.size ≤ cur.size) : (putCells id 0 ts cur).toList.take k = ts.toList := by
  subst hk
  apply List.ext_getElem?
  intro j
  by_cases hj : j < ts.size
  · have h2 : j < cur.size := by omega
    rw [List.getElem?_take_of_lt hj, Array.getElem?_toList, Array.getElem?_toList]
    simp [putCells, hj, h2]
  · rw [List.getElem?_take_eq_none (by omega), List.getElem?_eq_none (by simp; omega)]
/-- Behind the sort the row holds the same edges, in another order. -/
theorem own_sorted {w : World} {base g cap n : Nat} {os : Array Obj} {D E : List SdE} (h : w.ownsRow base 39 3 (.slice (some ⟨g, 0, none⟩) D.length cap) D.length (D.flatMap encE)) (hl : E.length = D.length) :
    (sortWorldK encE 3 w g 0 n E.toArray os).ownsRow base 39 3 (.slice (some ⟨g, 0, none⟩) E.length cap) E.length (E.flatMap encE) := by
  obtain ⟨h1, ⟨hv, _⟩ | ⟨g', cap', cur, hv, hg, hh, hn, hm, hs, ht⟩⟩ := h
  · cases hv
  · cases hv
    refine ⟨flat_length E, .inr ⟨g, cap, _, rfl, hg, heap_putA _ hh, by omega, hm, by simp [putCells, hs], ?_⟩⟩
    rw [← flat_eq]
    exact take_putA cur _ _ (by simp) (by simp; omega)
/-- Strictly rising rows of the same edges are one. -/
theorem eLt_irrefl (x : Int × Int × List Int) : ¬ eLt x x := fun h => by unfold eLt at h; omega
theorem eLt_asymm {x y : Int × Int × List Int} (h : eLt x y) (k : eLt y x) : False := by unfold eLt at h k; omega
theorem rise_edges : ∀ {l m : List (Int × Int × List Int)}, l.Pairwise eLt → m.Pairwise eLt → (∀ x, x ∈ l ↔ x ∈ m) → l = m
  | [], [], _, _, _ => rfl
  | [], b :: m, _, _, h => absurd ((h b).2 (List.mem_cons_self ..)) (by simp)
  | a :: l, [], _, _, h => absurd ((h a).1 (List.mem_cons_self ..)) (by simp)
  | a :: l, b :: m, p, q, h => by
    obtain ⟨p1, p2⟩ := List.pairwise_cons.1 p
    obtain ⟨q1, q2⟩ := List.pairwise_cons.1 q
    have e : a = b := by
      rcases List.mem_cons.1 ((h a).1 (List.mem_cons_self ..)) with e | e
      · exact e
      · rcases List.mem_cons.1 ((h b).2 (List.mem_cons_self ..)) with f | f
        · exact f.symm
        · exact (eLt_asymm (q1 a e) (p1 b f)).elim
    subst e
    congr 1
    refine rise_edges p2 q2 fun x => ⟨fun hx => ?_, fun hx => ?_⟩
    · rcases List.mem_cons.1 ((h x).1 (List.mem_cons_of_mem _ hx)) with e | e
      · have := p1 x hx; rw [e] at this; exact (eLt_irrefl _ this).elim
      · exact e
    · rcases List.mem_cons.1 ((h x).2 (List.mem_cons_of_mem _ hx)) with e | e
      · have := q1 x hx; rw [e] at this; exact (eLt_irrefl _ this).elim
      · exact e
/-- The edge that an entry tells. -/
def edS (S : Int → Int → List Int) (x : SdE) : Int × Int × List Int := (x.1, x.2.1, S x.1 x.2.1)
def edZ (S : Int → Int → List Int) (x : SdE) : EdZ := (x.1, x.2.1, S x.1 x.2.1, .slice x.2.2.1 x.2.2.2.1 x.2.2.2.2)
theorem cells_edZ (S : Int → Int → List Int) (D : List SdE) : cellsE (D.map (edZ S)) = D.flatMap encE := by
  unfold cellsE
  rw [List.flatMap_map]; rfl
theorem sorted_rise {S : Int → Int → List Int} {E : List SdE} (hk : (E.map fun x => (x.1, x.2.1)).Nodup) (hs : SortedIn (ltOf cfE) 0 E.toArray.size E.toArray) : (E.map (edS S)).Pairwise eLt := by
  rw [List.pairwise_map]
  rw [List.pairwise_iff_getElem]
  intro i j hi hj hij
  have z := hs i j (Nat.zero_le _) hij (by simpa using hj)
  rw [getElem!_pos _ i (by simpa using hi), getElem!_pos _ j (by simpa using hj), cfE_lt] at z
  simp only [List.getElem_toArray, decide_eq_false_iff_not] at z
  have ne : ¬ (E[i].1 = E[j].1 ∧ E[i].2.1 = E[j].2.1) := fun q => by
    have b1 : (E.map fun x => (x.1, x.2.1))[i]'(by simpa using hi) = (E.map fun x => (x.1, x.2.1))[j]'(by simpa using hj) := by simp [q.1, q.2]
    have := (List.getElem_inj hk).1 b1
    omega
  unfold eLt edS
  simp only
  omega
theorem edges_all {F : Nat → Nat → Int} {n m : Nat} {E : List SdE} (hF : ∀ i, i < n → ∀ j, j = 0 ∨ j = 3 ∨ j = 6 → 0 ≤ F i j ∧ F i j < (m : Int)) (hr : (E.map (edS (ownS F n))).Pairwise eLt)
    (h1 : ∀ x ∈ E, ownS F n x.1 x.2.1 ≠ []) (h2 : ∀ a c, ownS F n a c ≠ [] → ∃ x ∈ E, x.1 = a ∧ x.2.1 = c) : E.map (edS (ownS F n)) = eaL F n m m := by
  refine rise_edges hr (ea_rise F n m m) fun e => ?_
  rw [ea_iff, List.mem_map]
  constructor
  · rintro ⟨x, hx, rfl⟩
    have z := h1 x hx
    unfold edS
    unfold ownS at z ⊢
    by_cases q : x.1 < x.2.1
    · rw [if_pos q] at z ⊢
      obtain ⟨y, hy⟩ := List.exists_mem_of_ne_nil _ z
      obtain ⟨k, hk, e, hh⟩ := th_mem.1 hy
      have b := sdL_ok (m := (m : Int)) (p := (x.1, x.2.1)) (sdL_mem.2 ⟨q, hh⟩) (hF k hk 0 (.inl rfl)) (hF k hk 3 (.inr (.inl rfl))) (hF k hk 6 (.inr (.inr rfl)))
      obtain ⟨⟨b1, b2⟩, b3, b4⟩ := b
      simp only at b1 b2 b3 b4
      obtain ⟨A, hA⟩ : ∃ A : Nat, x.1 = (A : Int) := ⟨x.1.toNat, by omega⟩
      obtain ⟨B, hB⟩ : ∃ B : Nat, x.2.1 = (B : Int) := ⟨x.2.1.toNat, by omega⟩
      refine ⟨A, B, by omega, by omega, by rw [← hA, ← hB], ?_⟩
      rw [← hA, ← hB]
      exact fun q => z (List.eq_nil_of_length_eq_zero q)
    · rw [if_neg q] at z; exact absurd rfl z
  · rintro ⟨A, B, hab, hb, rfl, hne⟩
    have q : (A : Int) < (B : Int) := by omega
    have z : ownS F n A B ≠ [] := fun e => hne (by unfold ownS at e; rw [if_pos q] at e; rw [e]; rfl)
    obtain ⟨x, hx, e1, e2⟩ := h2 A B z
    refine ⟨x, hx, ?_⟩
    unfold edS
    rw [e1, e2]
    unfold ownS
    rw [if_pos q]
end Go.Proofs.Ytkheomaihhcokaa
