/-
  Parts of triangles: the reference's rounds end with the least place of each one's part. No program.
-/
import Derived.Test.YtkheomaihhcokaaEgR
namespace Go.Proofs.Ytkheomaihhcokaa

theorem upL_get : ∀ (n j : Nat), j < n → (upL n).getD j 0 = (j : Int)
  | k + 1, j, h => by
    show (upL k ++ [(k : Int)]).getD j 0 = _
    rw [List.getD_eq_getElem?_getD]
    by_cases e : j < k
    · rw [List.getElem?_append_left (by rw [upL_len]; exact e), ← List.getD_eq_getElem?_getD]
      exact upL_get k j e
    · obtain rfl : j = k := by omega
      rw [List.getElem?_append_right (by rw [upL_len]; omega), upL_len, Nat.sub_self]
      rfl
/-- Each place is told a place of its own part, its own at most. -/
def ptG (F : Nat → Nat → Int) (n : Nat) (L : List Int) : Prop := L.length = n ∧ ∀ j, j < n → ∃ m : Nat, L.getD j 0 = (m : Int) ∧ m ≤ j ∧ cnP F n m j
/-- Nowhere more than before. -/
def ptD (n : Nat) (M L : List Int) : Prop := ∀ j, j < n → M.getD j 0 ≤ L.getD j 0
theorem ptD_refl (n : Nat) (L : List Int) : ptD n L L := fun _ _ => Int.le_refl _
theorem ptD_trans {n : Nat} {N M L : List Int} (h : ptD n N M) (k : ptD n M L) : ptD n N L := fun j hj => Int.le_trans (h j hj) (k j hj)
theorem ptS_get (F : Nat → Nat → Int) (i k j : Nat) (L : List Int) (hi : i < L.length) : (ptS F i k L).getD j 0 = if L.getD k 0 < L.getD i 0 ∧ nxB F i k = true ∧ j = i then L.getD k 0 else L.getD j 0 := by
  unfold ptS
  by_cases h : L.getD k 0 < L.getD i 0 ∧ nxB F i k = true
  · rw [if_pos h, List.getD_eq_getElem?_getD]
    by_cases e : j = i
    · subst e
      rw [if_pos ⟨h.1, h.2, rfl⟩, List.getElem?_set_self hi]
      rfl
    · rw [if_neg (fun x => e x.2.2), List.getElem?_set_ne (fun x => e x.symm), ← List.getD_eq_getElem?_getD]
  · rw [if_neg h, if_neg (fun x => h ⟨x.1, x.2.1⟩)]
theorem ptS_good {F : Nat → Nat → Int} {n i k : Nat} {L : List Int} (hi : i < n) (hk : k < n) (h : ptG F n L) : ptG F n (ptS F i k L) := by
  refine ⟨(ptS_len F i k L).trans h.1, fun j hj => ?_⟩
  rw [ptS_get F i k j L (by rw [h.1]; exact hi)]
  by_cases e : L.getD k 0 < L.getD i 0 ∧ nxB F i k = true ∧ j = i
  · rw [if_pos e]
    obtain ⟨e1, e2, rfl⟩ := e
    obtain ⟨m, p, q, r⟩ := h.2 k hk
    obtain ⟨m', p', q', _⟩ := h.2 j hj
    refine ⟨m, p, by omega, cn_step (by omega) hk hj r (by rw [nxB_symm]; exact e2)⟩
  · rw [if_neg e]
    exact h.2 j hj
theorem ptS_down {F : Nat → Nat → Int} {n i k : Nat} {L : List Int} (hi : i < n) (h : L.length = n) : ptD n (ptS F i k L) L := by
  intro j hj
  rw [ptS_get F i k j L (by omega)]
  split
  · next e => rw [e.2.2]; omega
  · exact Int.le_refl _
theorem ptS_other {F : Nat → Nat → Int} {i k j : Nat} {L : List Int} (hi : i < L.length) (hj : ¬ j = i) : (ptS F i k L).getD j 0 = L.getD j 0 := by
  rw [ptS_get F i k j L hi, if_neg (fun x => hj x.2.2)]
theorem ptK_good {F : Nat → Nat → Int} {n i : Nat} {L : List Int} (hi : i < n) (h : ptG F n L) : ∀ k, k ≤ n → ptG F n (ptK F i L k)
  | 0, _ => h
  | k + 1, hk => ptS_good hi (by omega) (ptK_good hi h k (by omega))
theorem ptK_down {F : Nat → Nat → Int} {n i : Nat} {L : List Int} (hi : i < n) (h : L.length = n) : ∀ k, ptD n (ptK F i L k) L
  | 0 => ptD_refl n L
  | k + 1 => ptD_trans (ptS_down hi (by rw [ptK_len]; exact h)) (ptK_down hi h k)
theorem ptK_other {F : Nat → Nat → Int} {n i j : Nat} {L : List Int} (hi : i < n) (h : L.length = n) (hj : ¬ j = i) : ∀ k, (ptK F i L k).getD j 0 = L.getD j 0
  | 0 => rfl
  | k + 1 => by
    show (ptS F i k (ptK F i L k)).getD j 0 = _
    rw [ptS_other (by rw [ptK_len]; omega) hj]
    exact ptK_other hi h hj k
theorem ptK_near {F : Nat → Nat → Int} {n i : Nat} {L : List Int} (hi : i < n) (h : L.length = n) : ∀ k q, q < k → nxB F i q = true → (ptK F i L k).getD i 0 ≤ L.getD q 0
  | k + 1, q, hq, e => by
    show (ptS F i k (ptK F i L k)).getD i 0 ≤ _
    have hl : i < (ptK F i L k).length := by rw [ptK_len]; omega
    by_cases s : q = k
    · subst s
      have ne : ¬ q = i := fun x => by rw [x, nxB_same] at e; cases e
      have o := ptK_other (F := F) hi h ne q
      rw [ptS_get F i q i _ hl]
      split
      · exact Int.le_of_eq o
      · next x =>
        have : ¬ (ptK F i L q).getD q 0 < (ptK F i L q).getD i 0 := fun y => x ⟨y, e, rfl⟩
        omega
    · have p := ptK_near hi h k q (by omega) e
      have d := ptS_down (F := F) (k := k) hi ((ptK_len F i L k).trans h) i hi
      omega
theorem ptI_good {F : Nat → Nat → Int} {n : Nat} {L : List Int} (h : ptG F n L) : ∀ i, i ≤ n → ptG F n (ptI F n L i)
  | 0, _ => h
  | i + 1, hi => ptK_good (by omega) (ptI_good h i (by omega)) n (Nat.le_refl n)
theorem ptI_down {F : Nat → Nat → Int} {n : Nat} {L : List Int} (h : L.length = n) : ∀ i, i ≤ n → ptD n (ptI F n L i) L
  | 0, _ => ptD_refl n L
  | i + 1, hi => ptD_trans (ptK_down (by omega) (by rw [ptI_len]; exact h) n) (ptI_down h i (by omega))
theorem ptI_near {F : Nat → Nat → Int} {n : Nat} {L : List Int} (h : L.length = n) : ∀ i, i ≤ n → ∀ j q, j < i → q < n → nxB F j q = true → (ptI F n L i).getD j 0 ≤ L.getD q 0
  | i + 1, hi, j, q, hj, hq, e => by
    show (ptK F i (ptI F n L i) n).getD j 0 ≤ _
    have hl : (ptI F n L i).length = n := (ptI_len F n L i).trans h
    by_cases s : j = i
    · subst s
      have p := ptK_near (F := F) (i := j) (by omega) hl n q hq e
      have d := ptI_down (F := F) h j (by omega) q hq
      omega
    · rw [ptK_other (F := F) (n := n) (by omega) hl s n]
      exact ptI_near h i (by omega) j q (by omega) hq e
theorem ptR_good (F : Nat → Nat → Int) (n : Nat) : ∀ r, ptG F n (ptR F n r)
  | 0 => ⟨upL_len n, fun j hj => ⟨j, upL_get n j hj, Nat.le_refl j, cn_self F n j⟩⟩
  | r + 1 => ptI_good (ptR_good F n r) n (Nat.le_refl n)
theorem ptR_reach {F : Nat → Nat → Int} {n i : Nat} : ∀ r j, j < n → wtP F n i r j = true → (ptR F n r).getD j 0 ≤ (i : Int)
  | 0, j, hj, e => by
    have : i = j := beq_iff_eq.1 (show (i == j) = true from e)
    subst this
    exact Int.le_of_eq (upL_get n i hj)
  | r + 1, j, hj, e => by
    show (ptI F n (ptR F n r) n).getD j 0 ≤ _
    rcases wt_cases e with e | ⟨k, hk, e1, e2⟩
    · exact Int.le_trans (ptI_down (ptR_len F n r) n (Nat.le_refl n) j hj) (ptR_reach r j hj e)
    · exact Int.le_trans (ptI_near (ptR_len F n r) n (Nat.le_refl n) j k hj hk (by rw [nxB_symm]; exact e2)) (ptR_reach r k hk e1)
/-- What the rounds end with: the least place of the part. -/
theorem pt_least {F : Nat → Nat → Int} {n j : Nat} (hj : j < n) : ∃ m : Nat, (ptR F n n).getD j 0 = (m : Int) ∧ m ≤ j ∧ cnP F n m j ∧ ∀ i, i < n → cnP F n i j → m ≤ i := by
  obtain ⟨m, p, q, r⟩ := (ptR_good F n n).2 j hj
  refine ⟨m, p, q, r, fun i _ c => ?_⟩
  have := ptR_reach (F := F) (i := i) n j hj c
  omega
/-- Any two of one part are told alike, and only those. -/
theorem pt_same {F : Nat → Nat → Int} {n i j : Nat} (hi : i < n) (hj : j < n) (h : cnP F n i j) : (ptR F n n).getD i 0 = (ptR F n n).getD j 0 := by
  obtain ⟨m, p, q, r, s⟩ := pt_least (F := F) hi
  obtain ⟨m', p', q', r', s'⟩ := pt_least (F := F) hj
  have a := s' m (by omega) (cn_join (by omega) hi hj r h)
  have b := s m' (by omega) (cn_join (by omega) hj hi r' (cn_comm hi hj h))
  omega
theorem pt_tells {F : Nat → Nat → Int} {n i j : Nat} (hi : i < n) (hj : j < n) (h : (ptR F n n).getD i 0 = (ptR F n n).getD j 0) : cnP F n i j := by
  obtain ⟨m, p, q, r, s⟩ := pt_least (F := F) hi
  obtain ⟨m', p', q', r', s'⟩ := pt_least (F := F) hj
  have e : m = m' := by omega
  subst e
  exact cn_join hi (by omega) hj (cn_comm (by omega) hi r) r'
theorem pt_next {F : Nat → Nat → Int} {n i j : Nat} (hi : i < n) (hj : j < n) (h : nxB F i j = true) : (ptR F n n).getD i 0 = (ptR F n n).getD j 0 := pt_same hi hj (cn_step hi hi hj (cn_self F n i) h)
/-- A part's least place is its own. -/
theorem pt_own {F : Nat → Nat → Int} {n i m : Nat} (hi : i < n) (h : (ptR F n n).getD i 0 = (m : Int)) : m ≤ i ∧ (ptR F n n).getD m 0 = (m : Int) := by
  obtain ⟨m', p, q, r, s⟩ := pt_least (F := F) hi
  have e : m' = m := by omega
  subst e
  exact ⟨q, (pt_same (by omega) hi r).trans h⟩
theorem wt_wider {F G : Nat → Nat → Int} {n i : Nat} (h : ∀ a b, a < n → b < n → nxB G a b = nxB F a b) (hi : i < n) : ∀ r j, j < n → wtP F n i r j = true → wtP G (n + 1) i r j = true
  | 0, _, _, e => e
  | r + 1, j, hj, e => by
    rcases wt_cases e with e | ⟨k, hk, e1, e2⟩
    · exact wt_mono (wt_wider h hi r j hj e)
    · exact wt_step (wt_wider h hi r k hk e1) (by omega) ((h k j hk hj).trans e2)
/-- One triangle more parts nothing. -/
theorem pt_more {F G : Nat → Nat → Int} {n i j : Nat} (h : ∀ a b, a < n → b < n → nxB G a b = nxB F a b) (hi : i < n) (hj : j < n) (e : (ptR F n n).getD i 0 = (ptR F n n).getD j 0) : (ptR G (n + 1) (n + 1)).getD i 0 = (ptR G (n + 1) (n + 1)).getD j 0 :=
  pt_same (by omega) (by omega) (wt_all (by omega) n j (by omega) (wt_wider h hi n j hj (pt_tells hi hj e)))
end Go.Proofs.Ytkheomaihhcokaa
