/-
  Parts of triangles that are next to one another: what the reference's rounds come to: the least place that is reached. No program.
-/
import Derived.Test.YtkheomaihhcokaaEgD
namespace Go.Proofs.Ytkheomaihhcokaa

/-- Two sides are one edge. -/
def spP (x y u v : Int) : Prop := ¬ x = y ∧ ¬ u = v ∧ (u = x ∧ v = y ∨ u = y ∧ v = x)
theorem spP_comm (x y u v : Int) : spP x y u v ↔ spP u v x y := by unfold spP; omega
theorem sp_ed (p q r s : Int) : (p ≠ q ∧ ed3 r s p q = true) ↔ spP p q r s := by rw [ed3_iff]; unfold spP; omega
theorem nxE_iff {x y z u v w : Int} : nxE x y z u v w = true ↔ (spP x y u v ∨ spP x y v w ∨ spP x y w u) ∨ (spP y z u v ∨ spP y z v w ∨ spP y z w u) ∨ (spP z x u v ∨ spP z x v w ∨ spP z x w u) := by
  unfold nxE
  rw [Bool.or_eq_true, Bool.or_eq_true, Bool.and_eq_true, Bool.and_eq_true, Bool.and_eq_true, hasB_iff, hasB_iff, hasB_iff, bne_iff_ne, bne_iff_ne, bne_iff_ne]
  simp only [and_or_left, sp_ed]
theorem nxE_symm (x y z u v w : Int) : nxE x y z u v w = nxE u v w x y z := by
  rw [Bool.eq_iff_iff, nxE_iff, nxE_iff, spP_comm x y u v, spP_comm x y v w, spP_comm x y w u, spP_comm y z u v, spP_comm y z v w, spP_comm y z w u, spP_comm z x u v, spP_comm z x v w, spP_comm z x w u]
  generalize spP u v x y = a1
  generalize spP v w x y = a2
  generalize spP w u x y = a3
  generalize spP u v y z = b1
  generalize spP v w y z = b2
  generalize spP w u y z = b3
  generalize spP u v z x = c1
  generalize spP v w z x = c2
  generalize spP w u z x = c3
  constructor <;> (rintro ((h | h | h) | (h | h | h) | (h | h | h)) <;> simp [h])
theorem nxB_symm (F : Nat → Nat → Int) (i k : Nat) : nxB F i k = nxB F k i := by
  by_cases h : i = k
  · rw [h]
  · rw [nxB_other h, nxB_other (fun e => h e.symm), nxE_symm]

/-- How many are so. -/
def cntB (P : Nat → Bool) : Nat → Nat
  | 0 => 0
  | n + 1 => cntB P n + if P n then 1 else 0
theorem cntB_le (P : Nat → Bool) : ∀ n, cntB P n ≤ n
  | 0 => Nat.le_refl 0
  | n + 1 => by have := cntB_le P n; show cntB P n + _ ≤ _; split <;> omega
theorem cntB_mono {P Q : Nat → Bool} : ∀ n, (∀ j, j < n → P j = true → Q j = true) → cntB P n ≤ cntB Q n
  | 0, _ => Nat.le_refl 0
  | n + 1, h => by
    have p := cntB_mono n (fun j hj => h j (by omega))
    have q := h n (by omega)
    show cntB P n + _ ≤ cntB Q n + _
    by_cases e : P n = true
    · rw [if_pos e, if_pos (q e)]; omega
    · rw [if_neg e]; omega
theorem cntB_lt {P Q : Nat → Bool} : ∀ n, (∀ j, j < n → P j = true → Q j = true) → (∃ j, j < n ∧ Q j = true ∧ ¬ P j = true) → cntB P n < cntB Q n
  | 0, _, ⟨j, h, _⟩ => absurd h (by omega)
  | n + 1, h, ⟨j, hj, hq, hp⟩ => by
    show cntB P n + _ < cntB Q n + _
    by_cases e : j = n
    · subst e
      have p := cntB_mono (P := P) (Q := Q) j (fun i hi => h i (by omega))
      rw [if_neg hp, if_pos hq]; omega
    · have p := cntB_lt n (fun i hi => h i (by omega)) ⟨j, by omega, hq, hp⟩
      have q := h n (by omega)
      by_cases s : P n = true
      · rw [if_pos s, if_pos (q s)]; omega
      · rw [if_neg s]; omega
theorem cntB_pos {P : Nat → Bool} {n j : Nat} (hj : j < n) (h : P j = true) : 1 ≤ cntB P n := by
  have p := cntB_lt (P := fun _ => false) (Q := P) n (fun _ _ h => by cases h) ⟨j, hj, h, by decide⟩
  omega

/-- What is reached in so many steps. -/
def wtP (F : Nat → Nat → Int) (n i : Nat) : Nat → Nat → Bool
  | 0, j => i == j
  | r + 1, j => wtP F n i r j || (List.range n).any (fun k => wtP F n i r k && nxB F k j)
theorem wt_mono {F : Nat → Nat → Int} {n i r j : Nat} (h : wtP F n i r j = true) : wtP F n i (r + 1) j = true := by
  show (wtP F n i r j || _) = true
  rw [h, Bool.true_or]
theorem wt_step {F : Nat → Nat → Int} {n i r j k : Nat} (h : wtP F n i r k = true) (hk : k < n) (e : nxB F k j = true) : wtP F n i (r + 1) j = true := by
  show (_ || (List.range n).any _) = true
  rw [Bool.or_eq_true]
  exact .inr (List.any_eq_true.2 ⟨k, List.mem_range.2 hk, by rw [h, e]; rfl⟩)
theorem wt_cases {F : Nat → Nat → Int} {n i r j : Nat} (h : wtP F n i (r + 1) j = true) : wtP F n i r j = true ∨ ∃ k, k < n ∧ wtP F n i r k = true ∧ nxB F k j = true := by
  have h' : (wtP F n i r j || (List.range n).any (fun k => wtP F n i r k && nxB F k j)) = true := h
  rw [Bool.or_eq_true] at h'
  rcases h' with h | h
  · exact .inl h
  · obtain ⟨k, hk, e⟩ := List.any_eq_true.1 h
    rw [Bool.and_eq_true] at e
    exact .inr ⟨k, List.mem_range.1 hk, e⟩
theorem wt_more {F : Nat → Nat → Int} {n i r j : Nat} (h : wtP F n i r j = true) : ∀ s, wtP F n i (r + s) j = true
  | 0 => h
  | s + 1 => wt_mono (wt_more h s)
theorem wt_still {F : Nat → Nat → Int} {n i s : Nat} (h : ∀ j, j < n → wtP F n i (s + 1) j = true → wtP F n i s j = true) : ∀ t j, j < n → wtP F n i (s + t) j = true → wtP F n i s j = true
  | 0, _, _, e => e
  | t + 1, j, hj, e => by
    rcases wt_cases e with e | ⟨k, hk, e1, e2⟩
    · exact wt_still h t j hj e
    · exact h j hj (wt_step (wt_still h t k hk e1) hk e2)
theorem wt_count {F : Nat → Nat → Int} {n i : Nat} (hi : i < n) : ∀ r, (∀ s, s < r → ∃ j, j < n ∧ wtP F n i (s + 1) j = true ∧ ¬ wtP F n i s j = true) → r + 1 ≤ cntB (wtP F n i r) n
  | 0, _ => cntB_pos hi (by show (i == i) = true; exact beq_self_eq_true i)
  | r + 1, h => by
    have p := wt_count hi r (fun s hs => h s (by omega))
    have q := cntB_lt (P := wtP F n i r) (Q := wtP F n i (r + 1)) n (fun j _ e => wt_mono e) (h r (by omega))
    omega
/-- As many steps as there are triangles reach all that is reached. -/
theorem wt_all {F : Nat → Nat → Int} {n i : Nat} (hi : i < n) (t j : Nat) (hj : j < n) (h : wtP F n i t j = true) : wtP F n i n j = true := by
  have e : ∃ s, s < n ∧ ∀ j, j < n → wtP F n i (s + 1) j = true → wtP F n i s j = true := by
    refine Classical.byContradiction fun no => ?_
    have c := wt_count (F := F) hi n (fun s hs => Classical.byContradiction fun no2 => no ⟨s, hs, fun j hj e => Classical.byContradiction fun ne => no2 ⟨j, hj, e, ne⟩⟩)
    have := cntB_le (wtP F n i n) n
    omega
  obtain ⟨s, hs, st⟩ := e
  have a : wtP F n i (s + t) j = true := by
    have := wt_more h s
    rwa [Nat.add_comm] at this
  have b := wt_still st t j hj a
  have c := wt_more b (n - s)
  rwa [show s + (n - s) = n from by omega] at c
/-- Two triangles are of one part. -/
def cnP (F : Nat → Nat → Int) (n i j : Nat) : Prop := wtP F n i n j = true
theorem cn_self (F : Nat → Nat → Int) (n i : Nat) : cnP F n i i := by
  have := wt_more (F := F) (n := n) (i := i) (r := 0) (j := i) (beq_self_eq_true i) n
  rwa [Nat.zero_add] at this
theorem cn_step {F : Nat → Nat → Int} {n i j k : Nat} (hi : i < n) (hk : k < n) (hj : j < n) (h : cnP F n i k) (e : nxB F k j = true) : cnP F n i j := wt_all hi (n + 1) j hj (wt_step h hk e)
theorem cn_trans {F : Nat → Nat → Int} {n i j : Nat} (hi : i < n) (hj : j < n) (h : cnP F n i j) : ∀ r, ∀ k, k < n → wtP F n j r k = true → cnP F n i k
  | 0, k, _, e => by
    have : j = k := beq_iff_eq.1 (show (j == k) = true from e)
    rw [← this]; exact h
  | r + 1, k, hk, e => by
    rcases wt_cases e with e | ⟨q, hq, e1, e2⟩
    · exact cn_trans hi hj h r k hk e
    · exact cn_step hi hq hk (cn_trans hi hj h r q hq e1) e2
theorem cn_symm {F : Nat → Nat → Int} {n i : Nat} (hi : i < n) : ∀ r j, j < n → wtP F n i r j = true → cnP F n j i
  | 0, j, _, e => by
    have : i = j := beq_iff_eq.1 (show (i == j) = true from e)
    rw [this]; exact cn_self F n j
  | r + 1, j, hj, e => by
    rcases wt_cases e with e | ⟨q, hq, e1, e2⟩
    · exact cn_symm hi r j hj e
    · have a : cnP F n j q := cn_step hj hj hq (cn_self F n j) (by rw [nxB_symm]; exact e2)
      exact cn_trans hj hq a n i hi (cn_symm hi r q hq e1)
theorem cn_comm {F : Nat → Nat → Int} {n i j : Nat} (hi : i < n) (hj : j < n) (h : cnP F n i j) : cnP F n j i := cn_symm hi n j hj h
theorem cn_join {F : Nat → Nat → Int} {n i j k : Nat} (hi : i < n) (hj : j < n) (hk : k < n) (h : cnP F n i j) (e : cnP F n j k) : cnP F n i k := cn_trans hi hj h n k hk e
end Go.Proofs.Ytkheomaihhcokaa
