/-
  Texts in one: EgD, EgR, EgT, EgJ, EgU, EgV, EgW, EgK, EcP, EcQ, EcE, ChU, ChV.
-/
import Derived.Test.YtcnbbanpnoigdaaHh
import Derived.Test.YtcnbbanpnoigdaaHi
import Derived.HandedShaped
import Derived.Test.YtcnbbanpnoigdaaHl
import Derived.Lib.SlicesCompact
/-
  The reference limewashref14: Parts. (gen/EgD.py)
-/
namespace Go.Proofs.Ytcnbbanpnoigdaa
open Go.RowKit

/-- The places themselves. -/
def upL : Nat → List Int
  | 0 => []
  | k + 1 => upL k ++ [(k : Int)]
theorem upL_len : ∀ n, (upL n).length = n
  | 0 => rfl
  | k + 1 => by show (upL k ++ [(k : Int)]).length = _; rw [List.length_append, upL_len k]; rfl
/-- One look at two triangles: the lesser part of two that are next to one another. -/
def ptS (F : Nat → Nat → Int) (i k : Nat) (L : List Int) : List Int := if L.getD k 0 < L.getD i 0 ∧ nxB F i k = true then L.set i (L.getD k 0) else L
def ptK (F : Nat → Nat → Int) (i : Nat) (L : List Int) : Nat → List Int
  | 0 => L
  | k + 1 => ptS F i k (ptK F i L k)
def ptI (F : Nat → Nat → Int) (n : Nat) (L : List Int) : Nat → List Int
  | 0 => L
  | i + 1 => ptK F i (ptI F n L i) n
def ptR (F : Nat → Nat → Int) (n : Nat) : Nat → List Int
  | 0 => upL n
  | r + 1 => ptI F n (ptR F n r) n
theorem ptS_len (F : Nat → Nat → Int) (i k : Nat) (L : List Int) : (ptS F i k L).length = L.length := by
  unfold ptS
  split
  · exact List.length_set
  · rfl
theorem ptK_len (F : Nat → Nat → Int) (i : Nat) (L : List Int) : ∀ k, (ptK F i L k).length = L.length
  | 0 => rfl
  | k + 1 => (ptS_len F i k _).trans (ptK_len F i L k)
theorem ptI_len (F : Nat → Nat → Int) (n : Nat) (L : List Int) : ∀ i, (ptI F n L i).length = L.length
  | 0 => rfl
  | i + 1 => (ptK_len F i _ n).trans (ptI_len F n L i)
theorem ptR_len (F : Nat → Nat → Int) (n : Nat) : ∀ r, (ptR F n r).length = n
  | 0 => upL_len n
  | r + 1 => (ptI_len F n _ n).trans (ptR_len F n r)
/-- The answer of Parts. -/
def ptA (t : Bool) (F : Nat → Nat → Int) (n : Nat) : List Int := if t then ptR F n n else []
end Go.Proofs.Ytcnbbanpnoigdaa
/-
  Parts of triangles that are next to one another: what the reference's rounds come to: the least place that is reached. No program.
-/
namespace Go.Proofs.Ytcnbbanpnoigdaa

/-- Two sides are one edge. -/
def spP (x y u v : Int) : Prop := ¬ x = y ∧ ¬ u = v ∧ (u = x ∧ v = y ∨ u = y ∧ v = x)
theorem spP_comm (x y u v : Int) : spP x y u v ↔ spP u v x y := by unfold spP; omega
theorem sp_ed (p q r s : Int) : (p ≠ q ∧ ed3 r s p q = true) ↔ spP p q r s := by rw [ed3_iff]; unfold spP; omega
theorem nxE_iff {x y z u v w : Int} : nxE x y z u v w = true ↔ (spP x y u v ∨ spP x y v w ∨ spP x y w u) ∨ (spP y z u v ∨ spP y z v w ∨ spP y z w u) ∨ (spP z x u v ∨ spP z x v w ∨ spP z x w u) := by
  unfold nxE
  rw [Bool.or_eq_true, Bool.or_eq_true, Bool.and_eq_true, Bool.and_eq_true, Bool.and_eq_true, hasB_iff, hasB_iff, hasB_iff, bne_iff_ne, bne_iff_ne, bne_iff_ne]
  simp only [and_or_left, sp_ed]
theorem nxE_symm (x y z u v w : Int) : nxE x y z u v w = nxE u v w x y z := by
  rw [Bool.eq_iff_iff, nxE_iff, nxE_iff, spP_comm x y u v, spP_comm x y v w, spP_comm x y w u, spP_comm y z u v, spP_comm y z v w, spP_comm y z w u, spP_comm z x u v, spP_comm z x v w, spP_comm z x w u]
  generalize spP u v x y = a1
  generalize spP v w x y = a2
  generalize spP w u x y = a3
  generalize spP u v y z = b1
  generalize spP v w y z = b2
  generalize spP w u y z = b3
  generalize spP u v z x = c1
  generalize spP v w z x = c2
  generalize spP w u z x = c3
  constructor <;> (rintro ((h | h | h) | (h | h | h) | (h | h | h)) <;> simp [h])
theorem nxB_symm (F : Nat → Nat → Int) (i k : Nat) : nxB F i k = nxB F k i := by
  by_cases h : i = k
  · rw [h]
  · rw [nxB_other h, nxB_other (fun e => h e.symm), nxE_symm]

/-- How many are so. -/
def cntB (P : Nat → Bool) : Nat → Nat
  | 0 => 0
  | n + 1 => cntB P n + if P n then 1 else 0
theorem cntB_le (P : Nat → Bool) : ∀ n, cntB P n ≤ n
  | 0 => Nat.le_refl 0
  | n + 1 => by have := cntB_le P n; show cntB P n + _ ≤ _; split <;> omega
theorem cntB_mono {P Q : Nat → Bool} : ∀ n, (∀ j, j < n → P j = true → Q j = true) → cntB P n ≤ cntB Q n
  | 0, _ => Nat.le_refl 0
  | n + 1, h => by
    have p := cntB_mono n (fun j hj => h j (by omega))
    have q := h n (by omega)
    show cntB P n + _ ≤ cntB Q n + _
    by_cases e : P n = true
    · rw [if_pos e, if_pos (q e)]; omega
    · rw [if_neg e]; omega
theorem cntB_lt {P Q : Nat → Bool} : ∀ n, (∀ j, j < n → P j = true → Q j = true) → (∃ j, j < n ∧ Q j = true ∧ ¬ P j = true) → cntB P n < cntB Q n
  | 0, _, ⟨j, h, _⟩ => absurd h (by omega)
  | n + 1, h, ⟨j, hj, hq, hp⟩ => by
    show cntB P n + _ < cntB Q n + _
    by_cases e : j = n
    · subst e
      have p := cntB_mono (P := P) (Q := Q) j (fun i hi => h i (by omega))
      rw [if_neg hp, if_pos hq]; omega
    · have p := cntB_lt n (fun i hi => h i (by omega)) ⟨j, by omega, hq, hp⟩
      have q := h n (by omega)
      by_cases s : P n = true
      · rw [if_pos s, if_pos (q s)]; omega
      · rw [if_neg s]; omega
theorem cntB_pos {P : Nat → Bool} {n j : Nat} (hj : j < n) (h : P j = true) : 1 ≤ cntB P n := by
  have p := cntB_lt (P := fun _ => false) (Q := P) n (fun _ _ h => by cases h) ⟨j, hj, h, by decide⟩
  omega

/-- What is reached in so many steps. -/
def wtP (F : Nat → Nat → Int) (n i : Nat) : Nat → Nat → Bool
  | 0, j => i == j
  | r + 1, j => wtP F n i r j || (List.range n).any (fun k => wtP F n i r k && nxB F k j)
theorem wt_mono {F : Nat → Nat → Int} {n i r j : Nat} (h : wtP F n i r j = true) : wtP F n i (r + 1) j = true := by
  show (wtP F n i r j || _) = true
  rw [h, Bool.true_or]
theorem wt_step {F : Nat → Nat → Int} {n i r j k : Nat} (h : wtP F n i r k = true) (hk : k < n) (e : nxB F k j = true) : wtP F n i (r + 1) j = true := by
  show (_ || (List.range n).any _) = true
  rw [Bool.or_eq_true]
  exact .inr (List.any_eq_true.2 ⟨k, List.mem_range.2 hk, by rw [h, e]; rfl⟩)
theorem wt_cases {F : Nat → Nat → Int} {n i r j : Nat} (h : wtP F n i (r + 1) j = true) : wtP F n i r j = true ∨ ∃ k, k < n ∧ wtP F n i r k = true ∧ nxB F k j = true := by
  have h' : (wtP F n i r j || (List.range n).any (fun k => wtP F n i r k && nxB F k j)) = true := h
  rw [Bool.or_eq_true] at h'
  rcases h' with h | h
  · exact .inl h
  · obtain ⟨k, hk, e⟩ := List.any_eq_true.1 h
    rw [Bool.and_eq_true] at e
    exact .inr ⟨k, List.mem_range.1 hk, e⟩
theorem wt_more {F : Nat → Nat → Int} {n i r j : Nat} (h : wtP F n i r j = true) : ∀ s, wtP F n i (r + s) j = true
  | 0 => h
  | s + 1 => wt_mono (wt_more h s)
theorem wt_still {F : Nat → Nat → Int} {n i s : Nat} (h : ∀ j, j < n → wtP F n i (s + 1) j = true → wtP F n i s j = true) : ∀ t j, j < n → wtP F n i (s + t) j = true → wtP F n i s j = true
  | 0, _, _, e => e
  | t + 1, j, hj, e => by
    rcases wt_cases e with e | ⟨k, hk, e1, e2⟩
    · exact wt_still h t j hj e
    · exact h j hj (wt_step (wt_still h t k hk e1) hk e2)
theorem wt_count {F : Nat → Nat → Int} {n i : Nat} (hi : i < n) : ∀ r, (∀ s, s < r → ∃ j, j < n ∧ wtP F n i (s + 1) j = true ∧ ¬ wtP F n i s j = true) → r + 1 ≤ cntB (wtP F n i r) n
  | 0, _ => cntB_pos hi (by show (i == i) = true; exact beq_self_eq_true i)
  | r + 1, h => by
    have p := wt_count hi r (fun s hs => h s (by omega))
    have q := cntB_lt (P := wtP F n i r) (Q := wtP F n i (r + 1)) n (fun j _ e => wt_mono e) (h r (by omega))
    omega
/-- As many steps as there are triangles reach all that is reached. -/
theorem wt_all {F : Nat → Nat → Int} {n i : Nat} (hi : i < n) (t j : Nat) (hj : j < n) (h : wtP F n i t j = true) : wtP F n i n j = true := by
  have e : ∃ s, s < n ∧ ∀ j, j < n → wtP F n i (s + 1) j = true → wtP F n i s j = true := by
    refine Classical.byContradiction fun no => ?_
    have c := wt_count (F := F) hi n (fun s hs => Classical.byContradiction fun no2 => no ⟨s, hs, fun j hj e => Classical.byContradiction fun ne => no2 ⟨j, hj, e, ne⟩⟩)
    have := cntB_le (wtP F n i n) n
    omega
  obtain ⟨s, hs, st⟩ := e
  have a : wtP F n i (s + t) j = true := by
    have := wt_more h s
    rwa [Nat.add_comm] at this
  have b := wt_still st t j hj a
  have c := wt_more b (n - s)
  rwa [show s + (n - s) = n from by omega] at c
/-- Two triangles are of one part. -/
def cnP (F : Nat → Nat → Int) (n i j : Nat) : Prop := wtP F n i n j = true
theorem cn_self (F : Nat → Nat → Int) (n i : Nat) : cnP F n i i := by
  have := wt_more (F := F) (n := n) (i := i) (r := 0) (j := i) (beq_self_eq_true i) n
  rwa [Nat.zero_add] at this
theorem cn_step {F : Nat → Nat → Int} {n i j k : Nat} (hi : i < n) (hk : k < n) (hj : j < n) (h : cnP F n i k) (e : nxB F k j = true) : cnP F n i j := wt_all hi (n + 1) j hj (wt_step h hk e)
theorem cn_trans {F : Nat → Nat → Int} {n i j : Nat} (hi : i < n) (hj : j < n) (h : cnP F n i j) : ∀ r, ∀ k, k < n → wtP F n j r k = true → cnP F n i k
  | 0, k, _, e => by
    have : j = k := beq_iff_eq.1 (show (j == k) = true from e)
    rw [← this]; exact h
  | r + 1, k, hk, e => by
    rcases wt_cases e with e | ⟨q, hq, e1, e2⟩
    · exact cn_trans hi hj h r k hk e
    · exact cn_step hi hq hk (cn_trans hi hj h r q hq e1) e2
theorem cn_symm {F : Nat → Nat → Int} {n i : Nat} (hi : i < n) : ∀ r j, j < n → wtP F n i r j = true → cnP F n j i
  | 0, j, _, e => by
    have : i = j := beq_iff_eq.1 (show (i == j) = true from e)
    rw [this]; exact cn_self F n j
  | r + 1, j, hj, e => by
    rcases wt_cases e with e | ⟨q, hq, e1, e2⟩
    · exact cn_symm hi r j hj e
    · have a : cnP F n j q := cn_step hj hj hq (cn_self F n j) (by rw [nxB_symm]; exact e2)
      exact cn_trans hj hq a n i hi (cn_symm hi r q hq e1)
theorem cn_comm {F : Nat → Nat → Int} {n i j : Nat} (hi : i < n) (hj : j < n) (h : cnP F n i j) : cnP F n j i := cn_symm hi n j hj h
theorem cn_join {F : Nat → Nat → Int} {n i j k : Nat} (hi : i < n) (hj : j < n) (hk : k < n) (h : cnP F n i j) (e : cnP F n j k) : cnP F n i k := cn_trans hi hj h n k hk e
end Go.Proofs.Ytcnbbanpnoigdaa
/-
  Parts of triangles: the reference's rounds end with the least place of each one's part. No program.
-/
namespace Go.Proofs.Ytcnbbanpnoigdaa

theorem upL_get : ∀ (n j : Nat), j < n → (upL n).getD j 0 = (j : Int)
  | k + 1, j, h => by
    show (upL k ++ [(k : Int)]).getD j 0 = _
    rw [List.getD_eq_getElem?_getD]
    by_cases e : j < k
    · rw [List.getElem?_append_left (by rw [upL_len]; exact e), ← List.getD_eq_getElem?_getD]
      exact upL_get k j e
    · obtain rfl : j = k := by omega
      rw [List.getElem?_append_right (by rw [upL_len]; omega), upL_len, Nat.sub_self]
      rfl
/-- Each place is told a place of its own part, its own at most. -/
def ptG (F : Nat → Nat → Int) (n : Nat) (L : List Int) : Prop := L.length = n ∧ ∀ j, j < n → ∃ m : Nat, L.getD j 0 = (m : Int) ∧ m ≤ j ∧ cnP F n m j
/-- Nowhere more than before. -/
def ptD (n : Nat) (M L : List Int) : Prop := ∀ j, j < n → M.getD j 0 ≤ L.getD j 0
theorem ptD_refl (n : Nat) (L : List Int) : ptD n L L := fun _ _ => Int.le_refl _
theorem ptD_trans {n : Nat} {N M L : List Int} (h : ptD n N M) (k : ptD n M L) : ptD n N L := fun j hj => Int.le_trans (h j hj) (k j hj)
theorem ptS_get (F : Nat → Nat → Int) (i k j : Nat) (L : List Int) (hi : i < L.length) : (ptS F i k L).getD j 0 = if L.getD k 0 < L.getD i 0 ∧ nxB F i k = true ∧ j = i then L.getD k 0 else L.getD j 0 := by
  unfold ptS
  by_cases h : L.getD k 0 < L.getD i 0 ∧ nxB F i k = true
  · rw [if_pos h, List.getD_eq_getElem?_getD]
    by_cases e : j = i
    · subst e
      rw [if_pos ⟨h.1, h.2, rfl⟩, List.getElem?_set_self hi]
      rfl
    · rw [if_neg (fun x => e x.2.2), List.getElem?_set_ne (fun x => e x.symm), ← List.getD_eq_getElem?_getD]
  · rw [if_neg h, if_neg (fun x => h ⟨x.1, x.2.1⟩)]
theorem ptS_good {F : Nat → Nat → Int} {n i k : Nat} {L : List Int} (hi : i < n) (hk : k < n) (h : ptG F n L) : ptG F n (ptS F i k L) := by
  refine ⟨(ptS_len F i k L).trans h.1, fun j hj => ?_⟩
  rw [ptS_get F i k j L (by rw [h.1]; exact hi)]
  by_cases e : L.getD k 0 < L.getD i 0 ∧ nxB F i k = true ∧ j = i
  · rw [if_pos e]
    obtain ⟨e1, e2, rfl⟩ := e
    obtain ⟨m, p, q, r⟩ := h.2 k hk
    obtain ⟨m', p', q', _⟩ := h.2 j hj
    refine ⟨m, p, by omega, cn_step (by omega) hk hj r (by rw [nxB_symm]; exact e2)⟩
  · rw [if_neg e]
    exact h.2 j hj
theorem ptS_down {F : Nat → Nat → Int} {n i k : Nat} {L : List Int} (hi : i < n) (h : L.length = n) : ptD n (ptS F i k L) L := by
  intro j hj
  rw [ptS_get F i k j L (by omega)]
  split
  · next e => rw [e.2.2]; omega
  · exact Int.le_refl _
theorem ptS_other {F : Nat → Nat → Int} {i k j : Nat} {L : List Int} (hi : i < L.length) (hj : ¬ j = i) : (ptS F i k L).getD j 0 = L.getD j 0 := by
  rw [ptS_get F i k j L hi, if_neg (fun x => hj x.2.2)]
theorem ptK_good {F : Nat → Nat → Int} {n i : Nat} {L : List Int} (hi : i < n) (h : ptG F n L) : ∀ k, k ≤ n → ptG F n (ptK F i L k)
  | 0, _ => h
  | k + 1, hk => ptS_good hi (by omega) (ptK_good hi h k (by omega))
theorem ptK_down {F : Nat → Nat → Int} {n i : Nat} {L : List Int} (hi : i < n) (h : L.length = n) : ∀ k, ptD n (ptK F i L k) L
  | 0 => ptD_refl n L
  | k + 1 => ptD_trans (ptS_down hi (by rw [ptK_len]; exact h)) (ptK_down hi h k)
theorem ptK_other {F : Nat → Nat → Int} {n i j : Nat} {L : List Int} (hi : i < n) (h : L.length = n) (hj : ¬ j = i) : ∀ k, (ptK F i L k).getD j 0 = L.getD j 0
  | 0 => rfl
  | k + 1 => by
    show (ptS F i k (ptK F i L k)).getD j 0 = _
    rw [ptS_other (by rw [ptK_len]; omega) hj]
    exact ptK_other hi h hj k
theorem ptK_near {F : Nat → Nat → Int} {n i : Nat} {L : List Int} (hi : i < n) (h : L.length = n) : ∀ k q, q < k → nxB F i q = true → (ptK F i L k).getD i 0 ≤ L.getD q 0
  | k + 1, q, hq, e => by
    show (ptS F i k (ptK F i L k)).getD i 0 ≤ _
    have hl : i < (ptK F i L k).length := by rw [ptK_len]; omega
    by_cases s : q = k
    · subst s
      have ne : ¬ q = i := fun x => by rw [x, nxB_same] at e; cases e
      have o := ptK_other (F := F) hi h ne q
      rw [ptS_get F i q i _ hl]
      split
      · exact Int.le_of_eq o
      · next x =>
        have : ¬ (ptK F i L q).getD q 0 < (ptK F i L q).getD i 0 := fun y => x ⟨y, e, rfl⟩
        omega
    · have p := ptK_near hi h k q (by omega) e
      have d := ptS_down (F := F) (k := k) hi ((ptK_len F i L k).trans h) i hi
      omega
theorem ptI_good {F : Nat → Nat → Int} {n : Nat} {L : List Int} (h : ptG F n L) : ∀ i, i ≤ n → ptG F n (ptI F n L i)
  | 0, _ => h
  | i + 1, hi => ptK_good (by omega) (ptI_good h i (by omega)) n (Nat.le_refl n)
theorem ptI_down {F : Nat → Nat → Int} {n : Nat} {L : List Int} (h : L.length = n) : ∀ i, i ≤ n → ptD n (ptI F n L i) L
  | 0, _ => ptD_refl n L
  | i + 1, hi => ptD_trans (ptK_down (by omega) (by rw [ptI_len]; exact h) n) (ptI_down h i (by omega))
theorem ptI_near {F : Nat → Nat → Int} {n : Nat} {L : List Int} (h : L.length = n) : ∀ i, i ≤ n → ∀ j q, j < i → q < n → nxB F j q = true → (ptI F n L i).getD j 0 ≤ L.getD q 0
  | i + 1, hi, j, q, hj, hq, e => by
    show (ptK F i (ptI F n L i) n).getD j 0 ≤ _
    have hl : (ptI F n L i).length = n := (ptI_len F n L i).trans h
    by_cases s : j = i
    · subst s
      have p := ptK_near (F := F) (i := j) (by omega) hl n q hq e
      have d := ptI_down (F := F) h j (by omega) q hq
      omega
    · rw [ptK_other (F := F) (n := n) (by omega) hl s n]
      exact ptI_near h i (by omega) j q (by omega) hq e
theorem ptR_good (F : Nat → Nat → Int) (n : Nat) : ∀ r, ptG F n (ptR F n r)
  | 0 => ⟨upL_len n, fun j hj => ⟨j, upL_get n j hj, Nat.le_refl j, cn_self F n j⟩⟩
  | r + 1 => ptI_good (ptR_good F n r) n (Nat.le_refl n)
theorem ptR_reach {F : Nat → Nat → Int} {n i : Nat} : ∀ r j, j < n → wtP F n i r j = true → (ptR F n r).getD j 0 ≤ (i : Int)
  | 0, j, hj, e => by
    have : i = j := beq_iff_eq.1 (show (i == j) = true from e)
    subst this
    exact Int.le_of_eq (upL_get n i hj)
  | r + 1, j, hj, e => by
    show (ptI F n (ptR F n r) n).getD j 0 ≤ _
    rcases wt_cases e with e | ⟨k, hk, e1, e2⟩
    · exact Int.le_trans (ptI_down (ptR_len F n r) n (Nat.le_refl n) j hj) (ptR_reach r j hj e)
    · exact Int.le_trans (ptI_near (ptR_len F n r) n (Nat.le_refl n) j k hj hk (by rw [nxB_symm]; exact e2)) (ptR_reach r k hk e1)
/-- What the rounds end with: the least place of the part. -/
theorem pt_least {F : Nat → Nat → Int} {n j : Nat} (hj : j < n) : ∃ m : Nat, (ptR F n n).getD j 0 = (m : Int) ∧ m ≤ j ∧ cnP F n m j ∧ ∀ i, i < n → cnP F n i j → m ≤ i := by
  obtain ⟨m, p, q, r⟩ := (ptR_good F n n).2 j hj
  refine ⟨m, p, q, r, fun i _ c => ?_⟩
  have := ptR_reach (F := F) (i := i) n j hj c
  omega
/-- Any two of one part are told alike, and only those. -/
theorem pt_same {F : Nat → Nat → Int} {n i j : Nat} (hi : i < n) (hj : j < n) (h : cnP F n i j) : (ptR F n n).getD i 0 = (ptR F n n).getD j 0 := by
  obtain ⟨m, p, q, r, s⟩ := pt_least (F := F) hi
  obtain ⟨m', p', q', r', s'⟩ := pt_least (F := F) hj
  have a := s' m (by omega) (cn_join (by omega) hi hj r h)
  have b := s m' (by omega) (cn_join (by omega) hj hi r' (cn_comm hi hj h))
  omega
theorem pt_tells {F : Nat → Nat → Int} {n i j : Nat} (hi : i < n) (hj : j < n) (h : (ptR F n n).getD i 0 = (ptR F n n).getD j 0) : cnP F n i j := by
  obtain ⟨m, p, q, r, s⟩ := pt_least (F := F) hi
  obtain ⟨m', p', q', r', s'⟩ := pt_least (F := F) hj
  have e : m = m' := by omega
  subst e
  exact cn_join hi (by omega) hj (cn_comm (by omega) hi r) r'
theorem pt_next {F : Nat → Nat → Int} {n i j : Nat} (hi : i < n) (hj : j < n) (h : nxB F i j = true) : (ptR F n n).getD i 0 = (ptR F n n).getD j 0 := pt_same hi hj (cn_step hi hi hj (cn_self F n i) h)
/-- A part's least place is its own. -/
theorem pt_own {F : Nat → Nat → Int} {n i m : Nat} (hi : i < n) (h : (ptR F n n).getD i 0 = (m : Int)) : m ≤ i ∧ (ptR F n n).getD m 0 = (m : Int) := by
  obtain ⟨m', p, q, r, s⟩ := pt_least (F := F) hi
  have e : m' = m := by omega
  subst e
  exact ⟨q, (pt_same (by omega) hi r).trans h⟩
theorem wt_wider {F G : Nat → Nat → Int} {n i : Nat} (h : ∀ a b, a < n → b < n → nxB G a b = nxB F a b) (hi : i < n) : ∀ r j, j < n → wtP F n i r j = true → wtP G (n + 1) i r j = true
  | 0, _, _, e => e
  | r + 1, j, hj, e => by
    rcases wt_cases e with e | ⟨k, hk, e1, e2⟩
    · exact wt_mono (wt_wider h hi r j hj e)
    · exact wt_step (wt_wider h hi r k hk e1) (by omega) ((h k j hk hj).trans e2)
/-- One triangle more parts nothing. -/
theorem pt_more {F G : Nat → Nat → Int} {n i j : Nat} (h : ∀ a b, a < n → b < n → nxB G a b = nxB F a b) (hi : i < n) (hj : j < n) (e : (ptR F n n).getD i 0 = (ptR F n n).getD j 0) : (ptR G (n + 1) (n + 1)).getD i 0 = (ptR G (n + 1) (n + 1)).getD j 0 :=
  pt_same (by omega) (by omega) (wt_all (by omega) n j (by omega) (wt_wider h hi n j hj (pt_tells hi hj e)))
end Go.Proofs.Ytcnbbanpnoigdaa
/-
  The reference limewashref14: Edges. (gen/EgJ.py)
-/
namespace Go.Proofs.Ytcnbbanpnoigdaa
open Go.RowKit

/-- The places of the triangles that have an edge, rising. -/
def thL (F : Nat → Nat → Int) (a b : Int) : Nat → List Int
  | 0 => []
  | k + 1 => thL F a b k ++ (if hasB (F k 0) (F k 3) (F k 6) a b then [(k : Int)] else [])
theorem thL_len (F : Nat → Nat → Int) (a b : Int) : ∀ k, (thL F a b k).length ≤ k
  | 0 => Nat.le_refl 0
  | k + 1 => by
    have := thL_len F a b k
    show (thL F a b k ++ (if hasB (F k 0) (F k 3) (F k 6) a b then [(k : Int)] else [])).length ≤ k + 1
    rw [List.length_append]
    split
    · show _ + 1 ≤ _; omega
    · show _ + 0 ≤ _; omega
/-- The edges whose lesser place is a, up to some greater one; and all edges. -/
def ebL (F : Nat → Nat → Int) (n a : Nat) : Nat → List (Int × Int × List Int)
  | 0 => []
  | j + 1 => ebL F n a j ++ (if (thL F a ((a + 1 + j : Nat) : Int) n).length = 0 then [] else [((a : Int), ((a + 1 + j : Nat) : Int), thL F a ((a + 1 + j : Nat) : Int) n)])
def eaL (F : Nat → Nat → Int) (n m : Nat) : Nat → List (Int × Int × List Int)
  | 0 => []
  | a + 1 => eaL F n m a ++ ebL F n a (m - (a + 1))
theorem ebL_len (F : Nat → Nat → Int) (n a : Nat) : ∀ j, (ebL F n a j).length ≤ j
  | 0 => Nat.le_refl 0
  | j + 1 => by
    have := ebL_len F n a j
    show (ebL F n a j ++ (if _ then [] else [_])).length ≤ j + 1
    rw [List.length_append]
    split
    · show _ + 0 ≤ _; omega
    · show _ + 1 ≤ _; omega
theorem eaL_len (F : Nat → Nat → Int) (n m : Nat) : ∀ a, (eaL F n m a).length ≤ a * m
  | 0 => by show 0 ≤ _; omega
  | a + 1 => by
    have p := eaL_len F n m a
    have q := ebL_len F n a (m - (a + 1))
    show (eaL F n m a ++ ebL F n a (m - (a + 1))).length ≤ (a + 1) * m
    rw [List.length_append, Nat.add_mul]
    omega
def egA (t : Bool) (F : Nat → Nat → Int) (n m : Nat) : List (Int × Int × List Int) := if t then eaL F n m m else []
end Go.Proofs.Ytcnbbanpnoigdaa
/-
  Edges of triangles: what stands in the rows of those next to one and of all edges, and in which order. No program.
-/
namespace Go.Proofs.Ytcnbbanpnoigdaa

theorem nx_mem {F : Nat → Nat → Int} {i : Nat} {x : Int} : ∀ {n : Nat}, x ∈ nxL F i n ↔ ∃ k : Nat, k < n ∧ x = (k : Int) ∧ nxB F i k = true
  | 0 => ⟨(fun h => by cases h), (fun ⟨_, h, _⟩ => absurd h (by omega))⟩
  | n + 1 => by
    show x ∈ nxL F i n ++ (if nxB F i n then [(n : Int)] else []) ↔ _
    rw [List.mem_append, nx_mem (n := n)]
    constructor
    · rintro (⟨k, a, b, c⟩ | h)
      · exact ⟨k, by omega, b, c⟩
      · by_cases e : nxB F i n = true
        · rw [if_pos e, List.mem_singleton] at h
          exact ⟨n, by omega, h, e⟩
        · rw [if_neg e] at h
          cases h
    · rintro ⟨k, a, b, c⟩
      by_cases e : k = n
      · subst e
        exact .inr (by rw [if_pos c, List.mem_singleton]; exact b)
      · exact .inl ⟨k, by omega, b, c⟩
theorem nx_rise (F : Nat → Nat → Int) (i : Nat) : ∀ n, (nxL F i n).Pairwise (· < ·)
  | 0 => List.Pairwise.nil
  | n + 1 => by
    show (nxL F i n ++ (if nxB F i n then [(n : Int)] else [])).Pairwise (· < ·)
    rw [List.pairwise_append]
    refine ⟨nx_rise F i n, by split <;> simp, fun x hx y hy => ?_⟩
    obtain ⟨k, a, rfl, _⟩ := nx_mem.1 hx
    split at hy
    · rw [List.mem_singleton] at hy
      omega
    · cases hy
theorem rise_at {l : List Int} (h : l.Pairwise (· < ·)) {j k : Nat} (hjk : j < k) (hk : k < l.length) : l.getD j 0 < l.getD k 0 := by
  rw [List.getD_eq_getElem?_getD, List.getD_eq_getElem?_getD, List.getElem?_eq_getElem hk, List.getElem?_eq_getElem (show j < l.length from by omega)]
  exact List.pairwise_iff_getElem.1 h j k (by omega) hk hjk
theorem mem_at {l : List Int} {j : Nat} (h : j < l.length) : l.getD j 0 ∈ l := by
  rw [List.getD_eq_getElem?_getD, List.getElem?_eq_getElem h]
  exact List.getElem_mem h
theorem th_mem {F : Nat → Nat → Int} {a b x : Int} : ∀ {n : Nat}, x ∈ thL F a b n ↔ ∃ k : Nat, k < n ∧ x = (k : Int) ∧ hasB (F k 0) (F k 3) (F k 6) a b = true
  | 0 => ⟨(fun h => by cases h), (fun ⟨_, h, _⟩ => absurd h (by omega))⟩
  | n + 1 => by
    show x ∈ thL F a b n ++ (if hasB (F n 0) (F n 3) (F n 6) a b then [(n : Int)] else []) ↔ _
    rw [List.mem_append, th_mem (n := n)]
    constructor
    · rintro (⟨k, p, q, c⟩ | h)
      · exact ⟨k, by omega, q, c⟩
      · by_cases e : hasB (F n 0) (F n 3) (F n 6) a b = true
        · rw [if_pos e, List.mem_singleton] at h
          exact ⟨n, by omega, h, e⟩
        · rw [if_neg e] at h
          cases h
    · rintro ⟨k, p, q, c⟩
      by_cases e : k = n
      · subst e
        exact .inr (by rw [if_pos c, List.mem_singleton]; exact q)
      · exact .inl ⟨k, by omega, q, c⟩
theorem th_in {F : Nat → Nat → Int} {a b : Int} {n i : Nat} (hi : i < n) : (i : Int) ∈ thL F a b n ↔ hasB (F i 0) (F i 3) (F i 6) a b = true := by
  rw [th_mem]
  constructor
  · rintro ⟨k, _, e, h⟩
    obtain rfl : i = k := by omega
    exact h
  · exact fun h => ⟨i, hi, rfl, h⟩
theorem th_rise (F : Nat → Nat → Int) (a b : Int) : ∀ n, (thL F a b n).Pairwise (· < ·)
  | 0 => List.Pairwise.nil
  | n + 1 => by
    show (thL F a b n ++ (if hasB (F n 0) (F n 3) (F n 6) a b then [(n : Int)] else [])).Pairwise (· < ·)
    rw [List.pairwise_append]
    refine ⟨th_rise F a b n, by split <;> simp, fun x hx y hy => ?_⟩
    obtain ⟨k, p, rfl, _⟩ := th_mem.1 hx
    split at hy
    · rw [List.mem_singleton] at hy
      omega
    · cases hy
theorem eb_mem {F : Nat → Nat → Int} {n a : Nat} {e : Int × Int × List Int} : ∀ {j : Nat}, e ∈ ebL F n a j ↔ ∃ t : Nat, t < j ∧ ¬ (thL F a ((a + 1 + t : Nat) : Int) n).length = 0 ∧ e = ((a : Int), ((a + 1 + t : Nat) : Int), thL F a ((a + 1 + t : Nat) : Int) n)
  | 0 => ⟨(fun h => by cases h), (fun ⟨_, h, _⟩ => absurd h (by omega))⟩
  | j + 1 => by
    show e ∈ ebL F n a j ++ (if (thL F a ((a + 1 + j : Nat) : Int) n).length = 0 then [] else [((a : Int), ((a + 1 + j : Nat) : Int), thL F a ((a + 1 + j : Nat) : Int) n)]) ↔ _
    rw [List.mem_append, eb_mem (j := j)]
    constructor
    · rintro (⟨t, p, q⟩ | h)
      · exact ⟨t, by omega, q⟩
      · by_cases z : (thL F a ((a + 1 + j : Nat) : Int) n).length = 0
        · rw [if_pos z] at h
          cases h
        · rw [if_neg z, List.mem_singleton] at h
          exact ⟨j, by omega, z, h⟩
    · rintro ⟨t, p, q, r⟩
      by_cases z : t = j
      · subst z
        exact .inr (by rw [if_neg q, List.mem_singleton]; exact r)
      · exact .inl ⟨t, by omega, q, r⟩
theorem ea_mem {F : Nat → Nat → Int} {n m : Nat} {e : Int × Int × List Int} : ∀ {A : Nat}, e ∈ eaL F n m A ↔ ∃ a : Nat, a < A ∧ e ∈ ebL F n a (m - (a + 1))
  | 0 => ⟨(fun h => by cases h), (fun ⟨_, h, _⟩ => absurd h (by omega))⟩
  | A + 1 => by
    show e ∈ eaL F n m A ++ ebL F n A (m - (A + 1)) ↔ _
    rw [List.mem_append, ea_mem (A := A)]
    constructor
    · rintro (⟨a, p, q⟩ | h)
      · exact ⟨a, by omega, q⟩
      · exact ⟨A, by omega, h⟩
    · rintro ⟨a, p, q⟩
      by_cases z : a = A
      · subst z
        exact .inr q
      · exact .inl ⟨a, by omega, q⟩
/-- All edges: each pair of places, the lesser first, that some triangle has. -/
theorem ea_iff {F : Nat → Nat → Int} {n m : Nat} {e : Int × Int × List Int} : e ∈ eaL F n m m ↔ ∃ a b : Nat, a < b ∧ b < m ∧ e = ((a : Int), (b : Int), thL F a b n) ∧ ¬ (thL F a b n).length = 0 := by
  rw [ea_mem]
  constructor
  · rintro ⟨a, p, q⟩
    obtain ⟨t, r, s, u⟩ := eb_mem.1 q
    exact ⟨a, a + 1 + t, by omega, by omega, u, s⟩
  · rintro ⟨a, b, p, q, r, s⟩
    refine ⟨a, by omega, eb_mem.2 ⟨b - (a + 1), by omega, ?_⟩⟩
    rw [show a + 1 + (b - (a + 1)) = b from by omega]
    exact ⟨s, r⟩
/-- Edges rise. -/
def eLt (x y : Int × Int × List Int) : Prop := x.1 < y.1 ∨ x.1 = y.1 ∧ x.2.1 < y.2.1
theorem eb_rise (F : Nat → Nat → Int) (n a : Nat) : ∀ j, (ebL F n a j).Pairwise eLt
  | 0 => List.Pairwise.nil
  | j + 1 => by
    show (ebL F n a j ++ (if (thL F a ((a + 1 + j : Nat) : Int) n).length = 0 then [] else [((a : Int), ((a + 1 + j : Nat) : Int), thL F a ((a + 1 + j : Nat) : Int) n)])).Pairwise eLt
    rw [List.pairwise_append]
    refine ⟨eb_rise F n a j, by split <;> simp, fun x hx y hy => ?_⟩
    obtain ⟨t, p, _, rfl⟩ := eb_mem.1 hx
    split at hy
    · cases hy
    · rw [List.mem_singleton] at hy
      subst hy
      exact .inr ⟨rfl, by show ((a + 1 + t : Nat) : Int) < ((a + 1 + j : Nat) : Int); omega⟩
theorem ea_rise (F : Nat → Nat → Int) (n m : Nat) : ∀ A, (eaL F n m A).Pairwise eLt
  | 0 => List.Pairwise.nil
  | A + 1 => by
    show (eaL F n m A ++ ebL F n A (m - (A + 1))).Pairwise eLt
    rw [List.pairwise_append]
    refine ⟨ea_rise F n m A, eb_rise F n A _, fun x hx y hy => ?_⟩
    obtain ⟨a, p, q⟩ := ea_mem.1 hx
    obtain ⟨t, _, _, rfl⟩ := eb_mem.1 q
    obtain ⟨s, _, _, rfl⟩ := eb_mem.1 hy
    exact .inl (by show (a : Int) < (A : Int); omega)
/-- Two triangles that are next to one another stand at one edge. -/
theorem ea_share {F : Nat → Nat → Int} {n m i k : Nat} (hi : i < n) (hk : k < n) (hF : ∀ j, j = 0 ∨ j = 3 ∨ j = 6 → 0 ≤ F i j ∧ F i j < (m : Int)) (h : nxB F i k = true) : ∃ e, e ∈ eaL F n m m ∧ (i : Int) ∈ e.2.2 ∧ (k : Int) ∈ e.2.2 := by
  have ne : ¬ i = k := fun x => by rw [x, nxB_same] at h; cases h
  rw [nxB_other ne] at h
  have go : ∀ p q : Int, 0 ≤ p → p < (m : Int) → 0 ≤ q → q < (m : Int) → ¬ p = q → hasB (F i 0) (F i 3) (F i 6) p q = true → hasB (F k 0) (F k 3) (F k 6) p q = true → ∃ e, e ∈ eaL F n m m ∧ (i : Int) ∈ e.2.2 ∧ (k : Int) ∈ e.2.2 := by
    have lt : ∀ p q : Nat, p < q → q < m → hasB (F i 0) (F i 3) (F i 6) p q = true → hasB (F k 0) (F k 3) (F k 6) p q = true → ∃ e, e ∈ eaL F n m m ∧ (i : Int) ∈ e.2.2 ∧ (k : Int) ∈ e.2.2 := by
      intro p q h1 h2 h3 h4
      have a := (th_in hi).2 h3
      exact ⟨_, ea_iff.2 ⟨p, q, h1, h2, rfl, fun z => by rw [List.eq_nil_of_length_eq_zero z] at a; cases a⟩, a, (th_in hk).2 h4⟩
    have sw : ∀ x y z p q : Int, hasB x y z p q = true → hasB x y z q p = true := by
      intro x y z p q h
      rw [hasB_iff, ed3_iff, ed3_iff, ed3_iff] at h ⊢
      omega
    intro p q p0 pm q0 qm nq h3 h4
    obtain ⟨p, rfl⟩ := Int.eq_ofNat_of_zero_le p0
    obtain ⟨q, rfl⟩ := Int.eq_ofNat_of_zero_le q0
    rcases Nat.lt_or_ge p q with l | l
    · exact lt p q l (by omega) h3 h4
    · exact lt q p (by omega) (by omega) (sw _ _ _ _ _ h3) (sw _ _ _ _ _ h4)
  have f0 := hF 0 (.inl rfl)
  have f3 := hF 3 (.inr (.inl rfl))
  have f6 := hF 6 (.inr (.inr rfl))
  unfold nxE at h
  rw [Bool.or_eq_true, Bool.or_eq_true, Bool.and_eq_true, Bool.and_eq_true, Bool.and_eq_true, bne_iff_ne, bne_iff_ne, bne_iff_ne] at h
  rcases h with h | h | h
  · exact go _ _ f0.1 f0.2 f3.1 f3.2 h.1 (hasB_iff.2 (.inl (ed3_iff.2 ⟨h.1, .inl ⟨rfl, rfl⟩⟩))) h.2
  · exact go _ _ f3.1 f3.2 f6.1 f6.2 h.1 (hasB_iff.2 (.inr (.inl (ed3_iff.2 ⟨h.1, .inl ⟨rfl, rfl⟩⟩)))) h.2
  · exact go _ _ f6.1 f6.2 f0.1 f0.2 h.1 (hasB_iff.2 (.inr (.inr (ed3_iff.2 ⟨h.1, .inl ⟨rfl, rfl⟩⟩)))) h.2
end Go.Proofs.Ytcnbbanpnoigdaa
/-
  Edges of triangles: each is found by its places, loose ones of loose ones, how many edges a triangle stands in. No program.
-/
namespace Go.Proofs.Ytcnbbanpnoigdaa

theorem ls_again (L : List (Int × Int × List Int)) : lsL (lsL L) = lsL L := by unfold lsL; rw [List.filter_filter]; simp
theorem ea_find {F : Nat → Nat → Int} {n m : Nat} {e : Int × Int × List Int} (h : e ∈ eaL F n m m) : (eaL F n m m).find? (fdB e.2.1 e.1) = some e := by
  obtain ⟨a, b, p, q, r, s⟩ := ea_iff.1 h
  cases f : (eaL F n m m).find? (fdB e.2.1 e.1) with
  | none => exact absurd (decide_eq_true (.inr ⟨rfl, rfl⟩)) (List.find?_eq_none.1 f e h)
  | some x =>
    obtain ⟨c, d, p', q', r', s'⟩ := ea_iff.1 (List.mem_of_find?_eq_some f)
    have k0 : fdB e.2.1 e.1 x = true := List.find?_some f
    have k : x.1 = e.2.1 ∧ x.2.1 = e.1 ∨ x.1 = e.1 ∧ x.2.1 = e.2.1 := of_decide_eq_true k0
    clear k0
    subst r
    subst r'
    have k' : (c : Int) = (b : Int) ∧ (d : Int) = (a : Int) ∨ (c : Int) = (a : Int) ∧ (d : Int) = (b : Int) := k
    obtain rfl : c = a := by omega
    obtain rfl : d = b := by omega
    rfl
/-- An edge's own shape: its places in order and in range, triangles that stand at it, rising. -/
theorem ea_shape {F : Nat → Nat → Int} {n m : Nat} {e : Int × Int × List Int} (h : e ∈ eaL F n m m) : 0 ≤ e.1 ∧ e.1 < e.2.1 ∧ e.2.1 < (m : Int) ∧ 0 < e.2.2.length ∧ e.2.2.Pairwise (· < ·) := by
  obtain ⟨a, b, p, q, rfl, s⟩ := ea_iff.1 h
  exact ⟨by show (0 : Int) ≤ (a : Int); omega, by show (a : Int) < (b : Int); omega, by show (b : Int) < (m : Int); omega, Nat.pos_of_ne_zero s, th_rise F a b n⟩

/-- Sums over places. -/
def suN (f : Nat → Nat) : Nat → Nat
  | 0 => 0
  | a + 1 => suN f a + f a
theorem suN_none {f : Nat → Nat} : ∀ n, (∀ j, j < n → f j = 0) → suN f n = 0
  | 0, _ => rfl
  | n + 1, h => by
    show suN f n + f n = 0
    rw [suN_none n (fun j hj => h j (by omega)), h n (by omega)]
theorem suN_one {f : Nat → Nat} : ∀ n k, k < n → f k = 1 → (∀ j, j < n → ¬ j = k → f j = 0) → suN f n = 1
  | n + 1, k, hk, h1, h => by
    show suN f n + f n = 1
    by_cases e : k = n
    · subst e
      rw [suN_none k (fun j hj => h j (by omega) (by omega)), h1]
    · rw [suN_one n k (by omega) h1 (fun j hj => h j (by omega)), h n (by omega) (fun x => e x.symm)]
theorem suN_add {f g h : Nat → Nat} : ∀ n, (∀ j, j < n → h j = f j + g j) → suN h n = suN f n + suN g n
  | 0, _ => rfl
  | n + 1, e => by
    show suN h n + h n = (suN f n + f n) + (suN g n + g n)
    rw [suN_add n (fun j hj => e j (by omega)), e n (by omega)]
    omega
theorem suN_congr {f g : Nat → Nat} : ∀ n, (∀ j, j < n → f j = g j) → suN f n = suN g n
  | 0, _ => rfl
  | n + 1, e => by
    show suN f n + f n = suN g n + g n
    rw [suN_congr n (fun j hj => e j (by omega)), e n (by omega)]
theorem cntB_none {P : Nat → Bool} : ∀ n, (∀ j, j < n → P j = false) → cntB P n = 0
  | 0, _ => rfl
  | n + 1, h => by
    show cntB P n + (if P n then 1 else 0) = 0
    rw [cntB_none n (fun j hj => h j (by omega)), h n (by omega)]
    rfl
theorem cntB_one {P : Nat → Bool} : ∀ n k, k < n → P k = true → (∀ j, j < n → ¬ j = k → P j = false) → cntB P n = 1
  | n + 1, k, hk, h1, h => by
    show cntB P n + (if P n then 1 else 0) = 1
    by_cases e : k = n
    · subst e
      rw [cntB_none k (fun j hj => h j (by omega) (by omega)), h1]
      rfl
    · rw [cntB_one n k (by omega) h1 (fun j hj => h j (by omega)), h n (by omega) (fun x => e x.symm)]
      rfl
theorem cntB_or {P Q R : Nat → Bool} : ∀ n, (∀ j, j < n → R j = (P j || Q j) ∧ ¬ (P j = true ∧ Q j = true)) → cntB R n = cntB P n + cntB Q n
  | 0, _ => rfl
  | n + 1, e => by
    show cntB R n + (if R n then 1 else 0) = (cntB P n + (if P n then 1 else 0)) + (cntB Q n + (if Q n then 1 else 0))
    obtain ⟨a, b⟩ := e n (by omega)
    rw [cntB_or n (fun j hj => e j (by omega)), a]
    cases p : P n <;> cases q : Q n
    · simp
    · simp; omega
    · simp; omega
    · exact absurd ⟨p, q⟩ b
theorem cntB_congr {P Q : Nat → Bool} : ∀ n, (∀ j, j < n → P j = Q j) → cntB P n = cntB Q n
  | 0, _ => rfl
  | n + 1, e => by
    show cntB P n + (if P n then 1 else 0) = cntB Q n + (if Q n then 1 else 0)
    rw [cntB_congr n (fun j hj => e j (by omega)), e n (by omega)]
/-- How many pairs of places, the lesser first, are so. -/
def prN (P : Nat → Nat → Bool) (m A : Nat) : Nat := suN (fun a => cntB (fun t => P a (a + 1 + t)) (m - (a + 1))) A
theorem prN_congr {P Q : Nat → Nat → Bool} {m : Nat} (h : ∀ a b, a < b → b < m → P a b = Q a b) : prN P m m = prN Q m m :=
  suN_congr m fun a _ => cntB_congr _ fun t ht => h a (a + 1 + t) (by omega) (by omega)
theorem prN_none {P : Nat → Nat → Bool} {m : Nat} (h : ∀ a b, a < b → b < m → P a b = false) : prN P m m = 0 :=
  suN_none m fun a _ => cntB_none _ fun t ht => h a (a + 1 + t) (by omega) (by omega)
theorem prN_one {P : Nat → Nat → Bool} {m p q : Nat} (hp : p < q) (hq : q < m) (h : ∀ a b, a < b → b < m → P a b = decide (a = p ∧ b = q)) : prN P m m = 1 := by
  refine suN_one m p (by omega) (cntB_one _ (q - (p + 1)) (by omega) ?_ fun t ht ne => ?_) fun a ha ne => cntB_none _ fun t ht => ?_
  · show P p (p + 1 + (q - (p + 1))) = true
    rw [show p + 1 + (q - (p + 1)) = q from by omega, h p q hp hq]
    exact decide_eq_true ⟨rfl, rfl⟩
  · show P p (p + 1 + t) = false
    rw [h p (p + 1 + t) (by omega) (by omega)]
    exact decide_eq_false (by omega)
  · show P a (a + 1 + t) = false
    rw [h a (a + 1 + t) (by omega) (by omega)]
    exact decide_eq_false (by omega)
theorem prN_or {P Q R : Nat → Nat → Bool} {m : Nat} (h : ∀ a b, a < b → b < m → R a b = (P a b || Q a b) ∧ ¬ (P a b = true ∧ Q a b = true)) : prN R m m = prN P m m + prN Q m m :=
  suN_add m fun a _ => cntB_or _ fun t ht => h a (a + 1 + t) (by omega) (by omega)
theorem prN_ed {x y : Int} {m : Nat} (hx : 0 ≤ x ∧ x < (m : Int)) (hy : 0 ≤ y ∧ y < (m : Int)) (ne : ¬ x = y) : prN (fun a b => ed3 x y a b) m m = 1 := by
  obtain ⟨p, rfl⟩ := Int.eq_ofNat_of_zero_le hx.1
  obtain ⟨q, rfl⟩ := Int.eq_ofNat_of_zero_le hy.1
  rcases Nat.lt_or_ge p q with l | l
  · refine prN_one l (by omega) fun a b hab _ => ?_
    rw [Bool.eq_iff_iff, ed3_iff, decide_eq_true_iff]
    omega
  · refine prN_one (p := q) (q := p) (by omega) (by omega) fun a b hab _ => ?_
    rw [Bool.eq_iff_iff, ed3_iff, decide_eq_true_iff]
    omega
theorem eb_count {F : Nat → Nat → Int} {n i a : Nat} (hi : i < n) : ∀ j, (ebL F n a j).countP (fun e => decide ((i : Int) ∈ e.2.2)) = cntB (fun t => hasB (F i 0) (F i 3) (F i 6) (a : Int) ((a + 1 + t : Nat) : Int)) j
  | 0 => rfl
  | j + 1 => by
    show (ebL F n a j ++ (if (thL F a ((a + 1 + j : Nat) : Int) n).length = 0 then [] else [((a : Int), ((a + 1 + j : Nat) : Int), thL F a ((a + 1 + j : Nat) : Int) n)])).countP _ = cntB _ j + (if hasB (F i 0) (F i 3) (F i 6) (a : Int) ((a + 1 + j : Nat) : Int) then 1 else 0)
    rw [List.countP_append, eb_count hi j]
    congr 1
    have t := th_in (F := F) (a := (a : Int)) (b := ((a + 1 + j : Nat) : Int)) hi
    by_cases z : (thL F a ((a + 1 + j : Nat) : Int) n).length = 0
    · rw [if_pos z]
      rw [List.eq_nil_of_length_eq_zero z] at t
      rw [if_neg (fun x => by have := t.2 x; cases this)]
      rfl
    · rw [if_neg z]
      by_cases y : hasB (F i 0) (F i 3) (F i 6) (a : Int) ((a + 1 + j : Nat) : Int) = true
      · rw [if_pos y]
        have u := t.2 y
        show List.countP _ [_] = 1
        rw [List.countP_singleton, if_pos (decide_eq_true u)]
      · rw [if_neg y, List.countP_singleton, if_neg (fun x => y (t.1 (of_decide_eq_true x)))]
theorem ea_count {F : Nat → Nat → Int} {n m i : Nat} (hi : i < n) : ∀ A, (eaL F n m A).countP (fun e => decide ((i : Int) ∈ e.2.2)) = prN (fun a b => hasB (F i 0) (F i 3) (F i 6) (a : Int) (b : Int)) m A
  | 0 => rfl
  | A + 1 => by
    show (eaL F n m A ++ ebL F n A (m - (A + 1))).countP _ = suN _ A + cntB _ _
    rw [List.countP_append, ea_count hi A, eb_count hi]
    rfl
/-- A triangle stands in three edges if its places are unlike, in none if they are one, in one else. -/
def teN (x y z : Int) : Nat := if x = y ∧ y = z then 0 else if ¬ x = y ∧ ¬ y = z ∧ ¬ x = z then 3 else 1
theorem ea_three {F : Nat → Nat → Int} {n m i : Nat} (hi : i < n) (hF : ∀ j, j = 0 ∨ j = 3 ∨ j = 6 → 0 ≤ F i j ∧ F i j < (m : Int)) : (eaL F n m m).countP (fun e => decide ((i : Int) ∈ e.2.2)) = teN (F i 0) (F i 3) (F i 6) := by
  rw [ea_count hi m]
  have f0 := hF 0 (.inl rfl)
  have f3 := hF 3 (.inr (.inl rfl))
  have f6 := hF 6 (.inr (.inr rfl))
  generalize F i 0 = x at *
  generalize F i 3 = y at *
  generalize F i 6 = z at *
  unfold teN
  by_cases h1 : x = y ∧ y = z
  · rw [if_pos h1]
    refine prN_none fun a b _ _ => ?_
    rw [← Bool.not_eq_true, hasB_iff, ed3_iff, ed3_iff, ed3_iff]
    omega
  · rw [if_neg h1]
    by_cases h2 : ¬ x = y ∧ ¬ y = z ∧ ¬ x = z
    · rw [if_pos h2]
      show prN (fun a b => (ed3 x y a b || (ed3 y z a b || ed3 z x a b))) m m = 3
      rw [prN_or (P := fun a b => ed3 x y a b) (Q := fun a b => (ed3 y z a b || ed3 z x a b)) (fun a b _ _ => ⟨rfl, by rw [Bool.or_eq_true, ed3_iff, ed3_iff, ed3_iff]; omega⟩)]
      rw [prN_or (P := fun a b => ed3 y z a b) (Q := fun a b => ed3 z x a b) (fun a b _ _ => ⟨rfl, by rw [ed3_iff, ed3_iff]; omega⟩)]
      rw [prN_ed f0 f3 h2.1, prN_ed f3 f6 h2.2.1, prN_ed f6 f0 (by omega)]
    · rw [if_neg h2]
      by_cases e : x = y
      · rw [prN_congr (Q := fun a b => ed3 y z a b) (fun a b _ _ => by rw [Bool.eq_iff_iff, hasB_iff, ed3_iff, ed3_iff, ed3_iff]; omega)]
        exact prN_ed f3 f6 (by omega)
      · rw [prN_congr (Q := fun a b => ed3 x y a b) (fun a b _ _ => by rw [Bool.eq_iff_iff, hasB_iff, ed3_iff, ed3_iff, ed3_iff]; omega)]
        exact prN_ed f0 f3 e
end Go.Proofs.Ytcnbbanpnoigdaa
/-
  What the laws of edges look with: is a number one of some, do two triangles stand at one edge. (gen/EgW.py)
-/
namespace Go.Proofs.Ytcnbbanpnoigdaa
open Go.RowKit

/-- A number is one of some. -/
def inB (L : List Int) (x : Int) : Bool := decide (x ∈ L)
/-- Two triangles stand at one edge. -/
def sdB (L : List (Int × Int × List Int)) (i k : Int) : Bool := decide (∃ e ∈ L, i ∈ e.2.2 ∧ k ∈ e.2.2)
end Go.Proofs.Ytcnbbanpnoigdaa
/-
  What the laws of edges write over: smudge (limewashlaw14). Nothing that lay there before the row was made is reached.
-/
namespace Go.Proofs.Ytcnbbanpnoigdaa
open Go.RowKit

/-- A row of edges whose rows may be written over. -/
def SmE (W : World) (B b n : Nat) : Prop := ∀ i, i < n → ∃ t m c, W.cell? ⟨b, i * 3 + 2, none⟩ = some (.slice t m c) ∧ m ≤ c ∧ c ≤ 9223372036854775807 ∧ (m = 0 ∨ ∃ g, t = some ⟨g, 0, none⟩ ∧ B ≤ g ∧ ¬ g = b ∧ ∀ j, j < m → (∃ x, W.cell? ⟨g, j, none⟩ = some (.int .i64 x)) ∧ W.frozen? ⟨g, j, none⟩ = false)
theorem SmE.set {W : World} {B b n g : Nat} (h : SmE W B b n) (hg : ¬ g = b) (q : Nat) (x : Int) : SmE (W.setCell ⟨g, q, none⟩ (.int .i64 x)) B b n := by
  intro i hi
  obtain ⟨t, m, c, h1, h2, h3, h4⟩ := h i hi
  refine ⟨t, m, c, ?_, h2, h3, ?_⟩
  · rw [World.cell?_setCell_other _ _ _ _ (by intro e; cases e; exact hg rfl)]
    exact h1
  · rcases h4 with z | ⟨g', e, e1, e2, e3⟩
    · exact .inl z
    · exact .inr ⟨g', e, e1, e2, fun j hj => ⟨someInt_setCell (e3 j hj).1 _ _, by rw [World.frozen?_setCell]; exact (e3 j hj).2⟩⟩
theorem smE_of_own {w : World} {base : Nat} {v : Value} {Z : List EdZ} (h : OwnE w base v Z) : (∃ c, v = .slice none 0 c ∧ Z.length = 0) ∨ ∃ b c, v = .slice (some ⟨b, 0, none⟩) Z.length c ∧ Z.length ≤ c ∧ c ≤ 9223372036854775807 ∧ b < w.heap.size ∧ SmE w base b Z.length := by
  obtain ⟨hr, hz⟩ := h
  have hl := hr.lt
  have hc := fun (g : Nat) (hg : v.ownBlock = some g) => hr.cells hg
  obtain ⟨h1, ⟨rfl, h0⟩ | ⟨g, cap, cur, rfl, hb, hh, hk, hm, _, _⟩⟩ := hr
  · exact .inl ⟨0, rfl, h0⟩
  · refine .inr ⟨g, cap, rfl, hk, by unfold maxLen at hm; omega, (hl g rfl).2, fun i hi' => ?_⟩
    obtain ⟨p, q, r⟩ := cellsE_at Z i hi'
    have r' := hc g rfl (i * 3 + 2) _ r
    simp only [Go.WideShapes.add_plain] at r'
    have zi := hz Z[i] (List.getElem_mem hi')
    obtain ⟨z1, z2⟩ := zi
    rcases Nat.eq_zero_or_pos Z[i].2.2.1.length with e0 | e0
    · obtain ⟨a, c, e, f1, f2, f3, f4⟩ := rowI_of_own z1
      rw [e, e0] at r'
      exact ⟨a, 0, c, by simpa using r', Nat.zero_le _, f3, .inl rfl⟩
    · obtain ⟨g', cap', cur', hv, hg, hn, hh', ht, hs⟩ := z1.open e0
      have z3 := z1
      rw [hv] at r' z3
      have zc := fun j (hj : j < Z[i].2.2.1.length) => OwnI.cells z3 hj
      obtain ⟨a, c, e, f1, f2, f3, f4⟩ := rowI_of_own z3
      cases e
      exact ⟨_, _, _, by simpa using r', f2, f3, .inr ⟨g', rfl, hg, (fun q => z2 g' (by rw [hv]; rfl) (by rw [q]; rfl)), fun j hj => ⟨⟨_, (zc j hj).1⟩, (zc j hj).2⟩⟩⟩
end Go.Proofs.Ytcnbbanpnoigdaa
/-
  The edges of a triangle, each once, the lesser place first; rows of two places. No program.
-/
namespace Go.Proofs.Ytcnbbanpnoigdaa
open Go.RowKit

/-- One pair more, if it is none yet. -/
def sdA (L : List (Int × Int)) (x y : Int) : List (Int × Int) := if ¬ x = y ∧ ¬ (min x y, max x y) ∈ L then L ++ [(min x y, max x y)] else L
def sdL (x y z : Int) : List (Int × Int) := sdA (sdA (sdA [] x y) y z) z x
theorem sdA_yes {L : List (Int × Int)} {x y : Int} (h : ¬ x = y) (k : ¬ (min x y, max x y) ∈ L) : sdA L x y = L ++ [(min x y, max x y)] := by unfold sdA; rw [if_pos ⟨h, k⟩]
theorem sdA_same {L : List (Int × Int)} {x y : Int} (h : x = y) : sdA L x y = L := by unfold sdA; rw [if_neg (fun q => q.1 h)]
theorem sdA_there {L : List (Int × Int)} {x y : Int} (h : (min x y, max x y) ∈ L) : sdA L x y = L := by unfold sdA; rw [if_neg (fun q => q.2 h)]
theorem sdA_len (L : List (Int × Int)) (x y : Int) : (sdA L x y).length ≤ L.length + 1 := by
  unfold sdA
  split
  · simp
  · omega
theorem sdL_len (x y z : Int) : (sdL x y z).length ≤ 3 := by
  have h1 := sdA_len [] x y
  have h2 := sdA_len (sdA [] x y) y z
  have h3 := sdA_len (sdA (sdA [] x y) y z) z x
  unfold sdL
  simp only [List.length_nil] at h1
  omega
theorem sdA_nodup {L : List (Int × Int)} (h : L.Nodup) (x y : Int) : (sdA L x y).Nodup := by
  unfold sdA
  split
  · rename_i q
    exact List.nodup_append.2 ⟨h, by simp, fun a ha b hb e => by
      simp only [List.mem_singleton] at hb
      exact q.2 (by rw [← hb, ← e]; exact ha)⟩
  · exact h
theorem sdL_nodup (x y z : Int) : (sdL x y z).Nodup := sdA_nodup (sdA_nodup (sdA_nodup List.nodup_nil x y) y z) z x
theorem sdA_mem {L : List (Int × Int)} {x y : Int} {p : Int × Int} : p ∈ sdA L x y ↔ p ∈ L ∨ p.1 < p.2 ∧ ed3 x y p.1 p.2 = true := by
  have e : (p.1 < p.2 ∧ ed3 x y p.1 p.2 = true) ↔ ¬ x = y ∧ p = (min x y, max x y) := by
    obtain ⟨a, b⟩ := p
    rw [ed3_iff, Prod.mk.injEq]
    omega
  rw [e]
  unfold sdA
  split
  · rename_i q
    rw [List.mem_append, List.mem_singleton]
    exact ⟨fun h => h.imp id (fun h => ⟨q.1, h⟩), fun h => h.imp id (fun h => h.2)⟩
  · rename_i q
    refine ⟨.inl, fun h => h.elim id (fun h => Classical.byContradiction fun n => q ⟨h.1, ?_⟩)⟩
    rw [← h.2]; exact n
theorem sdL_mem {x y z : Int} {p : Int × Int} : p ∈ sdL x y z ↔ p.1 < p.2 ∧ hasB x y z p.1 p.2 = true := by
  unfold sdL
  rw [sdA_mem, sdA_mem, sdA_mem, hasB_iff]
  simp only [List.not_mem_nil, false_or]
  constructor
  · rintro ((h | h) | h)
    · exact ⟨h.1, .inl h.2⟩
    · exact ⟨h.1, .inr (.inl h.2)⟩
    · exact ⟨h.1, .inr (.inr h.2)⟩
  · rintro ⟨h, q | q | q⟩
    · exact .inl (.inl ⟨h, q⟩)
    · exact .inl (.inr ⟨h, q⟩)
    · exact .inr ⟨h, q⟩
/-- Rows of two places. -/
def pF (L : List (Int × Int)) (i j : Nat) : Int := if j = 0 then (L.getD i (0, 0)).1 else (L.getD i (0, 0)).2
def RowP (W : World) (a : Option Addr) (n : Nat) (L : List (Int × Int)) : Prop := L.length = n ∧ RowK W a n 2 (pF L)
theorem RowP.keep {W W' : World} {a : Option Addr} {n : Nat} {L : List (Int × Int)} (h : RowP W a n L) (hb : Below W.heap.size W W') : RowP W' a n L := ⟨h.1, h.2.keep hb⟩
def OwnP (w : World) (base : Nat) (v : Value) (L : List (Int × Int)) : Prop := w.ownsRow base 101 2 v L.length (valsK L.length 2 (pF L))
theorem OwnP.keep {w w' : World} {base : Nat} {v : Value} {L : List (Int × Int)} (h : OwnP w base v L) (hb : Below w.heap.size w w') : OwnP w' base v L := ownK_keep h hb
theorem OwnP.nil (w : World) (base : Nat) : OwnP w base (.slice none 0 0) [] := World.ownsRow_nil _ _ _ _
theorem rowP_of_own {w : World} {base : Nat} {v : Value} {L : List (Int × Int)} (h : OwnP w base v L) : ∃ a c, v = .slice a L.length c ∧ (a = none → L.length = 0 ∧ c = 0) ∧ L.length ≤ c ∧ c ≤ 9223372036854775807 ∧ RowP w a L.length L := by
  obtain ⟨a, c, e, h1, h2, h3, h4⟩ := rowK_of_own h
  exact ⟨a, c, e, h1, h2, h3, rfl, h4⟩
theorem RowP.at {W : World} {a : Option Addr} {n : Nat} {L : List (Int × Int)} (h : RowP W a n L) {i : Nat} (hi : i < n) : ∃ b off x y, a = some ⟨b, off, none⟩ ∧ b < W.heap.size ∧ L[i]? = some (x, y) ∧ W.cell? ⟨b, off + i * 2, none⟩ = some (.int .i64 x) ∧ W.cell? ⟨b, off + i * 2 + 1, none⟩ = some (.int .i64 y) := by
  obtain ⟨b, off, ha, hb, hc⟩ := h.2.at hi
  have hil : i < L.length := by rw [h.1]; exact hi
  have e : L[i]? = some (L[i].1, L[i].2) := List.getElem?_eq_getElem hil
  have z0 := hc i hi 0 (by omega)
  have z1 := hc i hi 1 (by omega)
  unfold pF at z0 z1
  rw [List.getD_eq_getElem?_getD, e] at z0 z1
  exact ⟨b, off, _, _, ha, hb, e, z0, by rw [Nat.add_assoc]; exact z1⟩
theorem pF_snoc (L : List (Int × Int)) (p : Int × Int) : valsK (L ++ [p]).length 2 (pF (L ++ [p])) = valsK L.length 2 (pF L) ++ [.int .i64 p.1, .int .i64 p.2] := by
  rw [List.length_append, List.length_singleton, valsK_succ]
  congr 1
  · refine valsK_congr fun i hi j _ => ?_
    unfold pF
    rw [List.getD_eq_getElem?_getD, List.getD_eq_getElem?_getD, List.getElem?_append_left hi]
  · rw [show List.range 2 = [0, 1] from rfl]
    unfold pF
    rw [List.getD_eq_getElem?_getD, List.getElem?_append_right (Nat.le_refl _), Nat.sub_self]
    rfl
theorem infoP : (Try.prog.info? 101).map (fun i => (i.zero, i.size, i.bytes)) = some (some (.agg #[.int .i64 0, .int .i64 0]), 2, 16) := by kernel_rfl
end Go.Proofs.Ytcnbbanpnoigdaa
/-
  What a map of the edges tells, triangle by triangle, edge by edge. No program.
-/
namespace Go.Proofs.Ytcnbbanpnoigdaa

/-- Behind k triangles: those that have an edge, at its two places, the lesser one first. -/
def ownS (F : Nat → Nat → Int) (k : Nat) : Int → Int → List Int := fun a c => if a < c then thL F a c k else []
/-- One more triangle's first j edges. -/
def sdN (S : Int → Int → List Int) (i : Int) (L : List (Int × Int)) : Nat → Int → Int → List Int
  | 0 => S
  | j + 1 => upS (sdN S i L j) (L.getD j (0, 0)).1 (L.getD j (0, 0)).2 (sdN S i L j (L.getD j (0, 0)).1 (L.getD j (0, 0)).2 ++ [i])
theorem sdN_at {S : Int → Int → List Int} {i : Int} {L : List (Int × Int)} (hd : L.Nodup) : ∀ j, j ≤ L.length → ∀ a c, sdN S i L j a c = if (a, c) ∈ L.take j then S a c ++ [i] else S a c
  | 0, _, a, c => by simp [sdN]
  | j + 1, h, a, c => by
    have hj : j < L.length := h
    have ih := sdN_at (S := S) (i := i) hd j (Nat.le_of_lt hj)
    have e : L.getD j (0, 0) = L[j] := by rw [List.getD_eq_getElem?_getD, List.getElem?_eq_getElem hj]; rfl
    have ht : L.take (j + 1) = L.take j ++ [L[j]] := by rw [List.take_add_one, List.getElem?_eq_getElem hj]; rfl
    have hn : ¬ L[j] ∈ L.take j := fun q => by
      have z : (L.take j ++ [L[j]]).Nodup := by rw [← ht]; exact hd.sublist (List.take_sublist _ _)
      exact (List.nodup_append.1 z).2.2 _ q _ (by simp) rfl
    show upS (sdN S i L j) (L.getD j (0, 0)).1 (L.getD j (0, 0)).2 (sdN S i L j (L.getD j (0, 0)).1 (L.getD j (0, 0)).2 ++ [i]) a c = _
    rw [e, ht]
    by_cases q : a = L[j].1 ∧ c = L[j].2
    · have eq : (a, c) = L[j] := by rw [q.1, q.2]
      have hm : (L[j].1, L[j].2) ∈ L.take j ++ [L[j]] := List.mem_append.2 (.inr (List.mem_singleton.2 rfl))
      rw [q.1, q.2, upS_same, ih, if_neg hn, if_pos hm]
    · have ne : ¬ (a, c) = L[j] := fun z => q (by rw [← z]; exact ⟨rfl, rfl⟩)
      rw [upS_other q, ih]
      by_cases m : (a, c) ∈ L.take j
      · rw [if_pos m, if_pos (List.mem_append.2 (.inl m))]
      · rw [if_neg m, if_neg (fun z => by
          rcases List.mem_append.1 z with z | z
          · exact m z
          · exact ne (List.mem_singleton.1 z))]
theorem sdN_all (F : Nat → Nat → Int) (k : Nat) : sdN (ownS F k) k (sdL (F k 0) (F k 3) (F k 6)) (sdL (F k 0) (F k 3) (F k 6)).length = ownS F (k + 1) := by
  funext a c
  rw [sdN_at (sdL_nodup _ _ _) _ (Nat.le_refl _), List.take_of_length_le (Nat.le_refl _)]
  unfold ownS
  by_cases m : (a, c) ∈ sdL (F k 0) (F k 3) (F k 6)
  · have z := sdL_mem.1 m
    rw [if_pos m, if_pos z.1, if_pos z.1]
    show _ = thL F a c k ++ (if hasB (F k 0) (F k 3) (F k 6) a c then [(k : Int)] else [])
    rw [if_pos z.2]
  · rw [if_neg m]
    by_cases q : a < c
    · rw [if_pos q, if_pos q]
      show _ = thL F a c k ++ (if hasB (F k 0) (F k 3) (F k 6) a c then [(k : Int)] else [])
      rw [if_neg (fun z => m (sdL_mem.2 ⟨q, z⟩)), List.append_nil]
    · rw [if_neg q, if_neg q]
theorem sdN_len {F : Nat → Nat → Int} {k j : Nat} {a c : Int} (h : j ≤ (sdL (F k 0) (F k 3) (F k 6)).length) : (sdN (ownS F k) k (sdL (F k 0) (F k 3) (F k 6)) j a c).length ≤ k + 1 := by
  rw [sdN_at (sdL_nodup _ _ _) _ h]
  have z : (ownS F k a c).length ≤ k := by
    unfold ownS
    split
    · exact thL_len F a c k
    · simp
  split
  · rw [List.length_append, List.length_singleton]; omega
  · omega
theorem sdL_ok {x y z : Int} {p : Int × Int} {m : Int} (h : p ∈ sdL x y z) (hx : 0 ≤ x ∧ x < m) (hy : 0 ≤ y ∧ y < m) (hz : 0 ≤ z ∧ z < m) : (0 ≤ p.1 ∧ p.1 < m) ∧ 0 ≤ p.2 ∧ p.2 < m := by
  have q := (sdL_mem.1 h).2
  rw [hasB_iff, ed3_iff, ed3_iff, ed3_iff] at q
  rcases q with q | q | q <;> omega
end Go.Proofs.Ytcnbbanpnoigdaa
/-
  What is next to a triangle, by its edges: gathered, sorted, each once, but for itself. No program.
-/
namespace Go.Proofs.Ytcnbbanpnoigdaa

theorem rise_one : ∀ {l m : List Int}, l.Pairwise (· < ·) → m.Pairwise (· < ·) → (∀ x, x ∈ l ↔ x ∈ m) → l = m
  | [], [], _, _, _ => rfl
  | [], b :: m, _, _, h => absurd ((h b).2 (List.mem_cons_self ..)) (by simp)
  | a :: l, [], _, _, h => absurd ((h a).1 (List.mem_cons_self ..)) (by simp)
  | a :: l, b :: m, p, q, h => by
    obtain ⟨p1, p2⟩ := List.pairwise_cons.1 p
    obtain ⟨q1, q2⟩ := List.pairwise_cons.1 q
    have e : a = b := by
      rcases List.mem_cons.1 ((h a).1 (List.mem_cons_self ..)) with e | e
      · exact e
      · rcases List.mem_cons.1 ((h b).2 (List.mem_cons_self ..)) with f | f
        · exact f.symm
        · have := q1 a e; have := p1 b f; omega
    subst e
    congr 1
    refine rise_one p2 q2 fun x => ⟨fun hx => ?_, fun hx => ?_⟩
    · rcases List.mem_cons.1 ((h x).1 (List.mem_cons_of_mem _ hx)) with e | e
      · have := p1 x hx; omega
      · exact e
    · rcases List.mem_cons.1 ((h x).2 (List.mem_cons_of_mem _ hx)) with e | e
      · have := q1 x hx; omega
      · exact e
theorem compact_up {d : Array Int} (hs : ∀ j k, j ≤ k → k < d.size → d[j]! ≤ d[k]!) : ∀ m, m ≤ d.size → (∀ x, x ∈ Lib.compactUpTo d m ↔ ∃ j, j < m ∧ x = d[j]!) ∧ (Lib.compactUpTo d m).Pairwise (· < ·)
  | 0, _ => by simp [Lib.compactUpTo]
  | m + 1, h => by
    obtain ⟨h1, h2⟩ := compact_up hs m (Nat.le_of_succ_le h)
    rw [Lib.compactUpTo_succ]
    cases hk : Lib.keeps d m with
    | true =>
      simp only [if_true]
      refine ⟨fun x => ?_, ?_⟩
      · rw [List.mem_append, List.mem_singleton, h1]
        constructor
        · rintro (⟨j, hj, e⟩ | e)
          · exact ⟨j, by omega, e⟩
          · exact ⟨m, by omega, e⟩
        · rintro ⟨j, hj, e⟩
          by_cases q : j = m
          · exact .inr (by rw [e, q])
          · exact .inl ⟨j, by omega, e⟩
      · refine List.pairwise_append.2 ⟨h2, by simp, fun x hx y hy => ?_⟩
        rw [List.mem_singleton] at hy
        obtain ⟨j, hj, e⟩ := (h1 x).1 hx
        subst hy e
        have a1 := hs j (m - 1) (by omega) (by omega)
        have a2 := hs (m - 1) m (by omega) (by omega)
        have ne : d[m]! ≠ d[m - 1]! := fun e => by
          rw [Lib.keeps_neg (by omega) e] at hk; cases hk
        omega
    | false =>
      simp only [Bool.false_eq_true, if_false, List.append_nil]
      refine ⟨fun x => ?_, h2⟩
      rw [h1]
      have hm : 0 < m := by
        rcases Nat.eq_zero_or_pos m with q | q
        · subst q; rw [Lib.keeps_lt_one d 0 (by omega)] at hk; cases hk
        · exact q
      have eq : d[m]! = d[m - 1]! := Classical.byContradiction fun ne => by
        rw [Lib.keeps_pos ne] at hk; cases hk
      constructor
      · rintro ⟨j, hj, e⟩
        exact ⟨j, by omega, e⟩
      · rintro ⟨j, hj, e⟩
        by_cases q : j = m
        · exact ⟨m - 1, by omega, by rw [e, q, eq]⟩
        · exact ⟨j, by omega, e⟩
def leI (x y : Int) : Bool := decide (x ≤ y)
theorem sortI_rise (L : List Int) : (L.mergeSort fun x y => decide (x ≤ y)).Pairwise (· ≤ ·) := by
  have z := List.pairwise_mergeSort (le := fun x y : Int => decide (x ≤ y)) (by intro a b c; simp; omega) (by intro a b; simp; omega) L
  exact z.imp (fun h => of_decide_eq_true h)
/-- Sorted, and each once. -/
theorem compact_sorted (L : List Int) : (∀ x, x ∈ Lib.compact (L.mergeSort fun x y => decide (x ≤ y)) ↔ x ∈ L) ∧ (Lib.compact (L.mergeSort fun x y => decide (x ≤ y))).Pairwise (· < ·) := by
  have hs := sortI_rise L
  have hm : ∀ x, x ∈ (L.mergeSort fun x y => decide (x ≤ y)) ↔ x ∈ L := fun x => (List.mergeSort_perm L _).mem_iff
  generalize (L.mergeSort fun x y => decide (x ≤ y)) = M at *
  have hsz : M.toArray.size = M.length := by simp
  have hd : ∀ j k, j ≤ k → k < M.toArray.size → M.toArray[j]! ≤ M.toArray[k]! := fun j k hjk hk => by
    rw [getElem!_pos _ j (by omega), getElem!_pos _ k hk]
    by_cases e : j = k
    · subst e; exact Int.le_refl _
    · simp only [List.getElem_toArray]
      exact List.pairwise_iff_getElem.1 hs j k (by simp at hk; omega) (by simpa using hk) (by omega)
  obtain ⟨h1, h2⟩ := compact_up hd M.length (by simp)
  refine ⟨fun x => ?_, h2⟩
  show x ∈ Lib.compactUpTo M.toArray M.length ↔ _
  rw [h1, ← hm]
  constructor
  · rintro ⟨j, hj, e⟩
    rw [e, getElem!_pos _ j (by simpa using hj)]
    simp
  · intro hx
    obtain ⟨j, hj, e⟩ := List.mem_iff_getElem.1 hx
    exact ⟨j, hj, by rw [getElem!_pos _ j (by simpa using hj), ← e]; simp⟩
theorem ed3_swap (x y a b : Int) : ed3 x y a b = ed3 x y b a := decide_eq_decide.2 ⟨fun h => ⟨h.1, h.2.symm⟩, fun h => ⟨h.1, h.2.symm⟩⟩
theorem hasB_swap (x y z a b : Int) : hasB x y z a b = hasB x y z b a := by unfold hasB; rw [ed3_swap x y, ed3_swap y z, ed3_swap z x]
/-- Two triangles have an edge in common: there is one that both have. -/
theorem nxE_edge {x y z u v t : Int} : nxE x y z u v t = true ↔ ∃ a b : Int, a < b ∧ hasB x y z a b = true ∧ hasB u v t a b = true := by
  have one : ∀ p q : Int, (∃ a b : Int, a < b ∧ ed3 p q a b = true ∧ hasB u v t a b = true) ↔ (p ≠ q ∧ hasB u v t p q = true) := fun p q => by
    constructor
    · rintro ⟨a, b, h1, h2, h3⟩
      rw [ed3_iff] at h2
      obtain ⟨n, ⟨rfl, rfl⟩ | ⟨rfl, rfl⟩⟩ := h2
      · exact ⟨n, h3⟩
      · exact ⟨n, by rw [hasB_swap]; exact h3⟩
    · rintro ⟨n, h⟩
      by_cases q' : p < q
      · exact ⟨p, q, q', ed3_yes n (.inl ⟨rfl, rfl⟩), h⟩
      · exact ⟨q, p, by omega, ed3_yes n (.inr ⟨rfl, rfl⟩), by rw [hasB_swap]; exact h⟩
  have e : nxE x y z u v t = true ↔ (x ≠ y ∧ hasB u v t x y = true) ∨ (y ≠ z ∧ hasB u v t y z = true) ∨ (z ≠ x ∧ hasB u v t z x = true) := by
    unfold nxE
    simp only [Bool.or_eq_true, Bool.and_eq_true, bne_iff_ne]
  rw [e, ← one, ← one, ← one]
  constructor
  · rintro (⟨a, b, h1, h2, h3⟩ | ⟨a, b, h1, h2, h3⟩ | ⟨a, b, h1, h2, h3⟩)
    · exact ⟨a, b, h1, hasB_iff.2 (.inl h2), h3⟩
    · exact ⟨a, b, h1, hasB_iff.2 (.inr (.inl h2)), h3⟩
    · exact ⟨a, b, h1, hasB_iff.2 (.inr (.inr h2)), h3⟩
  · rintro ⟨a, b, h1, h2, h3⟩
    rcases hasB_iff.1 h2 with h2 | h2 | h2
    · exact .inl ⟨a, b, h1, h2, h3⟩
    · exact .inr (.inl ⟨a, b, h1, h2, h3⟩)
    · exact .inr (.inr ⟨a, b, h1, h2, h3⟩)
/-- The triangles that have one of some edges, edge by edge. -/
def ctL (F : Nat → Nat → Int) (n : Nat) (L : List (Int × Int)) : Nat → List Int
  | 0 => []
  | j + 1 => ctL F n L j ++ ownS F n (L.getD j (0, 0)).1 (L.getD j (0, 0)).2
theorem ct_mem {F : Nat → Nat → Int} {n : Nat} {L : List (Int × Int)} {x : Int} : ∀ j, j ≤ L.length → (x ∈ ctL F n L j ↔ ∃ p, p ∈ L.take j ∧ x ∈ ownS F n p.1 p.2)
  | 0, _ => by simp [ctL]
  | j + 1, h => by
    have hj : j < L.length := h
    have e : L.getD j (0, 0) = L[j] := by rw [List.getD_eq_getElem?_getD, List.getElem?_eq_getElem hj]; rfl
    have ht : L.take (j + 1) = L.take j ++ [L[j]] := by rw [List.take_add_one, List.getElem?_eq_getElem hj]; rfl
    show x ∈ ctL F n L j ++ ownS F n (L.getD j (0, 0)).1 (L.getD j (0, 0)).2 ↔ _
    rw [e, ht, List.mem_append, ct_mem j (Nat.le_of_lt hj)]
    constructor
    · rintro (⟨p, h1, h2⟩ | h2)
      · exact ⟨p, List.mem_append.2 (.inl h1), h2⟩
      · exact ⟨_, List.mem_append.2 (.inr (List.mem_singleton.2 rfl)), h2⟩
    · rintro ⟨p, h1, h2⟩
      rcases List.mem_append.1 h1 with h1 | h1
      · exact .inl ⟨p, h1, h2⟩
      · rw [List.mem_singleton.1 h1] at h2; exact .inr h2
theorem ct_len {F : Nat → Nat → Int} {n : Nat} {L : List (Int × Int)} : ∀ j, (ctL F n L j).length ≤ j * n
  | 0 => by simp [ctL]
  | j + 1 => by
    have := ct_len (F := F) (n := n) (L := L) j
    have z : ∀ a c, (ownS F n a c).length ≤ n := fun a c => by
      unfold ownS
      split
      · exact thL_len F a c n
      · simp
    have := z (L.getD j (0, 0)).1 (L.getD j (0, 0)).2
    show (ctL F n L j ++ ownS F n (L.getD j (0, 0)).1 (L.getD j (0, 0)).2).length ≤ _
    rw [List.length_append, Nat.add_mul]
    omega
theorem ct_next {F : Nat → Nat → Int} {n i : Nat} : (Lib.compact ((ctL F n (sdL (F i 0) (F i 3) (F i 6)) (sdL (F i 0) (F i 3) (F i 6)).length).mergeSort fun x y => decide (x ≤ y))).filter (fun k => !(k == (i : Int))) = nxL F i n := by
  obtain ⟨h1, h2⟩ := compact_sorted (ctL F n (sdL (F i 0) (F i 3) (F i 6)) (sdL (F i 0) (F i 3) (F i 6)).length)
  refine rise_one (h2.filter _) (nx_rise F i n) fun x => ?_
  rw [List.mem_filter, h1, ct_mem _ (Nat.le_refl _), List.take_of_length_le (Nat.le_refl _), nx_mem]
  constructor
  · rintro ⟨⟨p, hp, hx⟩, hne⟩
    have hp' := sdL_mem.1 hp
    unfold ownS at hx
    rw [if_pos hp'.1] at hx
    obtain ⟨k, hk, e, hh⟩ := th_mem.1 hx
    refine ⟨k, hk, e, ?_⟩
    have ne : ¬ i = k := fun q => by
      rw [e, q] at hne; simp at hne
    rw [nxB_other ne]
    exact nxE_edge.2 ⟨p.1, p.2, hp'.1, hp'.2, hh⟩
  · rintro ⟨k, hk, e, hh⟩
    have ne : ¬ i = k := fun q => by
      rw [q, nxB_same] at hh; cases hh
    rw [nxB_other ne] at hh
    obtain ⟨a, b, h3, h4, h5⟩ := nxE_edge.1 hh
    refine ⟨⟨(a, b), sdL_mem.2 ⟨h3, h4⟩, ?_⟩, ?_⟩
    · unfold ownS
      rw [if_pos h3]
      exact th_mem.2 ⟨k, hk, e, h5⟩
    · rw [e]
      simp
      omega
end Go.Proofs.Ytcnbbanpnoigdaa
/-
  Charts, pure: the places of a triangle's edges among all edges; which edges a chart has reached.
-/
namespace Go.Proofs.Ytcnbbanpnoigdaa

abbrev EdL := Int × Int × List Int
/-- The places of a triangle's edges among the first j of all. -/
def esL (EL : List EdL) (i : Int) : Nat → List Int
  | 0 => []
  | j + 1 => esL EL i j ++ (if isIn (EL.getD j (0, 0, [])).2.2 i then [(j : Int)] else [])
theorem es_mem {EL : List EdL} {i x : Int} : ∀ {j : Nat}, x ∈ esL EL i j ↔ ∃ n : Nat, n < j ∧ x = (n : Int) ∧ i ∈ (EL.getD n (0, 0, [])).2.2
  | 0 => ⟨(fun h => by cases h), (fun ⟨_, h, _⟩ => absurd h (by omega))⟩
  | j + 1 => by
    show x ∈ esL EL i j ++ (if isIn (EL.getD j (0, 0, [])).2.2 i then [(j : Int)] else []) ↔ _
    rw [List.mem_append, es_mem (j := j)]
    constructor
    · rintro (⟨k, a, b, c⟩ | h)
      · exact ⟨k, by omega, b, c⟩
      · by_cases e : isIn (EL.getD j (0, 0, [])).2.2 i = true
        · rw [if_pos e, List.mem_singleton] at h
          exact ⟨j, by omega, h, isIn_iff.1 e⟩
        · rw [if_neg e] at h
          cases h
    · rintro ⟨k, a, b, c⟩
      by_cases e : k = j
      · subst e
        exact .inr (by rw [if_pos (isIn_iff.2 c), List.mem_singleton]; exact b)
      · exact .inl ⟨k, by omega, b, c⟩
theorem es_len (EL : List EdL) (i : Int) : ∀ j, (esL EL i j).length ≤ j
  | 0 => Nat.le_refl _
  | j + 1 => by
    show (esL EL i j ++ (if isIn (EL.getD j (0, 0, [])).2.2 i then [(j : Int)] else [])).length ≤ _
    have := es_len EL i j
    rw [List.length_append]
    split <;> simp <;> omega
theorem es_yes {EL : List EdL} {i : Int} {j : Nat} (h : i ∈ (EL.getD j (0, 0, [])).2.2) : esL EL i (j + 1) = esL EL i j ++ [(j : Int)] := by
  show esL EL i j ++ (if isIn (EL.getD j (0, 0, [])).2.2 i then [(j : Int)] else []) = _
  rw [if_pos (isIn_iff.2 h)]
theorem es_no {EL : List EdL} {i : Int} {j : Nat} (h : ¬ i ∈ (EL.getD j (0, 0, [])).2.2) : esL EL i (j + 1) = esL EL i j := by
  show esL EL i j ++ (if isIn (EL.getD j (0, 0, [])).2.2 i then [(j : Int)] else []) = _
  rw [if_neg (fun q => h (isIn_iff.1 q)), List.append_nil]
/-- The places of all its edges. -/
def esA (EL : List EdL) (i : Int) : List Int := esL EL i EL.length
theorem esA_mem {EL : List EdL} {i x : Int} (h : x ∈ esA EL i) : 0 ≤ x ∧ x < (EL.length : Int) := by
  obtain ⟨n, a, rfl, _⟩ := es_mem.1 h
  omega
theorem es_share {F : Nat → Nat → Int} {n m i k : Nat} (hi : i < n) (hk : k < n) (hF : ∀ j, j = 0 ∨ j = 3 ∨ j = 6 → 0 ≤ F i j ∧ F i j < (m : Int)) (ne : ¬ i = k) :
    (∃ x, x ∈ esA (eaL F n m m) (i : Int) ∧ x ∈ esA (eaL F n m m) (k : Int)) ↔ nxB F i k = true := by
  constructor
  · rintro ⟨x, h1, h2⟩
    obtain ⟨a, a1, rfl, a2⟩ := es_mem.1 h1
    obtain ⟨b, b1, b2, b3⟩ := es_mem.1 h2
    obtain rfl : a = b := by omega
    rw [List.getD_eq_getElem?_getD, List.getElem?_eq_getElem a1, Option.getD_some] at a2 b3
    obtain ⟨p, q, pq, qm, e, _⟩ := ea_iff.1 (List.getElem_mem a1)
    rw [e] at a2 b3
    rw [nxB_other ne]
    exact nxE_edge.2 ⟨p, q, by omega, (th_in hi).1 a2, (th_in hk).1 b3⟩
  · intro h
    obtain ⟨e, he, h1, h2⟩ := ea_share hi hk hF h
    obtain ⟨a, ha, rfl⟩ := List.mem_iff_getElem.1 he
    have z : (eaL F n m m).getD a (0, 0, []) = (eaL F n m m)[a] := by rw [List.getD_eq_getElem?_getD, List.getElem?_eq_getElem ha]; rfl
    exact ⟨(a : Int), es_mem.2 ⟨a, ha, rfl, by rw [z]; exact h1⟩, es_mem.2 ⟨a, ha, rfl, by rw [z]; exact h2⟩⟩
/-- Which edges some triangles have. -/
def rcB (EL : List EdL) (l : List Int) (x : Int) : Bool := l.any fun k => isIn (esA EL k) x
theorem rcB_iff {EL : List EdL} {l : List Int} {x : Int} : rcB EL l x = true ↔ ∃ k ∈ l, x ∈ esA EL k := by
  unfold rcB
  rw [List.any_eq_true]
  constructor
  · rintro ⟨k, h, q⟩; exact ⟨k, h, isIn_iff.1 q⟩
  · rintro ⟨k, h, q⟩; exact ⟨k, h, isIn_iff.2 q⟩
theorem rcB_snoc (EL : List EdL) (l : List Int) (i x : Int) : rcB EL (l ++ [i]) x = (rcB EL l x || isIn (esA EL i) x) := by
  unfold rcB
  rw [List.any_append]
  simp
/-- A triangle hangs at a chart, if one of its edges is reached. -/
def hgB (EL : List EdL) (l : List Int) (i : Int) : Bool := (esA EL i).any (rcB EL l)
theorem hg_nx {F : Nat → Nat → Int} {n m i : Nat} (hi : i < n) (hF : ∀ j, j = 0 ∨ j = 3 ∨ j = 6 → 0 ≤ F i j ∧ F i j < (m : Int)) {l : List Int} (hl : ∀ x ∈ l, 0 ≤ x ∧ x < (n : Int)) (hn : ¬ (i : Int) ∈ l) :
    hgB (eaL F n m m) l (i : Int) = l.any fun k => isIn (nxL F i n) k := by
  rw [Bool.eq_iff_iff]
  unfold hgB
  rw [List.any_eq_true, List.any_eq_true]
  constructor
  · rintro ⟨x, h1, h2⟩
    obtain ⟨k, hk, h3⟩ := rcB_iff.1 h2
    obtain ⟨k0, kn⟩ := hl k hk
    obtain ⟨k, rfl⟩ := Int.eq_ofNat_of_zero_le k0
    have z := (es_share hi (show k < n by omega) hF (fun e => hn (by rw [e]; exact hk))).1 ⟨x, h1, h3⟩
    exact ⟨_, hk, isIn_iff.2 (nx_mem.2 ⟨k, by omega, rfl, z⟩)⟩
  · rintro ⟨k, hk, h⟩
    obtain ⟨k', kn, rfl, z⟩ := nx_mem.1 (isIn_iff.1 h)
    obtain ⟨x, h1, h2⟩ := (es_share hi kn hF (fun e => hn (by rw [e]; exact hk))).2 z
    exact ⟨x, h1, rcB_iff.2 ⟨_, hk, h2⟩⟩
/-- One by one: the edges reached, as some of a triangle's edges are taken in. -/
theorem rc_take (EL : List EdL) (l : List Int) (i : Int) : (fun x => rcB EL l x || isIn ((esA EL i).take (esA EL i).length) x) = rcB EL (l ++ [i]) := by
  funext x
  rw [rcB_snoc, List.take_of_length_le (Nat.le_refl _)]
end Go.Proofs.Ytcnbbanpnoigdaa
/-
  Charts, pure: what the program reckons of a triangle, of a chart that grows, and of charts, is what is told of them.
-/
namespace Go.Proofs.Ytcnbbanpnoigdaa

namespace ChF
variable (F : ChF) (EL : List EdL)
/-- The program's: a triangle looks as the chart does, is in none, hangs at it, and is seen. -/
def pfB (T : List Int) (ax sd : Int) (l : List Int) (i : Int) : Bool := F.fb i ax sd && (!isIn T i && ((hgB EL l i || l.isEmpty) && l.all fun k => !F.ov ax i k))
/-- Edges in common tell what is next. -/
def Hang : Prop := ∀ (l : List Int) (i : Int), F.K i = true → (∀ x ∈ l, F.K x = true) → ¬ i ∈ l → hgB EL l i = l.any fun k => F.nx i k
theorem pf_fits (H : F.Hang EL) {T : List Int} {ax sd : Int} {l : List Int} (hl : ∀ k ∈ l, F.fb k ax sd = true) (hT : ∀ k ∈ l, k ∈ T) (i : Int) : F.pfB EL T ax sd l i = (!isIn T i && F.fits ax sd l i) := by
  unfold pfB fits
  cases hf : F.fb i ax sd with
  | false => rw [Bool.false_and, Bool.false_and, Bool.and_false]
  | true =>
    rw [Bool.true_and, Bool.true_and]
    cases ht : isIn T i with
    | true => rfl
    | false =>
      have hn : ¬ i ∈ l := fun q => isIn_not.1 ht (hT i q)
      rw [isIn_not.2 hn, H l i (F.fb_iff.1 hf).1 (fun x hx => (F.fb_iff.1 (hl x hx)).1) hn]
      have e : (l.all fun k => F.fb k ax sd && !F.ov ax i k) = l.all fun k => !F.ov ax i k := by
        rw [Bool.eq_iff_iff, List.all_eq_true, List.all_eq_true]
        constructor
        · intro h k hk
          have z := h k hk
          rw [hl k hk, Bool.true_and] at z
          exact z
        · intro h k hk
          rw [hl k hk, Bool.true_and]
          exact h k hk
      rw [e]
      show (true && _) = (true && (true && _))
      rw [Bool.true_and, Bool.true_and, Bool.true_and]
      cases (l.any fun k => F.nx i k) <;> cases l.isEmpty <;> cases (l.all fun k => !F.ov ax i k) <;> rfl
/-- The least triangle that the program finds. -/
theorem pf_least (H : F.Hang EL) {P : List Int} {ax sd : Int} {c : List Int} (hl : ∀ k ∈ c, F.fb k ax sd = true) : ((List.range F.n).find? fun i : Nat => F.pfB EL (P ++ c) ax sd c (i : Int)) = F.least ax sd P c := by
  unfold least
  congr 1
  funext i
  rw [F.pf_fits EL H hl (fun k hk => List.mem_append.2 (.inr hk))]
  have e : isIn (P ++ c) (i : Int) = (isIn P i || isIn c i) := by
    rw [Bool.eq_iff_iff, Bool.or_eq_true, isIn_iff, isIn_iff, isIn_iff, List.mem_append]
  rw [e]
  cases isIn P (i : Int) <;> cases isIn c (i : Int) <;> rfl
/-- A chart under way, from no triangle on. -/
def Wy (ax sd : Int) (P : List Int) (k : Nat) (c : List Int) : Prop := c = [] ∨ F.Way ax sd P k c
theorem Wy.face {ax sd : Int} {P : List Int} {k : Nat} {c : List Int} (h : F.Wy ax sd P k c) : ∀ x ∈ c, F.fb x ax sd = true := fun x hx => by
  rcases h with rfl | h
  · cases hx
  · exact h.1.face x hx
theorem Wy.len {ax sd : Int} {P : List Int} {k : Nat} {c : List Int} (h : F.Wy ax sd P k c) : c.length ≤ F.n := by
  rcases h with rfl | h
  · exact Nat.zero_le _
  · exact h.len
theorem least_nil {k : Nat} (hk : k < F.n) {P : List Int} (h : F.K k = true) (q : ¬ (k : Int) ∈ P) (hw : ∀ j : Nat, j < k → F.K j = true → (j : Int) ∈ P) : F.least (F.A k) (F.S k) P [] = some k := by
  refine range_hit ?_ ?_ hk
  · rw [List.find?_eq_none]
    intro j hj
    have hj := List.mem_range.1 hj
    intro z
    rw [Bool.and_eq_true, Bool.and_eq_true, Bool.not_eq_true', isIn_not] at z
    exact z.1 (hw j hj (F.fb_iff.1 (F.fits_iff.1 z.2.2).1).1)
  · rw [isIn_not.2 q, isIn_not.2 List.not_mem_nil, F.fits_nil (F.fb_self h)]
    rfl
theorem Wy.more {k : Nat} (hk : k < F.n) {P : List Int} (h : F.K k = true) (q : ¬ (k : Int) ∈ P) (hw : ∀ j : Nat, j < k → F.K j = true → (j : Int) ∈ P) {c : List Int} (hc : F.Wy (F.A k) (F.S k) P k c) {i : Nat} (hi : F.least (F.A k) (F.S k) P c = some i) : F.Wy (F.A k) (F.S k) P k (c ++ [(i : Int)]) := by
  rcases hc with rfl | hc
  · rw [F.least_nil hk h q hw] at hi
    cases hi
    exact .inr (F.way_one hk h q)
  · exact .inr (hc.more F hi)
theorem Wy.done {k : Nat} (hk : k < F.n) {P : List Int} (h : F.K k = true) (q : ¬ (k : Int) ∈ P) (hw : ∀ j : Nat, j < k → F.K j = true → (j : Int) ∈ P) {c : List Int} (hc : F.Wy (F.A k) (F.S k) P k c) (hi : F.least (F.A k) (F.S k) P c = none) : c = F.grC (F.A k) (F.S k) P F.n [(k : Int)] := by
  rcases hc with rfl | hc
  · rw [F.least_nil hk h q hw] at hi
    cases hi
  · exact hc.done F hi
/-- Charts grown one by one: k triangles are through. -/
theorem grow_to {k : Nat} : ∀ i, k ≤ i → (∀ j : Nat, k ≤ j → j < i → F.K j = false ∨ (j : Int) ∈ all (F.grow k)) → F.grow i = F.grow k
  | 0, h, _ => by rw [Nat.le_zero.1 h]
  | i + 1, h, hs => by
    rcases Nat.lt_or_ge i k with q | q
    · rw [show k = i + 1 by omega]
    · have ih := grow_to i q fun j a b => hs j a (by omega)
      rw [F.grow_skip (by rw [ih]; exact hs i q (by omega)), ih]
/-- What waits for a chart. -/
def wtB (T : List Int) (i : Int) : Bool := F.K i && !isIn T i
theorem wt_first {k i : Nat} (hk : ∀ j : Nat, j < k → F.K j = true → (j : Int) ∈ all (F.grow k)) (h : ((List.range F.n).find? fun i : Nat => F.wtB (all (F.grow k)) (i : Int)) = some i) : i < F.n ∧ k ≤ i ∧ F.K i = true ∧ ¬ (i : Int) ∈ all (F.grow k) ∧ F.grow i = F.grow k ∧ ∀ j : Nat, j < i → F.K j = true → (j : Int) ∈ all (F.grow k) := by
  have h1 := List.mem_range.1 (List.mem_of_find?_eq_some h)
  have h2 := List.find?_some h
  unfold wtB at h2
  rw [Bool.and_eq_true, Bool.not_eq_true', isIn_not] at h2
  have h3 : ∀ j : Nat, j < i → F.K j = true → (j : Int) ∈ all (F.grow k) := fun j hj hK => by
    obtain ⟨_, l1, l2, e, hno⟩ := List.find?_eq_some_iff_append.1 h
    have hl : i = l1.length := by
      have z : (List.range F.n)[l1.length]? = some i := by rw [e, List.getElem?_append_right (Nat.le_refl _), Nat.sub_self]; rfl
      rw [List.getElem?_range (by have := (List.getElem?_eq_some_iff.1 z).1; simpa using this)] at z
      exact (Option.some.inj z).symm
    have hm : j ∈ l1 := by
      have z : (List.range F.n)[j]? = l1[j]? := by rw [e, List.getElem?_append_left (by omega)]
      rw [List.getElem?_range (by omega)] at z
      exact List.mem_of_getElem? z.symm
    have z := hno j hm
    unfold wtB at z
    rw [hK, Bool.true_and, Bool.not_not] at z
    exact isIn_iff.1 z
  have h4 : k ≤ i := by
    rcases Nat.lt_or_ge i k with q | q
    · exact absurd (hk i q h2.1) h2.2
    · exact q
  refine ⟨h1, h4, h2.1, h2.2, F.grow_to i h4 fun j _ b => ?_, h3⟩
  cases hK : F.K j with
  | false => exact .inl rfl
  | true => exact .inr (h3 j b hK)
theorem wt_none {k : Nat} (hk : k ≤ F.n) (h : ((List.range F.n).find? fun i : Nat => F.wtB (all (F.grow k)) (i : Int)) = none) : F.grow F.n = F.grow k := by
  refine F.grow_to F.n hk fun j _ b => ?_
  have z := List.find?_eq_none.1 h j (List.mem_range.2 b)
  unfold wtB at z
  cases hK : F.K j with
  | false => exact .inl rfl
  | true =>
    rw [hK, Bool.true_and, Bool.not_eq_true', Bool.not_eq_false] at z
    exact .inr (isIn_iff.1 z)
/-- One chart followed, triangle by triangle. -/
def folB (T : List Int) (ax sd : Int) (l : List Int) : Bool := !l.isEmpty && (List.range l.length).all fun j => F.pfB EL (T ++ l.take j) ax sd (l.take j) (l.getD j 0)
theorem pf_face {T : List Int} {ax sd : Int} {l : List Int} {i : Int} (h : F.pfB EL T ax sd l i = true) : F.fb i ax sd = true ∧ ¬ i ∈ T := by
  unfold pfB at h
  rw [Bool.and_eq_true, Bool.and_eq_true, Bool.not_eq_true', isIn_not] at h
  exact ⟨h.1, h.2.1⟩
theorem take_face {T : List Int} {ax sd : Int} {l : List Int} {m : Nat} (hm : m ≤ l.length) (h : ∀ j, j < m → F.pfB EL (T ++ l.take j) ax sd (l.take j) (l.getD j 0) = true) : ∀ x ∈ l.take m, F.fb x ax sd = true := fun x hx => by
  obtain ⟨j, hj, rfl⟩ := List.mem_take_iff_getElem.1 hx
  have z := (F.pf_face EL (h j (by omega))).1
  rwa [List.getD_eq_getElem?_getD, List.getElem?_eq_getElem (by omega), Option.getD_some] at z
theorem fol_good (H : F.Hang EL) {T : List Int} {ax sd : Int} {l : List Int} (h : F.folB EL T ax sd l = true) : F.goodB (ax, sd, l) = true ∧ (∀ x ∈ l, F.K x = true ∧ ¬ x ∈ T) ∧ l.Nodup := by
  unfold folB at h
  rw [Bool.and_eq_true, Bool.not_eq_true', List.isEmpty_eq_false_iff, List.all_eq_true] at h
  have hp := fun j (hj : j < l.length) => h.2 j (List.mem_range.2 hj)
  have hf := F.take_face EL (Nat.le_refl _) hp
  rw [List.take_of_length_le (Nat.le_refl _)] at hf
  refine ⟨F.goodB_iff.2 ⟨h.1, fun j hj => ?_⟩, fun x hx => ?_, ?_⟩
  · have hj : j < l.length := hj
    have z := hp j hj
    rw [F.pf_fits EL H (F.take_face EL (Nat.le_of_lt hj) fun q hq => hp q (by omega)) (fun k hk => List.mem_append.2 (.inr hk)), Bool.and_eq_true, List.getD_eq_getElem?_getD, List.getElem?_eq_getElem hj, Option.getD_some] at z
    exact z.2
  · obtain ⟨j, hj, rfl⟩ := List.mem_iff_getElem.1 hx
    have z := F.pf_face EL (hp j hj)
    rw [List.getD_eq_getElem?_getD, List.getElem?_eq_getElem hj, Option.getD_some, List.mem_append] at z
    exact ⟨(F.fb_iff.1 z.1).1, fun q => z.2 (.inl q)⟩
  · rw [List.nodup_iff_pairwise_ne, List.pairwise_iff_getElem]
    intro i j hi hj hij e
    have z := (F.pf_face EL (hp j hj)).2
    rw [List.getD_eq_getElem?_getD, List.getElem?_eq_getElem hj, Option.getD_some, List.mem_append] at z
    exact z (.inr (by rw [← e]; exact List.mem_take_iff_getElem.2 ⟨i, by omega, rfl⟩))
theorem place_of {n : Nat} {x : Int} (h : 0 ≤ x ∧ x < (n : Int)) : ∃ k : Nat, k < n ∧ x = (k : Int) := ⟨x.toNat, by omega, by omega⟩
/-- Charts are right, if each can be followed, and none waits. -/
theorem right_all (H : F.Hang EL) {L : List ChT} (h : ∀ m c, L[m]? = some c → F.folB EL (all (L.take m)) c.1 c.2.1 c.2.2 = true) (q : ∀ i : Nat, i < F.n → F.K i = true → (i : Int) ∈ all L) : F.rightB L = true := by
  have hn : ∀ m, m ≤ L.length → (all (L.take m)).Nodup := by
    intro m
    induction m with
    | zero => exact fun _ => List.nodup_nil
    | succ m ih =>
      intro hm
      have hc : L[m]? = some L[m] := List.getElem?_eq_getElem hm
      rw [all_take hc, List.nodup_append]
      obtain ⟨_, h2, h3⟩ := F.fol_good EL H (h m _ hc)
      exact ⟨ih (by omega), h3, fun a ha b hb e => (h2 b hb).2 (by rw [← e]; exact ha)⟩
  have hN := hn L.length (Nat.le_refl _)
  rw [List.take_of_length_le (Nat.le_refl _)] at hN
  refine F.right_yes (fun c hc => ?_) fun i hi => F.onceB_iff.2 fun hK => nodup_once hN (q i hi hK)
  obtain ⟨m, hm⟩ := List.mem_iff_getElem?.1 hc
  exact (F.fol_good EL H (h m c hm)).1
theorem right_wait {L : List ChT} {i : Nat} (hi : i < F.n) (hK : F.K i = true) (h : ¬ (i : Int) ∈ all L) : F.rightB L = false :=
  F.once_no hi (by cases q : F.onceB L i with
    | false => rfl
    | true => have z := F.onceB_iff.1 q hK; rw [List.count_eq_zero.2 h] at z; cases z)
theorem count_two {l m : List Int} {x : Int} (h1 : x ∈ l) (h2 : x ∈ m) : ¬ (l ++ m).count x = 1 := fun e => by
  rw [List.count_append] at e
  have := List.count_pos_iff.2 h1
  have := List.count_pos_iff.2 h2
  omega
theorem fol_no (H : F.Hang EL) (hpl : ∀ i, F.K i = true → 0 ≤ i ∧ i < (F.n : Int)) {L : List ChT} {m : Nat} {c : ChT} (hc : L[m]? = some c) (h : F.folB EL (all (L.take m)) c.1 c.2.1 c.2.2 = false) : F.rightB L = false := by
  cases q : F.rightB L with
  | false => rfl
  | true =>
    obtain ⟨r1, r2⟩ := F.rightB_iff.1 q
    have hm : m < L.length := (List.getElem?_eq_some_iff.1 hc).1
    obtain ⟨h0, ch⟩ := r1 c (List.mem_of_getElem? hc)
    have hsplit : all L = all (L.take m) ++ (c.2.2 ++ all (L.drop (m + 1))) := by
      have e : L = L.take m ++ c :: L.drop (m + 1) := by
        have z : L[m] = c := (List.getElem?_eq_some_iff.1 hc).2
        have z2 := List.drop_eq_getElem_cons hm
        rw [z] at z2
        rw [← z2, List.take_append_drop]
      have ap : ∀ A B : List ChT, all (A ++ B) = all A ++ all B := fun A B => by
        induction A with
        | nil => rfl
        | cons a A ih => show a.2.2 ++ all (A ++ B) = (a.2.2 ++ all A) ++ all B; rw [ih, List.append_assoc]
      conv => lhs; rw [e]
      rw [ap]
      rfl
    have yes : F.folB EL (all (L.take m)) c.1 c.2.1 c.2.2 = true := by
      unfold folB
      rw [Bool.and_eq_true, Bool.not_eq_true', List.isEmpty_eq_false_iff, List.all_eq_true]
      refine ⟨h0, fun j hj => ?_⟩
      have hj := List.mem_range.1 hj
      have z := ch j hj
      have face : ∀ k ∈ c.2.2.take j, F.fb k c.1 c.2.1 = true := fun k hk => ((F.fits_iff.1 z).2.2.1 k hk).1
      rw [F.pf_fits EL H face (fun k hk => List.mem_append.2 (.inr hk)), List.getD_eq_getElem?_getD, List.getElem?_eq_getElem hj, Option.getD_some, z, Bool.and_true, Bool.not_eq_true', isIn_not, List.mem_append]
      have hK := (F.fb_iff.1 (F.fits_iff.1 z).1).1
      obtain ⟨k, hk, e⟩ := place_of (hpl _ hK)
      have one := r2 k hk (by rw [← e]; exact hK)
      rw [← e, hsplit] at one
      rintro (u | u)
      · exact count_two u (List.mem_append.2 (.inl (List.getElem_mem hj))) one
      · exact (F.fits_iff.1 z).2.1 u
    rw [yes] at h
    cases h
end ChF
/-- A tame mesh's triangles: edges in common tell what is next; what has a facing is a place. -/
theorem chF_place {t : Bool} {n : Nat} {FV FC : Nat → Nat → Int} {i : Int} (h : (chF t n FV FC).K i = true) : 0 ≤ i ∧ i < (n : Int) := by
  have h : ((t && plB i n) && (fcE true (nmA FV FC i.toNat) (nmB FV FC i.toNat) (nmC FV FC i.toNat) == 0)) = true := h
  rw [Bool.and_eq_true, Bool.and_eq_true] at h
  by_cases p0 : 0 ≤ i
  · have z := h.1.2
    rw [plB_ge p0, decide_eq_true_eq] at z
    exact ⟨p0, z⟩
  · have z := h.1.2
    rw [plB_no p0] at z
    cases z
theorem chF_hang {n m : Nat} {FV FC : Nat → Nat → Int} (hF : ∀ i, i < n → ∀ j, j = 0 ∨ j = 3 ∨ j = 6 → 0 ≤ FC i j ∧ FC i j < (m : Int)) : (chF true n FV FC).Hang (eaL FC n m m) := fun l i hi hl hn => by
  obtain ⟨k, hk, rfl⟩ := ChF.place_of (chF_place hi)
  rw [hg_nx hk (hF k hk) (fun x hx => chF_place (hl x hx)) hn]
  show _ = l.any fun x => isIn (nxA (okN true (k : Int) n) FC (k : Int) n) x
  have e : okN true (k : Int) n = true := by unfold okN; rw [Bool.true_and, plB_ge (by omega), decide_eq_true_eq]; omega
  rw [e]
  rfl
end Go.Proofs.Ytcnbbanpnoigdaa
