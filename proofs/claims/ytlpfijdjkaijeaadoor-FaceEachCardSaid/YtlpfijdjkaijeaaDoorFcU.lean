/-
  FaceEach. (gen/FcU.py)
-/
import Derived.Test.YtlpfijdjkaijeaaDoorFcP
namespace Go.Proofs.YtlpfijdjkaijeaaDoor
open Go.RowKit

theorem form_head {P : List (List UInt8)} {a b c : List UInt8} (h : formS P = some (a, b, c)) : wOK a = true := by
  match P, h with
  | [], h => cases h
  | [x], h =>
    change (if wOK x = true then some (x, ([] : List UInt8), ([] : List UInt8)) else none) = _ at h
    split at h
    · rename_i k; cases h; exact k
    · cases h
  | [x, y], h =>
    change (if wOK x = true ∧ wOK y = true then some (x, y, ([] : List UInt8)) else none) = _ at h
    split at h
    · rename_i k; cases h; exact k.1
    · cases h
  | [x, y, z], h =>
    change (if wOK x = true ∧ (y = [] ∨ wOK y = true) ∧ wOK z = true then some (x, y, z) else none) = _ at h
    split at h
    · rename_i k; cases h; exact k.1
    · cases h
  | _ :: _ :: _ :: _ :: _, h => cases h
theorem placeO_in (l : List UInt8) (m : Int) (h : (placeO l m).2 = 0) : -1 ≤ (placeO l m).1 ∧ (0 ≤ (placeO l m).1 → (placeO l m).1 < m) := by
  unfold placeO at h ⊢
  split
  · exact ⟨by decide, fun q => absurd q (by decide)⟩
  · rename_i k
    rw [if_neg k] at h
    have := place_in l m; omega
theorem placeO_err (l : List UInt8) (m : Int) : (placeO l m).2 = 0 ∨ (placeO l m).2 = 6 ∨ (placeO l m).2 = 7 := by
  unfold placeO
  split
  · exact .inl rfl
  · have := place_in l m; omega
theorem corner_err (l : List UInt8) (v t n : Int) : (cornerS l v t n).2.2.2 = 0 ∨ (cornerS l v t n).2.2.2 = 6 ∨ (cornerS l v t n).2.2.2 = 7 := by
  unfold cornerS
  cases h : formS (partsS l) with
  | none => exact .inr (.inl rfl)
  | some p =>
    obtain ⟨a, b, c⟩ := p
    show (cornerT a b c v t n).2.2.2 = 0 ∨ (cornerT a b c v t n).2.2.2 = 6 ∨ (cornerT a b c v t n).2.2.2 = 7
    unfold cornerT
    split
    · exact placeO_err a v
    · split
      · exact placeO_err b t
      · split
        · exact placeO_err c n
        · exact .inl rfl
theorem corner_in (l : List UInt8) (v t n : Int) (h : (cornerS l v t n).2.2.2 = 0) : (0 ≤ (cornerS l v t n).1 ∧ (cornerS l v t n).1 < v) ∧ (-1 ≤ (cornerS l v t n).2.1 ∧ (0 ≤ (cornerS l v t n).2.1 → (cornerS l v t n).2.1 < t)) ∧ (-1 ≤ (cornerS l v t n).2.2.1 ∧ (0 ≤ (cornerS l v t n).2.2.1 → (cornerS l v t n).2.2.1 < n)) := by
  unfold cornerS at h ⊢
  cases hf : formS (partsS l) with
  | none => rw [hf] at h; exact absurd (show (6 : Int) = 0 from h) (by decide)
  | some p =>
    obtain ⟨a, b, c⟩ := p
    rw [hf] at h
    change (cornerT a b c v t n).2.2.2 = 0 at h
    show (0 ≤ (cornerT a b c v t n).1 ∧ (cornerT a b c v t n).1 < v) ∧ (-1 ≤ (cornerT a b c v t n).2.1 ∧ (0 ≤ (cornerT a b c v t n).2.1 → (cornerT a b c v t n).2.1 < t)) ∧ (-1 ≤ (cornerT a b c v t n).2.2.1 ∧ (0 ≤ (cornerT a b c v t n).2.2.1 → (cornerT a b c v t n).2.2.1 < n))
    unfold cornerT at h ⊢
    by_cases h0 : (placeO a v).2 = 0
    · rw [if_neg (fun q => q h0)] at h ⊢
      by_cases h1 : (placeO b t).2 = 0
      · rw [if_neg (fun q => q h1)] at h ⊢
        by_cases h2 : (placeO c n).2 = 0
        · rw [if_neg (fun q => q h2)]
          refine ⟨?_, placeO_in b t h1, placeO_in c n h2⟩
          have hne := (whole_no_stroke a (form_head hf)).2
          unfold placeO at h0 ⊢
          rw [if_neg hne] at h0 ⊢
          have := place_in a v; dsimp only; omega
        · rw [if_pos h2] at h; exact absurd h h2
      · rw [if_pos h1] at h; exact absurd h h1
    · rw [if_pos h0] at h; exact absurd h h0
theorem erC_err (F : Nat → ByteArray) (v t n : Int) (N : Nat) : erC F v t n N = 0 ∨ erC F v t n N = 6 ∨ erC F v t n N = 7 := by
  induction N with
  | zero => exact .inl rfl
  | succ k ih =>
    show (if erC F v t n k ≠ 0 then erC F v t n k else (cornerS (F k).data.toList v t n).2.2.2) = 0 ∨ (if erC F v t n k ≠ 0 then erC F v t n k else (cornerS (F k).data.toList v t n).2.2.2) = 6 ∨ (if erC F v t n k ≠ 0 then erC F v t n k else (cornerS (F k).data.toList v t n).2.2.2) = 7
    split
    · exact ih
    · exact corner_err _ _ _ _
theorem erC_all (F : Nat → ByteArray) (v t n : Int) {N : Nat} (h : erC F v t n N = 0) : ∀ i, i < N → (cornerS (F i).data.toList v t n).2.2.2 = 0 := by
  induction N with
  | zero => intro i hi; omega
  | succ k ih =>
    change (if erC F v t n k ≠ 0 then erC F v t n k else (cornerS (F k).data.toList v t n).2.2.2) = 0 at h
    by_cases h0 : erC F v t n k = 0
    · rw [if_neg (fun q => q h0)] at h
      intro i hi
      rcases (by omega : i < k ∨ i = k) with q | q
      · exact ih h0 i q
      · subst q; exact h
    · rw [if_pos h0] at h; exact absurd h h0
theorem alG_all (p : Int → Bool) (F : Nat → Nat → Int) {N : Nat} (h : alG p F N = true) : ∀ i, i < N → p (F i 1) = p (F 0 1) ∧ p (F i 2) = p (F 0 2) := by
  induction N with
  | zero => intro i hi; omega
  | succ k ih =>
    change (alG p F k && ((p (F k 1) == p (F 0 1)) && (p (F k 2) == p (F 0 2)))) = true at h
    rw [Bool.and_eq_true, Bool.and_eq_true, beq_iff_eq, beq_iff_eq] at h
    intro i hi
    rcases (by omega : i < k ∨ i = k) with q | q
    · exact ih h.1 i q
    · subst q; exact h.2
/-- Is all well with the first k of N texts? -/
def gd (F : Nat → ByteArray) (v t n : Int) (N k : Nat) : Bool := decide (3 ≤ N) && decide (erC F v t n k = 0)
theorem gd_yes {F : Nat → ByteArray} {v t n : Int} {N k : Nat} (h : gd F v t n N k = true) (x : (cornerS (F k).data.toList v t n).2.2.2 = 0) : gd F v t n N (k + 1) = true := by
  unfold gd at h ⊢
  rw [Bool.and_eq_true, decide_eq_true_eq, decide_eq_true_eq] at h ⊢
  refine ⟨h.1, ?_⟩
  show (if erC F v t n k ≠ 0 then _ else _) = _
  rw [if_neg (fun q => q h.2), x]
theorem gd_err {F : Nat → ByteArray} {v t n : Int} {N k : Nat} (x : ¬ (cornerS (F k).data.toList v t n).2.2.2 = 0) : gd F v t n N (k + 1) = false := by
  unfold gd
  have : ¬ erC F v t n (k + 1) = 0 := by
    show ¬ (if erC F v t n k ≠ 0 then erC F v t n k else (cornerS (F k).data.toList v t n).2.2.2) = 0
    split
    · assumption
    · exact x
  rw [decide_eq_false this, Bool.and_false]
theorem gd_no {F : Nat → ByteArray} {v t n : Int} {N k : Nat} (h : gd F v t n N k = false) : gd F v t n N (k + 1) = false := by
  by_cases x : (cornerS (F k).data.toList v t n).2.2.2 = 0
  · unfold gd at h ⊢
    by_cases h3 : 3 ≤ N
    · rw [decide_eq_true h3, Bool.true_and, decide_eq_false_iff_not] at h ⊢
      show ¬ (if erC F v t n k ≠ 0 then erC F v t n k else (cornerS (F k).data.toList v t n).2.2.2) = 0
      rw [if_pos h]; exact h
    · rw [decide_eq_false h3]; rfl
  · exact gd_err x
theorem fan_at (G : Nat → Nat → Int) (i k : Nat) (hk : k < 3) : ∃ j, j ≤ i + 2 ∧ ∀ c, c < 3 → fanF G i (k * 3 + c) = G j c := by
  unfold fanF
  rcases (by omega : k = 0 ∨ k = 1 ∨ k = 2) with rfl | rfl | rfl
  · exact ⟨0, by omega, fun c hc => by rw [if_pos (by omega)]; congr 1; omega⟩
  · exact ⟨i + 1, by omega, fun c hc => by rw [if_neg (by omega), if_pos (by omega)]; congr 1; omega⟩
  · exact ⟨i + 2, by omega, fun c hc => by rw [if_neg (by omega), if_neg (by omega)]; congr 1; omega⟩
theorem faceE_err {F : Nat → ByteArray} {v t n : Int} {N : Nat} (h : ¬ faceE F v t n N = 0) : faceE F v t n N = 6 ∨ (faceE F v t n N = 7 ∧ gd F v t n N N = false) := by
  unfold faceE at h ⊢
  by_cases h3 : N < 3
  · rw [if_pos h3]; exact .inl rfl
  · rw [if_neg h3] at h ⊢
    by_cases h0 : erC F v t n N = 0
    · rw [if_neg (fun q => q h0)] at h ⊢
      split
      · rename_i k; rw [if_pos k] at h; exact absurd rfl h
      · exact .inl rfl
    · rw [if_pos h0]
      rcases erC_err F v t n N with q | q | q
      · exact absurd q h0
      · exact .inl q
      · refine .inr ⟨q, ?_⟩
        unfold gd
        rw [decide_eq_false h0, Bool.and_false]
theorem faceE_ok {F : Nat → ByteArray} {v t n : Int} {N : Nat} (h : faceE F v t n N = 0) : 3 ≤ N ∧ erC F v t n N = 0 ∧ alG isM (cornF F v t n) N = true ∧ gd F v t n N N = true := by
  unfold faceE at h
  by_cases h3 : N < 3
  · rw [if_pos h3] at h; exact absurd h (by decide)
  · rw [if_neg h3] at h
    by_cases h0 : erC F v t n N = 0
    · rw [if_neg (fun q => q h0)] at h
      split at h
      · rename_i k
        refine ⟨by omega, h0, k, ?_⟩
        unfold gd
        rw [decide_eq_true h0, decide_eq_true (show 3 ≤ N by omega)]; rfl
      · exact absurd h (by decide)
    · rw [if_pos h0] at h; exact absurd h h0
/-- What FaceEach asks of a corner, by what is asked of its kind. -/
theorem corn_ok {F : Nat → ByteArray} {v t n : Int} {N : Nat} (he : erC F v t n N = 0) (ha : alG isM (cornF F v t n) N = true) (j : Nat) (hj : j < N) :
    (0 ≤ cornF F v t n j 0 ∧ cornF F v t n j 0 < v) ∧ (-1 ≤ cornF F v t n j 1 ∧ (0 ≤ cornF F v t n j 1 → cornF F v t n j 1 < t)) ∧ (-1 ≤ cornF F v t n j 2 ∧ (0 ≤ cornF F v t n j 2 → cornF F v t n j 2 < n)) ∧ (cornF F v t n j 1 < 0 ↔ cornF F v t n 0 1 < 0) ∧ (cornF F v t n j 2 < 0 ↔ cornF F v t n 0 2 < 0) := by
  obtain ⟨h1, h2, h3⟩ := corner_in (F j).data.toList v t n (erC_all F v t n he j hj)
  obtain ⟨a1, a2⟩ := alG_all isM _ ha j hj
  have g1 := corn_ge F v t n j 1
  have g2 := corn_ge F v t n 0 1
  have g3 := corn_ge F v t n j 2
  have g4 := corn_ge F v t n 0 2
  have iff1 : ∀ x y : Int, -1 ≤ x → -1 ≤ y → isM x = isM y → (x < 0 ↔ y < 0) := by
    intro x y hx hy h
    rw [← isN_eq hx, ← isN_eq hy] at h
    unfold isN at h
    exact decide_eq_decide.1 h
  exact ⟨h1, h2, h3, iff1 _ _ g1 g2 a1, iff1 _ _ g3 g4 a2⟩

end Go.Proofs.YtlpfijdjkaijeaaDoor
