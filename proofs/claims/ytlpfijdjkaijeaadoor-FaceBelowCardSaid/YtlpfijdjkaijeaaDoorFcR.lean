/-
  Package face, of no program: numerals of places; what a printed corner tells.
-/
import Derived.Test.YtlpfijdjkaijeaaDoorFcA
import Derived.Test.YtlpfijdjkaijeaaDoorFcD
namespace Go.Proofs.YtlpfijdjkaijeaaDoor

theorem dec_head (u : Nat) (h : 0 < u) : headZ (Lib.decDigits u) = false := by
  induction u using Nat.strongRecOn with
  | _ u ih =>
    by_cases h10 : u < 10
    · rw [Lib.decDigits_one h10]
      show decide ((UInt8.ofNat (48 + u)).toNat = 48) = false
      rw [dig_nat h10]
      exact decide_eq_false (by omega)
    · rw [decD_big h10]
      have k := ih (u / 10) (by omega) (by omega)
      cases e : Lib.decDigits (u / 10) with
      | nil => exact absurd e (dec_ne _)
      | cons b t => rw [e] at k; exact k
theorem wholeD_dec (bl : Bool) (u : Nat) (h : 0 < u) (h9 : u ≤ 9999999) : wholeD bl (Lib.decDigits u) = (if bl = true then -(u : Int) else (u : Int), 0) := by
  have e := wholeD_ok bl (Lib.decDigits u) (by
    rw [not_or, not_or, not_or]
    refine ⟨fun q => dec_ne u (List.length_eq_zero_iff.1 q), by have := dec_len8 u h9; omega, fun q => by rw [dec_head u h] at q; exact absurd q.1 (by decide), fun q => q (List.all_eq_true.2 (dec_isD u))⟩)
  rw [e, dec_val]
theorem wholeS_dec (u : Nat) (h : 0 < u) (h9 : u ≤ 9999999) : wholeS (Lib.decDigits u) = ((u : Int), 0) := by
  have e := wholeD_dec false u h h9
  have hd := dec_isD u
  cases k : Lib.decDigits u with
  | nil => exact absurd k (dec_ne u)
  | cons b t =>
    rw [k] at e hd
    show (if b.toNat = 45 then wholeD true t else wholeD false (b :: t)) = _
    rw [if_neg (by have := (isD_iff b).1 (hd b (by simp)); omega), e]; rfl
theorem wholeS_neg (u : Nat) (h : 0 < u) (h9 : u ≤ 9999999) : wholeS (45 :: Lib.decDigits u) = (-(u : Int), 0) := by
  show (if (45 : UInt8).toNat = 45 then wholeD true (Lib.decDigits u) else wholeD false (45 :: Lib.decDigits u)) = _
  rw [if_pos (by decide), wholeD_dec true u h h9]; rfl
theorem dec_no47 (u : Nat) : ¬ (47 : UInt8) ∈ Lib.decDigits u := fun h => by have := (isD_iff 47).1 (dec_isD u 47 h); revert this; decide
theorem cut_no : ∀ A : List UInt8, ¬ (47 : UInt8) ∈ A → cutS A = none
  | [], _ => rfl
  | b :: t, h => by
    show (if b = 47 then some ([], t) else (cutS t).map fun r => (b :: r.1, r.2)) = none
    rw [if_neg (fun q => h (by rw [q]; simp)), cut_no t (fun q => h (List.mem_cons_of_mem _ q))]; rfl
theorem cut_at : ∀ A R : List UInt8, ¬ (47 : UInt8) ∈ A → cutS (A ++ 47 :: R) = some (A, R)
  | [], R, _ => rfl
  | b :: t, R, h => by
    show (if b = 47 then some ([], t ++ 47 :: R) else (cutS (t ++ 47 :: R)).map fun r => (b :: r.1, r.2)) = _
    rw [if_neg (fun q => h (by rw [q]; simp)), cut_at t R (fun q => h (List.mem_cons_of_mem _ q))]; rfl
theorem placeS_dec (p m : Int) (h0 : 0 ≤ p) (h9 : p ≤ 9999998) : placeS (Lib.decDigits (p + 1).toNat) m = if p < m then (p, 0) else (0, 7) := by
  have e := wholeS_dec (p + 1).toNat (by omega) (by omega)
  have e1 : ((p + 1).toNat : Int) = p + 1 := by omega
  rw [e1] at e
  have a : (wholeS (Lib.decDigits (p + 1).toNat)).1 = p + 1 := by rw [e]
  have b : (wholeS (Lib.decDigits (p + 1).toNat)).2 = 0 := by rw [e]
  by_cases h : p < m
  · rw [if_pos h, place_up b (by omega) (by omega), a, show p + 1 - 1 = p from by omega]
  · rw [if_neg h, place_far b (by omega) (by omega)]
theorem wOK_dec (p : Int) (h0 : 0 ≤ p) (h9 : p ≤ 9999998) : wOK (Lib.decDigits (p + 1).toNat) = true := by
  rw [wOK_iff, wholeS_dec _ (by omega) (by omega)]
/-- Is there a place of each kind that is told? -/
def thereB (x0 x1 x2 v t n : Int) : Bool := decide (x0 < v ∧ (x1 < 0 ∨ x1 < t) ∧ (x2 < 0 ∨ x2 < n))
theorem placeO_dec (p m : Int) (h0 : 0 ≤ p) (h9 : p ≤ 9999998) : placeO (Lib.decDigits (p + 1).toNat) m = if p < m then (p, 0) else (0, 7) := by
  unfold placeO; rw [if_neg (dec_ne _)]; exact placeS_dec p m h0 h9
theorem prS_pos (p : Int) (h : ¬ p = -1) : prS p = Lib.decDigits (p + 1).toNat := if_neg h
theorem placeO_prS (p m : Int) (h : okI p = true) : placeO (prS p) m = if p < 0 ∨ p < m then (p, 0) else (0, 7) := by
  rw [okI_iff] at h
  by_cases h1 : p = -1
  · subst h1; rfl
  · rw [prS_pos p h1, placeO_dec p m (by omega) (by omega)]
    by_cases h2 : p < m
    · rw [if_pos h2, if_pos (.inr h2)]
    · rw [if_neg h2, if_neg (by omega)]
theorem parts_1 {l : List UInt8} (h : cutS l = none) : partsS l = [l] := by unfold partsS; rw [h]
theorem parts_2 {l a r : List UInt8} (h : cutS l = some (a, r)) (k : cutS r = none) : partsS l = [a, r] := by unfold partsS; rw [h]; simp only [k]
theorem parts_3 {l a r b c : List UInt8} (h : cutS l = some (a, r)) (k : cutS r = some (b, c)) : partsS l = [a, b, c] := by unfold partsS; rw [h]; simp only [k]
theorem form_text (x0 x1 x2 : Int) (h0 : 0 ≤ x0) (h1 : okI x0 = true) (h2 : okI x1 = true) (h3 : okI x2 = true) : formS (partsS (textC x0 x1 x2)) = some (Lib.decDigits (x0 + 1).toNat, prS x1, prS x2) := by
  rw [okI_iff] at h1 h2 h3
  have w0 := wOK_dec x0 h0 h1.2
  have n0 := dec_no47 (x0 + 1).toNat
  by_cases a : x1 = -1
  · subst a
    by_cases b : x2 = -1
    · subst b
      rw [text_nn]
      rw [parts_1 (cut_no _ n0)]
      show (if wOK _ = true then _ else _) = _
      rw [if_pos w0]; rfl
    · have w2 := wOK_dec x2 (by omega) h3.2
      have e : textC x0 (-1) x2 = Lib.decDigits (x0 + 1).toNat ++ 47 :: ([] ++ 47 :: Lib.decDigits (x2 + 1).toNat) := by rw [text_nN x0 x2 b, prS_pos x2 b]; simp [prS]
      rw [e]
      rw [parts_3 (cut_at _ _ n0) (cut_at [] _ (by simp))]
      show (if wOK _ = true ∧ (([] : List UInt8) = [] ∨ _) ∧ wOK _ = true then _ else _) = _
      rw [if_pos ⟨w0, .inl rfl, w2⟩, prS_pos x2 b]; rfl
  · have w1 := wOK_dec x1 (by omega) h2.2
    by_cases b : x2 = -1
    · subst b
      have e : textC x0 x1 (-1) = Lib.decDigits (x0 + 1).toNat ++ 47 :: Lib.decDigits (x1 + 1).toNat := by rw [text_tn x0 x1 a, prS_pos x1 a]; rfl
      rw [e]
      rw [parts_2 (cut_at _ _ n0) (cut_no _ (dec_no47 _))]
      show (if wOK _ = true ∧ wOK _ = true then _ else _) = _
      rw [if_pos ⟨w0, w1⟩, prS_pos x1 a]; rfl
    · have w2 := wOK_dec x2 (by omega) h3.2
      have e : textC x0 x1 x2 = Lib.decDigits (x0 + 1).toNat ++ 47 :: (Lib.decDigits (x1 + 1).toNat ++ 47 :: Lib.decDigits (x2 + 1).toNat) := by rw [text_tN x0 x1 x2 a b, prS_pos x1 a, prS_pos x2 b]; simp
      rw [e]
      rw [parts_3 (cut_at _ _ n0) (cut_at _ _ (dec_no47 _))]
      show (if wOK _ = true ∧ (_ ∨ wOK _ = true) ∧ wOK _ = true then _ else _) = _
      rw [if_pos ⟨w0, .inr w1, w2⟩, prS_pos x1 a, prS_pos x2 b]
theorem corner_text (x0 x1 x2 v t n : Int) (h0 : 0 ≤ x0) (h1 : okI x0 = true) (h2 : okI x1 = true) (h3 : okI x2 = true) : cornerS (textC x0 x1 x2) v t n = if thereB x0 x1 x2 v t n = true then (x0, x1, x2, 0) else (0, 0, 0, 7) := by
  unfold cornerS
  rw [form_text x0 x1 x2 h0 h1 h2 h3]
  show cornerT _ _ _ v t n = _
  unfold cornerT thereB
  rw [placeO_dec x0 v h0 ((okI_iff x0).1 h1).2, placeO_prS x1 t h2, placeO_prS x2 n h3]
  by_cases a : x0 < v
  · rw [if_pos a]
    by_cases b : x1 < 0 ∨ x1 < t
    · rw [if_pos b]
      by_cases c : x2 < 0 ∨ x2 < n
      · rw [if_pos c]; simp [a, b, c]
      · rw [if_neg c]; simp [c]
    · rw [if_neg b]; simp [b]
  · rw [if_neg a]; simp [a]
end Go.Proofs.YtlpfijdjkaijeaaDoor
