/-
  Edges of triangles: each is found by its places, loose ones of loose ones, how many edges a triangle stands in. No program.
-/
import Derived.Test.YtkheomaihhcokaaEgU
import Derived.Test.YtkheomaihhcokaaGaD
namespace Go.Proofs.Ytkheomaihhcokaa

theorem ls_again (L : List (Int × Int × List Int)) : lsL (lsL L) = lsL L := by unfold lsL; rw [List.filter_filter]; simp
theorem ea_find {F : Nat → Nat → Int} {n m : Nat} {e : Int × Int × List Int} (h : e ∈ eaL F n m m) : (eaL F n m m).find? (fdB e.2.1 e.1) = some e := by
  obtain ⟨a, b, p, q, r, s⟩ := ea_iff.1 h
  cases f : (eaL F n m m).find? (fdB e.2.1 e.1) with
  | none => exact absurd (decide_eq_true (.inr ⟨rfl, rfl⟩)) (List.find?_eq_none.1 f e h)
  | some x =>
    obtain ⟨c, d, p', q', r', s'⟩ := ea_iff.1 (List.mem_of_find?_eq_some f)
    have k0 : fdB e.2.1 e.1 x = true := List.find?_some f
    have k : x.1 = e.2.1 ∧ x.2.1 = e.1 ∨ x.1 = e.1 ∧ x.2.1 = e.2.1 := of_decide_eq_true k0
    clear k0
    subst r
    subst r'
    have k' : (c : Int) = (b : Int) ∧ (d : Int) = (a : Int) ∨ (c : Int) = (a : Int) ∧ (d : Int) = (b : Int) := k
    obtain rfl : c = a := by omega
    obtain rfl : d = b := by omega
    rfl
/-- An edge's own shape: its places in order and in range, triangles that stand at it, rising. -/
theorem ea_shape {F : Nat → Nat → Int} {n m : Nat} {e : Int × Int × List Int} (h : e ∈ eaL F n m m) : 0 ≤ e.1 ∧ e.1 < e.2.1 ∧ e.2.1 < (m : Int) ∧ 0 < e.2.2.length ∧ e.2.2.Pairwise (· < ·) := by
  obtain ⟨a, b, p, q, rfl, s⟩ := ea_iff.1 h
  exact ⟨by show (0 : Int) ≤ (a : Int); omega, by show (a : Int) < (b : Int); omega, by show (b : Int) < (m : Int); omega, Nat.pos_of_ne_zero s, th_rise F a b n⟩

/-- Sums over places. -/
def suN (f : Nat → Nat) : Nat → Nat
  | 0 => 0
  | a + 1 => suN f a + f a
theorem suN_none {f : Nat → Nat} : ∀ n, (∀ j, j < n → f j = 0) → suN f n = 0
  | 0, _ => rfl
  | n + 1, h => by
    show suN f n + f n = 0
    rw [suN_none n (fun j hj => h j (by omega)), h n (by omega)]
theorem suN_one {f : Nat → Nat} : ∀ n k, k < n → f k = 1 → (∀ j, j < n → ¬ j = k → f j = 0) → suN f n = 1
  | n + 1, k, hk, h1, h => by
    show suN f n + f n = 1
    by_cases e : k = n
    · subst e
      rw [suN_none k (fun j hj => h j (by omega) (by omega)), h1]
    · rw [suN_one n k (by omega) h1 (fun j hj => h j (by omega)), h n (by omega) (fun x => e x.symm)]
theorem suN_add {f g h : Nat → Nat} : ∀ n, (∀ j, j < n → h j = f j + g j) → suN h n = suN f n + suN g n
  | 0, _ => rfl
  | n + 1, e => by
    show suN h n + h n = (suN f n + f n) + (suN g n + g n)
    rw [suN_add n (fun j hj => e j (by omega)), e n (by omega)]
    omega
theorem suN_congr {f g : Nat → Nat} : ∀ n, (∀ j, j < n → f j = g j) → suN f n = suN g n
  | 0, _ => rfl
  | n + 1, e => by
    show suN f n + f n = suN g n + g n
    rw [suN_congr n (fun j hj => e j (by omega)), e n (by omega)]
theorem cntB_none {P : Nat → Bool} : ∀ n, (∀ j, j < n → P j = false) → cntB P n = 0
  | 0, _ => rfl
  | n + 1, h => by
    show cntB P n + (if P n then 1 else 0) = 0
    rw [cntB_none n (fun j hj => h j (by omega)), h n (by omega)]
    rfl
theorem cntB_one {P : Nat → Bool} : ∀ n k, k < n → P k = true → (∀ j, j < n → ¬ j = k → P j = false) → cntB P n = 1
  | n + 1, k, hk, h1, h => by
    show cntB P n + (if P n then 1 else 0) = 1
    by_cases e : k = n
    · subst e
      rw [cntB_none k (fun j hj => h j (by omega) (by omega)), h1]
      rfl
    · rw [cntB_one n k (by omega) h1 (fun j hj => h j (by omega)), h n (by omega) (fun x => e x.symm)]
      rfl
theorem cntB_or {P Q R : Nat → Bool} : ∀ n, (∀ j, j < n → R j = (P j || Q j) ∧ ¬ (P j = true ∧ Q j = true)) → cntB R n = cntB P n + cntB Q n
  | 0, _ => rfl
  | n + 1, e => by
    show cntB R n + (if R n then 1 else 0) = (cntB P n + (if P n then 1 else 0)) + (cntB Q n + (if Q n then 1 else 0))
    obtain ⟨a, b⟩ := e n (by omega)
    rw [cntB_or n (fun j hj => e j (by omega)), a]
    cases p : P n <;> cases q : Q n
    · simp
    · simp; omega
    · simp; omega
    · exact absurd ⟨p, q⟩ b
theorem cntB_congr {P Q : Nat → Bool} : ∀ n, (∀ j, j < n → P j = Q j) → cntB P n = cntB Q n
  | 0, _ => rfl
  | n + 1, e => by
    show cntB P n + (if P n then 1 else 0) = cntB Q n + (if Q n then 1 else 0)
    rw [cntB_congr n (fun j hj => e j (by omega)), e n (by omega)]
/-- How many pairs of places, the lesser first, are so. -/
def prN (P : Nat → Nat → Bool) (m A : Nat) : Nat := suN (fun a => cntB (fun t => P a (a + 1 + t)) (m - (a + 1))) A
theorem prN_congr {P Q : Nat → Nat → Bool} {m : Nat} (h : ∀ a b, a < b → b < m → P a b = Q a b) : prN P m m = prN Q m m :=
  suN_congr m fun a _ => cntB_congr _ fun t ht => h a (a + 1 + t) (by omega) (by omega)
theorem prN_none {P : Nat → Nat → Bool} {m : Nat} (h : ∀ a b, a < b → b < m → P a b = false) : prN P m m = 0 :=
  suN_none m fun a _ => cntB_none _ fun t ht => h a (a + 1 + t) (by omega) (by omega)
theorem prN_one {P : Nat → Nat → Bool} {m p q : Nat} (hp : p < q) (hq : q < m) (h : ∀ a b, a < b → b < m → P a b = decide (a = p ∧ b = q)) : prN P m m = 1 := by
  refine suN_one m p (by omega) (cntB_one _ (q - (p + 1)) (by omega) ?_ fun t ht ne => ?_) fun a ha ne => cntB_none _ fun t ht => ?_
  · show P p (p + 1 + (q - (p + 1))) = true
    rw [show p + 1 + (q - (p + 1)) = q from by omega, h p q hp hq]
    exact decide_eq_true ⟨rfl, rfl⟩
  · show P p (p + 1 + t) = false
    rw [h p (p + 1 + t) (by omega) (by omega)]
    exact decide_eq_false (by omega)
  · show P a (a + 1 + t) = false
    rw [h a (a + 1 + t) (by omega) (by omega)]
    exact decide_eq_false (by omega)
theorem prN_or {P Q R : Nat → Nat → Bool} {m : Nat} (h : ∀ a b, a < b → b < m → R a b = (P a b || Q a b) ∧ ¬ (P a b = true ∧ Q a b = true)) : prN R m m = prN P m m + prN Q m m :=
  suN_add m fun a _ => cntB_or _ fun t ht => h a (a + 1 + t) (by omega) (by omega)
theorem prN_ed {x y : Int} {m : Nat} (hx : 0 ≤ x ∧ x < (m : Int)) (hy : 0 ≤ y ∧ y < (m : Int)) (ne : ¬ x = y) : prN (fun a b => ed3 x y a b) m m = 1 := by
  obtain ⟨p, rfl⟩ := Int.eq_ofNat_of_zero_le hx.1
  obtain ⟨q, rfl⟩ := Int.eq_ofNat_of_zero_le hy.1
  rcases Nat.lt_or_ge p q with l | l
  · refine prN_one l (by omega) fun a b hab _ => ?_
    rw [Bool.eq_iff_iff, ed3_iff, decide_eq_true_iff]
    omega
  · refine prN_one (p := q) (q := p) (by omega) (by omega) fun a b hab _ => ?_
    rw [Bool.eq_iff_iff, ed3_iff, decide_eq_true_iff]
    omega
theorem eb_count {F : Nat → Nat → Int} {n i a : Nat} (hi : i < n) : ∀ j, (ebL F n a j).countP (fun e => decide ((i : Int) ∈ e.2.2)) = cntB (fun t => hasB (F i 0) (F i 3) (F i 6) (a : Int) ((a + 1 + t : Nat) : Int)) j
  | 0 => rfl
  | j + 1 => by
    show (ebL F n a j ++ (if (thL F a ((a + 1 + j : Nat) : Int) n).length = 0 then [] else [((a : Int), ((a + 1 + j : Nat) : Int), thL F a ((a + 1 + j : Nat) : Int) n)])).countP _ = cntB _ j + (if hasB (F i 0) (F i 3) (F i 6) (a : Int) ((a + 1 + j : Nat) : Int) then 1 else 0)
    rw [List.countP_append, eb_count hi j]
    congr 1
    have t := th_in (F := F) (a := (a : Int)) (b := ((a + 1 + j : Nat) : Int)) hi
    by_cases z : (thL F a ((a + 1 + j : Nat) : Int) n).length = 0
    · rw [if_pos z]
      rw [List.eq_nil_of_length_eq_zero z] at t
      rw [if_neg (fun x => by have := t.2 x; cases this)]
      rfl
    · rw [if_neg z]
      by_cases y : hasB (F i 0) (F i 3) (F i 6) (a : Int) ((a + 1 + j : Nat) : Int) = true
      · rw [if_pos y]
        have u := t.2 y
        show List.countP _ [_] = 1
        rw [List.countP_singleton, if_pos (decide_eq_true u)]
      · rw [if_neg y, List.countP_singleton, if_neg (fun x => y (t.1 (of_decide_eq_true x)))]
theorem ea_count {F : Nat → Nat → Int} {n m i : Nat} (hi : i < n) : ∀ A, (eaL F n m A).countP (fun e => decide ((i : Int) ∈ e.2.2)) = prN (fun a b => hasB (F i 0) (F i 3) (F i 6) (a : Int) (b : Int)) m A
  | 0 => rfl
  | A + 1 => by
    show (eaL F n m A ++ ebL F n A (m - (A + 1))).countP _ = suN _ A + cntB _ _
    rw [List.countP_append, ea_count hi A, eb_count hi]
    rfl
/-- A triangle stands in three edges if its places are unlike, in none if they are one, in one else. -/
def teN (x y z : Int) : Nat := if x = y ∧ y = z then 0 else if ¬ x = y ∧ ¬ y = z ∧ ¬ x = z then 3 else 1
theorem ea_three {F : Nat → Nat → Int} {n m i : Nat} (hi : i < n) (hF : ∀ j, j = 0 ∨ j = 3 ∨ j = 6 → 0 ≤ F i j ∧ F i j < (m : Int)) : (eaL F n m m).countP (fun e => decide ((i : Int) ∈ e.2.2)) = teN (F i 0) (F i 3) (F i 6) := by
  rw [ea_count hi m]
  have f0 := hF 0 (.inl rfl)
  have f3 := hF 3 (.inr (.inl rfl))
  have f6 := hF 6 (.inr (.inr rfl))
  generalize F i 0 = x at *
  generalize F i 3 = y at *
  generalize F i 6 = z at *
  unfold teN
  by_cases h1 : x = y ∧ y = z
  · rw [if_pos h1]
    refine prN_none fun a b _ _ => ?_
    rw [← Bool.not_eq_true, hasB_iff, ed3_iff, ed3_iff, ed3_iff]
    omega
  · rw [if_neg h1]
    by_cases h2 : ¬ x = y ∧ ¬ y = z ∧ ¬ x = z
    · rw [if_pos h2]
      show prN (fun a b => (ed3 x y a b || (ed3 y z a b || ed3 z x a b))) m m = 3
      rw [prN_or (P := fun a b => ed3 x y a b) (Q := fun a b => (ed3 y z a b || ed3 z x a b)) (fun a b _ _ => ⟨rfl, by rw [Bool.or_eq_true, ed3_iff, ed3_iff, ed3_iff]; omega⟩)]
      rw [prN_or (P := fun a b => ed3 y z a b) (Q := fun a b => ed3 z x a b) (fun a b _ _ => ⟨rfl, by rw [ed3_iff, ed3_iff]; omega⟩)]
      rw [prN_ed f0 f3 h2.1, prN_ed f3 f6 h2.2.1, prN_ed f6 f0 (by omega)]
    · rw [if_neg h2]
      by_cases e : x = y
      · rw [prN_congr (Q := fun a b => ed3 y z a b) (fun a b _ _ => by rw [Bool.eq_iff_iff, hasB_iff, ed3_iff, ed3_iff, ed3_iff]; omega)]
        exact prN_ed f3 f6 (by omega)
      · rw [prN_congr (Q := fun a b => ed3 x y a b) (fun a b _ _ => by rw [Bool.eq_iff_iff, hasB_iff, ed3_iff, ed3_iff, ed3_iff]; omega)]
        exact prN_ed f0 f3 e
end Go.Proofs.Ytkheomaihhcokaa
