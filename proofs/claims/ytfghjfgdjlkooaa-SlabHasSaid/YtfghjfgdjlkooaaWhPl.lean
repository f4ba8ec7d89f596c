/-
  Plain facts on whole numbers for package whole: quotients, roots, divisors. No program in sight.
-/
import Derived.Below
namespace Go.Proofs.Ytfghjfgdjlkooaa
/-- Floor's quotient, and what is left, as the program reckons them: Go's own division goes towards 0. -/
def adj (a b : Int) : Prop := a.tmod b ≠ 0 ∧ ¬ ((a.tmod b < 0) ↔ (b < 0))
instance (a b : Int) : Decidable (adj a b) := by unfold adj; infer_instance
def flQ (a b : Int) : Int := if adj a b then a.tdiv b - 1 else a.tdiv b
def flR (a b : Int) : Int := if adj a b then a.tmod b + b else a.tmod b
def clQ (a b : Int) : Int := if flR a b = 0 then flQ a b else flQ a b + 1
theorem fl_adj {a b : Int} (h : adj a b) : flQ a b = a.tdiv b - 1 ∧ flR a b = a.tmod b + b := by unfold flQ flR; rw [if_pos h, if_pos h]; exact ⟨rfl, rfl⟩
theorem fl_same {a b : Int} (h : ¬ adj a b) : flQ a b = a.tdiv b ∧ flR a b = a.tmod b := by unfold flQ flR; rw [if_neg h, if_neg h]; exact ⟨rfl, rfl⟩

theorem tm_bd (a b : Int) (hb : b ≠ 0) : (0 < b → -b < a.tmod b ∧ a.tmod b < b) ∧ (b < 0 → b < a.tmod b ∧ a.tmod b < -b) := by
  have h : (a.tmod b).natAbs < b.natAbs := by
    rw [Int.natAbs_tmod]; exact Nat.mod_lt _ (by omega)
  omega
theorem td_bd (a b : Int) (hb : b ≠ 0) (h0 : -9223372036854775808 ≤ a) (h1 : a ≤ 9223372036854775807) (hn : ¬ (a = -9223372036854775808 ∧ b = -1)) :
    -9223372036854775808 ≤ a.tdiv b ∧ a.tdiv b ≤ 9223372036854775807 ∧ (a.tmod b ≠ 0 → -4611686018427387905 ≤ a.tdiv b ∧ a.tdiv b ≤ 4611686018427387905) := by
  have e := Int.mul_tdiv_add_tmod a b
  by_cases k1 : b = 1
  · subst k1; simp at e ⊢; omega
  by_cases k2 : b = -1
  · subst k2; simp at e ⊢; omega
  have h : (a.tdiv b).natAbs = a.natAbs / b.natAbs := Int.natAbs_tdiv a b
  have h2 : a.natAbs / b.natAbs ≤ a.natAbs / 2 := Nat.div_le_div_left (by omega) (by omega)
  omega

/-- What P2.1 says of them. -/
theorem fl_spec (a b : Int) (hb : b ≠ 0) : b * flQ a b + flR a b = a ∧ (0 < b → 0 ≤ flR a b ∧ flR a b < b) ∧ (b < 0 → b < flR a b ∧ flR a b ≤ 0) := by
  have e := Int.mul_tdiv_add_tmod a b
  have t := tm_bd a b hb
  by_cases h : adj a b
  · obtain ⟨q, r⟩ := fl_adj h
    rw [q, r, Int.mul_sub]
    unfold adj at h
    omega
  · obtain ⟨q, r⟩ := fl_same h
    rw [q, r]
    unfold adj at h
    omega
theorem fl_bd (a b : Int) (hb : b ≠ 0) (h0 : -9223372036854775808 ≤ a) (h1 : a ≤ 9223372036854775807) (hb0 : -9223372036854775808 ≤ b) (hb1 : b ≤ 9223372036854775807) (hn : ¬ (a = -9223372036854775808 ∧ b = -1)) :
    -9223372036854775808 ≤ flQ a b ∧ flQ a b ≤ 9223372036854775807 ∧ -9223372036854775808 ≤ flR a b ∧ flR a b ≤ 9223372036854775807 ∧ (flR a b ≠ 0 → flQ a b < 9223372036854775807) := by
  have t := tm_bd a b hb
  have d := td_bd a b hb h0 h1 hn
  by_cases h : adj a b
  · obtain ⟨q, r⟩ := fl_adj h
    rw [q, r]
    unfold adj at h
    omega
  · obtain ⟨q, r⟩ := fl_same h
    rw [q, r]
    unfold adj at h
    omega
/-- The reference's way to Ceil. -/
theorem cl_up {a b : Int} (h : a.tmod b ≠ 0) (s : (a.tmod b < 0) ↔ (b < 0)) : clQ a b = a.tdiv b + 1 := by
  obtain ⟨q, r⟩ := fl_same (a := a) (b := b) (by unfold adj; exact fun k => k.2 s)
  unfold clQ; rw [q, r, if_neg h]
theorem cl_no {a b : Int} (hb : b ≠ 0) (h : a.tmod b = 0 ∨ ¬ ((a.tmod b < 0) ↔ (b < 0))) : clQ a b = a.tdiv b := by
  have t := tm_bd a b hb
  by_cases h0 : a.tmod b = 0
  · obtain ⟨q, r⟩ := fl_same (a := a) (b := b) (by unfold adj; exact fun k => k.1 h0)
    unfold clQ; rw [q, r, if_pos h0]
  · have k : adj a b := ⟨h0, by rcases h with h | h; exact absurd h h0; exact h⟩
    obtain ⟨q, r⟩ := fl_adj k
    unfold adj at k
    unfold clQ; rw [q, r, if_neg (by omega)]; omega

/-! Roots. -/
def IsRt (n : Int) (r : Nat) : Prop := r ≤ 3037000499 ∧ (r : Int) * r ≤ n ∧ (r < 3037000499 → n < ((r : Int) + 1) * (r + 1))
theorem sq_le {a b : Nat} (h : a ≤ b) : (a : Int) * a ≤ (b : Int) * b := by
  have := Nat.mul_le_mul h h; exact_mod_cast this
theorem exists_rt (n : Int) (h0 : 0 ≤ n) : ∃ r, IsRt n r := by
  have : ∀ k : Nat, ∃ r : Nat, r ≤ k ∧ (r : Int) * r ≤ n ∧ (r < k → n < ((r : Int) + 1) * (r + 1)) := by
    intro k
    induction k with
    | zero => exact ⟨0, Nat.le_refl _, by simpa using h0, by omega⟩
    | succ k ih =>
      obtain ⟨r, h1, h2, h3⟩ := ih
      by_cases hr : r < k
      · exact ⟨r, by omega, h2, fun _ => h3 hr⟩
      · obtain rfl : r = k := by omega
        by_cases hs : ((r : Int) + 1) * (r + 1) ≤ n
        · exact ⟨r + 1, Nat.le_refl _, by simpa using hs, by omega⟩
        · exact ⟨r, by omega, h2, fun _ => by omega⟩
  exact this 3037000499
theorem rt_unique {n : Int} {r s : Nat} (h : IsRt n r) (k : IsRt n s) : r = s := by
  obtain ⟨h1, h2, h3⟩ := h
  obtain ⟨k1, k2, k3⟩ := k
  rcases Nat.lt_trichotomy r s with c | c | c
  · have a := h3 (by omega)
    have b := sq_le (show r + 1 ≤ s from c)
    push_cast at b
    omega
  · exact c
  · have a := k3 (by omega)
    have b := sq_le (show s + 1 ≤ r from c)
    push_cast at b
    omega
theorem rt_sq (r : Nat) (h : r ≤ 3037000499) : IsRt ((r : Int) * r) r := by
  refine ⟨h, Int.le_refl _, fun _ => ?_⟩
  have : ((r : Int) + 1) * (r + 1) = (r : Int) * r + 2 * r + 1 := by rw [Int.add_mul, Int.mul_add]; omega
  omega
theorem sq_max (r : Nat) (h : r ≤ 3037000499) : (r : Int) * r ≤ 9223372030926249001 := by
  have := sq_le h
  simpa using this
def bt : Nat → Int
  | 0 => 0
  | k + 1 => 2 ^ k
theorem bt_half (k : Nat) : bt (k + 1) / 2 = bt k := by
  match k with
  | 0 => rfl
  | k + 1 => show (2 : Int) ^ (k + 1) / 2 = 2 ^ k; rw [Int.pow_succ]; omega

/-! Divisors. -/
def gcdL : List Int → Nat
  | [] => 0
  | x :: l => Nat.gcd x.natAbs (gcdL l)
def gcdF (g : Nat) : List Int → Nat
  | [] => g
  | x :: l => gcdF (Nat.gcd g x.natAbs) l
theorem gcdF_eq (l : List Int) : ∀ g, gcdF g l = Nat.gcd g (gcdL l) := by
  induction l with
  | nil => intro g; simp [gcdF, gcdL]
  | cons x l ih => intro g; simp only [gcdF, gcdL]; rw [ih, Nat.gcd_assoc]
theorem gcdF_snoc (l : List Int) (x : Int) : ∀ g, gcdF g (l ++ [x]) = Nat.gcd (gcdF g l) x.natAbs := by
  induction l with
  | nil => intro g; rfl
  | cons y l ih => intro g; exact ih _
theorem gcdL_dvd (l : List Int) : ∀ x ∈ l, gcdL l ∣ x.natAbs := by
  induction l with
  | nil => intro x h; cases h
  | cons y l ih =>
    intro x h
    rcases List.mem_cons.1 h with rfl | h
    · exact Nat.gcd_dvd_left _ _
    · exact Nat.dvd_trans (Nat.gcd_dvd_right _ _) (ih x h)
theorem dvd_gcdL (d : Nat) (l : List Int) : (∀ x ∈ l, d ∣ x.natAbs) → d ∣ gcdL l := by
  induction l with
  | nil => intro _; exact Nat.dvd_zero _
  | cons y l ih => intro h; exact Nat.dvd_gcd (h y (List.mem_cons_self ..)) (ih fun x hx => h x (List.mem_cons_of_mem _ hx))
theorem gcdL_append (l m : List Int) : gcdL (l ++ m) = Nat.gcd (gcdL l) (gcdL m) := by
  induction l with
  | nil => simp [gcdL]
  | cons x l ih => simp only [List.cons_append, gcdL]; rw [ih, Nat.gcd_assoc]
theorem gcdL_reverse (l : List Int) : gcdL l.reverse = gcdL l := by
  induction l with
  | nil => rfl
  | cons x l ih => rw [List.reverse_cons, gcdL_append, ih]; simp only [gcdL, Nat.gcd_zero_right]; exact Nat.gcd_comm _ _
theorem gcdL_zero {l : List Int} (h : gcdL l = 0) : ∀ x ∈ l, x = 0 := by
  intro x hx
  have := gcdL_dvd l x hx
  rw [h] at this
  have := Nat.eq_zero_of_zero_dvd this
  omega
theorem gcdL_div (g : Nat) (l : List Int) : (∀ x ∈ l, g ∣ x.natAbs) → gcdL (l.map fun x => x.tdiv g) = gcdL l / g := by
  induction l with
  | nil => intro _; simp [gcdL]
  | cons x l ih =>
    intro h
    simp only [List.map_cons, gcdL]
    rw [ih fun y hy => h y (List.mem_cons_of_mem _ hy), Int.natAbs_tdiv]
    have e : (g : Int).natAbs = g := Int.natAbs_natCast g
    rw [e]
    exact Nat.gcd_div (h x (List.mem_cons_self ..)) (dvd_gcdL g l fun y hy => h y (List.mem_cons_of_mem _ hy))
theorem gcdL_bd (l : List Int) (B : Nat) (h : ∀ x ∈ l, x.natAbs ≤ B) : gcdL l ≤ B := by
  induction l with
  | nil => exact Nat.zero_le _
  | cons x l ih =>
    have a := h x (List.mem_cons_self ..)
    have b := ih fun y hy => h y (List.mem_cons_of_mem _ hy)
    simp only [gcdL]
    rcases Nat.eq_zero_or_pos x.natAbs with hx | hx
    · rw [hx, Nat.gcd_zero_left]; exact b
    · exact Nat.le_trans (Nat.gcd_le_left _ hx) a
theorem tmod_dvd (x : Int) (g : Nat) : (x.tmod g = 0) ↔ g ∣ x.natAbs := by
  have e : (x.tmod g).natAbs = x.natAbs % g := by rw [Int.natAbs_tmod, Int.natAbs_natCast]
  rw [Nat.dvd_iff_mod_eq_zero]
  omega
end Go.Proofs.Ytfghjfgdjlkooaa
