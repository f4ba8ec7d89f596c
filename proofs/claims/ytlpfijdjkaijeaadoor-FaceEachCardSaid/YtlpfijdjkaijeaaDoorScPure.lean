/-
  Package scan, of no program: what a text tells (scanB, stepsS, parseS, wholeS), what steps are printed as (printS), and what follows of that.
-/
import Derived.Lib.ItoaNum
import Derived.Lib.ItoaMem
import Derived.Lib.TrimByte
import Derived.Lib.Repeat
namespace Go.Proofs.YtlpfijdjkaijeaaDoor

/-- Is a byte a digit? -/
def isD (b : UInt8) : Bool := decide (48 ≤ b.toNat ∧ b.toNat ≤ 57)
/-- The digits' number. -/
def valD (l : List UInt8) : Nat := l.foldl (fun n b => 10 * n + (b.toNat - 48)) 0
/-- Digits ahead of the point and behind it; none: it is no decimal without a sign. -/
def scanB : List UInt8 → Bool → Option (List UInt8 × List UInt8)
  | [], _ => some ([], [])
  | b :: t, pt => if isD b = true then (scanB t pt).map (fun r => if pt = true then (r.1, b :: r.2) else (b :: r.1, r.2))
      else if b.toNat = 46 ∧ pt = false then scanB t true else none
/-- The steps of digits. -/
def stepsN (below : Bool) (N T : Nat) : Int :=
  if below = true then -((N / T + (if N % T = 0 then 0 else 1) : Nat) : Int) else ((N / T : Nat) : Int)
def stepsS (below : Bool) (A B : List UInt8) : Int := stepsN below (256 * valD (A ++ B)) (10 ^ B.length)
def inR (n : Int) : Int × Int := if -1048576 ≤ n ∧ n ≤ 1048576 then (n, 0) else (0, 5)
def ansB (below : Bool) : Option (List UInt8 × List UInt8) → Int × Int
  | none => (0, 6)
  | some (A, B) => if A.length + B.length = 0 then (0, 6) else inR (stepsS below A B)
def parseB (below : Bool) (t : List UInt8) : Int × Int := ansB below (scanB t false)
def parseS (l : List UInt8) : Int × Int :=
  if 20 < l.length then (0, 6) else match l with
  | [] => parseB false []
  | b :: t => if b.toNat = 45 then parseB true t else if b.toNat = 43 then parseB false t else parseB false (b :: t)

theorem isD_iff (b : UInt8) : isD b = true ↔ 48 ≤ b.toNat ∧ b.toNat ≤ 57 := by simp [isD]
theorem isD_not (b : UInt8) : ¬ isD b = true ↔ ¬ (48 ≤ b.toNat ∧ b.toNat ≤ 57) := by rw [isD_iff]

/-! digits' numbers -/
theorem snoc_ind {Q : List UInt8 → Prop} (h0 : Q []) (h1 : ∀ l b, Q l → Q (l ++ [b])) (l : List UInt8) : Q l := by
  rw [← List.reverse_reverse l]
  induction l.reverse with
  | nil => exact h0
  | cons b t ih => rw [List.reverse_cons]; exact h1 _ _ ih
theorem valD_nil : valD [] = 0 := rfl
theorem valD_snoc (l : List UInt8) (b : UInt8) : valD (l ++ [b]) = 10 * valD l + (b.toNat - 48) := by simp [valD]
theorem valD_app (A B : List UInt8) : valD (A ++ B) = valD A * 10 ^ B.length + valD B := by
  induction B using snoc_ind with
  | h0 => simp [valD_nil]
  | h1 B b ih =>
    rw [← List.append_assoc, valD_snoc, valD_snoc, ih, List.length_append, List.length_singleton, Nat.pow_succ]
    generalize 10 ^ B.length = T
    grind
theorem valD_lt (B : List UInt8) (h : ∀ b ∈ B, isD b = true) : valD B < 10 ^ B.length := by
  induction B using snoc_ind with
  | h0 => simp [valD_nil]
  | h1 B b ih =>
    have h1 := ih (fun x hx => h x (by simp [hx]))
    have h2 := (isD_iff b).1 (h b (by simp))
    rw [valD_snoc, List.length_append, List.length_singleton, Nat.pow_succ]
    omega
/-- The number of digits, stopped at 1048576. -/
def capD (l : List UInt8) : Nat := l.foldl (fun n b => min (10 * n + (b.toNat - 48)) 1048576) 0
theorem capD_snoc (l : List UInt8) (b : UInt8) : capD (l ++ [b]) = min (10 * capD l + (b.toNat - 48)) 1048576 := by simp [capD]
theorem capD_eq (l : List UInt8) : capD l = min (valD l) 1048576 := by
  induction l using snoc_ind with
  | h0 => rfl
  | h1 B b ih => rw [capD_snoc, valD_snoc, ih]; omega

/-! the scan -/
theorem scanB_digits (t : List UInt8) : ∀ pt A B, scanB t pt = some (A, B) → (∀ b ∈ A, isD b = true) ∧ (∀ b ∈ B, isD b = true) ∧ A.length + B.length ≤ t.length ∧ (pt = true → A = []) := by
  induction t with
  | nil => intro pt A B h; simp [scanB] at h; obtain ⟨rfl, rfl⟩ := h; simp
  | cons b t ih =>
    intro pt A B h
    rw [scanB] at h
    split at h
    · rename_i hb
      rw [Option.map_eq_some_iff] at h
      obtain ⟨⟨A', B'⟩, h1, h2⟩ := h
      obtain ⟨i1, i2, i3, i4⟩ := ih pt A' B' h1
      cases pt
      · simp at h2; obtain ⟨rfl, rfl⟩ := h2
        refine ⟨fun x hx => ?_, i2, by simp; omega, by simp⟩
        rcases List.mem_cons.1 hx with rfl | hx
        · exact hb
        · exact i1 x hx
      · simp at h2; obtain ⟨rfl, rfl⟩ := h2
        refine ⟨i1, fun x hx => ?_, by simp; omega, fun _ => i4 rfl⟩
        rcases List.mem_cons.1 hx with rfl | hx
        · exact hb
        · exact i2 x hx
    · split at h
      · rename_i h2
        obtain ⟨i1, i2, i3, i4⟩ := ih true A B h
        exact ⟨i1, i2, by simp; omega, by simp [h2.2]⟩
      · cases h
/-- What is read so far, with what the rest tells. -/
def goesOn (A B : List UInt8) (r : Option (List UInt8 × List UInt8)) : Option (List UInt8 × List UInt8) := r.map (fun r => (A ++ r.1, B ++ r.2))
theorem goesOn_nil (r : Option (List UInt8 × List UInt8)) : goesOn [] [] r = r := by cases r <;> simp [goesOn]
theorem goesOn_end (A B : List UInt8) (pt : Bool) : goesOn A B (scanB [] pt) = some (A, B) := by simp [goesOn, scanB]
theorem goesOn_dig0 (A B : List UInt8) (b : UInt8) (t : List UInt8) (h : isD b = true) : goesOn A B (scanB (b :: t) false) = goesOn (A ++ [b]) B (scanB t false) := by
  rw [scanB, if_pos h]; unfold goesOn; cases scanB t false <;> simp
theorem goesOn_dig1 (A B : List UInt8) (b : UInt8) (t : List UInt8) (h : isD b = true) : goesOn A B (scanB (b :: t) true) = goesOn A (B ++ [b]) (scanB t true) := by
  rw [scanB, if_pos h]; unfold goesOn; cases scanB t true <;> simp
theorem goesOn_point (A B : List UInt8) (b : UInt8) (t : List UInt8) (h : ¬ isD b = true) (h2 : b.toNat = 46) : goesOn A B (scanB (b :: t) false) = goesOn A B (scanB t true) := by
  rw [scanB, if_neg h, if_pos ⟨h2, rfl⟩]
theorem goesOn_stop (A B : List UInt8) (b : UInt8) (t : List UInt8) (pt : Bool) (h : ¬ isD b = true) (h2 : ¬ (b.toNat = 46 ∧ pt = false)) : goesOn A B (scanB (b :: t) pt) = none := by
  rw [scanB, if_neg h, if_neg h2]; rfl
theorem scanB_all (t : List UInt8) (h : ∀ b ∈ t, isD b = true) : scanB t false = some (t, []) := by
  induction t with
  | nil => rfl
  | cons b t ih => rw [scanB, if_pos (h b (by simp)), ih (fun x hx => h x (by simp [hx]))]; simp
/-- A point stands in it, or stood ahead of it: a digit more is one behind the point. -/
theorem scanB_more (d : UInt8) (hd : isD d = true) (t : List UInt8) : ∀ pt, (pt = true ∨ ∃ b ∈ t, b.toNat = 46) → scanB (t ++ [d]) pt = (scanB t pt).map (fun r => (r.1, r.2 ++ [d])) := by
  induction t with
  | nil =>
    intro pt h
    obtain rfl : pt = true := by rcases h with h | ⟨b, hb, _⟩; exact h; simp at hb
    simp [scanB, hd]
  | cons b t ih =>
    intro pt h
    rw [List.cons_append, scanB, scanB]
    by_cases hb : isD b = true
    · rw [if_pos hb, if_pos hb, ih pt]
      · cases scanB t pt <;> cases pt <;> simp
      · rcases h with h | ⟨x, hx, h46⟩
        · exact .inl h
        · rcases List.mem_cons.1 hx with rfl | hx
          · have := (isD_iff x).1 hb; omega
          · exact .inr ⟨x, hx, h46⟩
    · rw [if_neg hb, if_neg hb]
      by_cases h2 : b.toNat = 46 ∧ pt = false
      · rw [if_pos h2, if_pos h2, ih true (.inl rfl)]
      · rw [if_neg h2, if_neg h2]; rfl

/-! the steps -/
theorem steps_cap (below : Bool) (A B : List UInt8) :
    inR (stepsS below A B) = inR (if below = true then -((capD A * 256 + (256 * valD B) / 10 ^ B.length + (if (256 * valD B) % 10 ^ B.length = 0 then 0 else 1) : Nat) : Int) else ((capD A * 256 + (256 * valD B) / 10 ^ B.length : Nat) : Int)) := by
  have hT : 0 < 10 ^ B.length := Nat.pow_pos (by decide)
  have e : 256 * valD (A ++ B) = 256 * valD B + 10 ^ B.length * (256 * valD A) := by
    rw [valD_app, Nat.mul_add, Nat.add_comm]
    congr 1
    rw [Nat.mul_comm (10 ^ B.length), ← Nat.mul_assoc]
  unfold stepsS stepsN
  rw [e, Nat.add_mul_div_left _ _ hT, Nat.add_mul_mod_self_left, capD_eq]
  generalize 256 * valD B / 10 ^ B.length = q
  generalize (256 * valD B) % 10 ^ B.length = r
  by_cases h : valD A ≤ 1048576
  · rw [Nat.min_eq_left h]
    congr 1
    cases below <;> simp <;> omega
  · rw [Nat.min_eq_right (by omega)]
    unfold inR
    rw [if_neg, if_neg]
    · cases below <;> simp <;> omega
    · cases below <;> simp <;> omega

theorem div_more (N T d : Nat) (hT : 0 < T) (hd : d ≤ 9) : 256 * N / T ≤ 256 * (10 * N + d) / (T * 10) ∧ 256 * (10 * N + d) / (T * 10) ≤ 256 * N / T + 231 := by
  have h1 : 256 * N / T = 256 * N * 10 / (T * 10) := (Nat.mul_div_mul_right _ _ (by decide)).symm
  have hT2 : 0 < T * 10 := by omega
  constructor
  · rw [h1]; exact Nat.div_le_div_right (by omega)
  · rw [h1, ← Nat.add_mul_div_left _ _ hT2]; exact Nat.div_le_div_right (by omega)
/-- Rounded away from 0. -/
def upD (N T : Nat) : Nat := N / T + (if N % T = 0 then 0 else 1)
theorem upD_eq (N T : Nat) (hT : 0 < T) : upD N T = (N + (T - 1)) / T := by
  unfold upD
  have e := Nat.div_add_mod N T
  have l := Nat.mod_lt N hT
  generalize N / T = q at *
  generalize N % T = r at *
  subst e
  rw [Nat.add_assoc, Nat.mul_add_div hT]
  by_cases h : r = 0
  · subst h; rw [if_pos rfl, Nat.div_eq_of_lt (by omega)]
  · rw [if_neg h, show r + (T - 1) = (r - 1) + T from by omega, Nat.add_div_right _ hT, Nat.div_eq_of_lt (by omega)]
theorem upD_more (N T d : Nat) (hT : 0 < T) (hd : d ≤ 9) : upD (256 * N) T ≤ upD (256 * (10 * N + d)) (T * 10) ∧ upD (256 * (10 * N + d)) (T * 10) ≤ upD (256 * N) T + 231 := by
  rw [upD_eq _ _ hT, upD_eq _ _ (by omega : 0 < T * 10)]
  have h1 : (256 * N + (T - 1)) / T = (256 * N + (T - 1)) * 10 / (T * 10) := (Nat.mul_div_mul_right _ _ (by decide)).symm
  have hT2 : 0 < T * 10 := by omega
  constructor
  · rw [h1]
    refine Nat.div_le_div_right ?_
    omega
  · have h2 : (256 * N + (T - 1)) / T = (256 * N * 10 + (T * 10 - 1)) / (T * 10) := by
      rw [← upD_eq _ _ hT, show 256 * N * 10 = 256 * N * 10 from rfl, ← upD_eq _ _ hT2]
      unfold upD
      rw [Nat.mul_div_mul_right _ _ (by decide : 0 < 10), Nat.mul_mod_mul_right]
      simp only [Nat.mul_eq_zero, (by decide : ¬ (10 : Nat) = 0), or_false]
    rw [h2, ← Nat.add_mul_div_left _ _ hT2]; exact Nat.div_le_div_right (by omega)
theorem stepsN_up (N T : Nat) : stepsN true N T = -((upD N T : Nat) : Int) := rfl
theorem stepsN_down (N T : Nat) : stepsN false N T = ((N / T : Nat) : Int) := rfl
theorem up_down (N T : Nat) : N / T ≤ upD N T ∧ upD N T ≤ N / T + 1 := by unfold upD; split <;> omega
theorem stepsN_nought (below : Bool) (N T : Nat) : stepsN below (N * 10) (T * 10) = stepsN below N T := by
  unfold stepsN
  rw [Nat.mul_div_mul_right _ _ (by decide : 0 < 10), Nat.mul_mod_mul_right]
  simp only [Nat.mul_eq_zero, (by decide : ¬ (10 : Nat) = 0), or_false]
end Go.Proofs.YtlpfijdjkaijeaaDoor
