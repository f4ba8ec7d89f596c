/-
  Package scan, of no program: whole numbers, printed steps; what the laws say of them.
-/
import Derived.Test.YtlpfijdjkaijeaaDoorScPure
namespace Go.Proofs.YtlpfijdjkaijeaaDoor

def headZ : List UInt8 → Bool
  | [] => false
  | b :: _ => decide (b.toNat = 48)
def wholeD (below : Bool) (t : List UInt8) : Int × Int :=
  if t.length = 0 ∨ 7 < t.length ∨ (headZ t = true ∧ (below = true ∨ 1 < t.length)) ∨ ¬ (t.all isD = true) then (0, 6)
  else (if below = true then -((valD t : Nat) : Int) else ((valD t : Nat) : Int), 0)
def wholeS : List UInt8 → Int × Int
  | [] => wholeD false []
  | b :: t => if b.toNat = 45 then wholeD true t else wholeD false (b :: t)
/-- Digits of r / 256 behind the point. -/
def fracF : Nat → Nat → List UInt8
  | 0, _ => []
  | k + 1, r => if r = 0 then [] else UInt8.ofNat (48 + 10 * r / 256) :: fracF k (10 * r % 256)
def printU (u : Nat) : List UInt8 := Lib.decDigits (u / 256) ++ (if u % 256 = 0 then [] else 46 :: fracF 8 (u % 256))
def printS (n : Int) : List UInt8 := if n < 0 then 45 :: printU n.natAbs else printU n.natAbs
def printA (n : Int) : List UInt8 × Int := if -1048576 ≤ n ∧ n ≤ 1048576 then (printS n, 0) else ([], 5)

/-! decimal numerals -/
theorem dig_nat {u : Nat} (h : u < 10) : (UInt8.ofNat (48 + u)).toNat = 48 + u := by
  rw [UInt8.toNat_ofNat']; omega
theorem isD_dig {u : Nat} (h : u < 10) : isD (UInt8.ofNat (48 + u)) = true := by rw [isD_iff, dig_nat h]; omega
theorem decD_big {u : Nat} (h : ¬ u < 10) : Lib.decDigits u = Lib.decDigits (u / 10) ++ [UInt8.ofNat (48 + u % 10)] := by rw [Lib.decDigits, dif_neg h]
theorem dec_isD (u : Nat) : ∀ b ∈ Lib.decDigits u, isD b = true := by
  induction u using Nat.strongRecOn with
  | _ u ih =>
    by_cases h : u < 10
    · rw [Lib.decDigits_one h]; intro b hb; rw [List.mem_singleton] at hb; subst hb; exact isD_dig h
    · rw [decD_big h]; intro b hb
      rcases List.mem_append.1 hb with hb | hb
      · exact ih (u / 10) (by omega) b hb
      · rw [List.mem_singleton] at hb; subst hb; exact isD_dig (by omega)
theorem dec_val (u : Nat) : valD (Lib.decDigits u) = u := by
  induction u using Nat.strongRecOn with
  | _ u ih =>
    by_cases h : u < 10
    · rw [Lib.decDigits_one h]; show 10 * 0 + ((UInt8.ofNat (48 + u)).toNat - 48) = u; rw [dig_nat h]; omega
    · rw [decD_big h, valD_snoc, ih (u / 10) (by omega), dig_nat (by omega)]; omega
theorem dec_ne (u : Nat) : Lib.decDigits u ≠ [] := by
  intro h
  have := Lib.decDigits_length u
  rw [h] at this
  have := Lib.nDigits_pos u
  simp at *; omega
theorem nDig_le (k u : Nat) (hk : 1 ≤ k) (h : u < 10 ^ k) : Lib.nDigits u ≤ k := by
  induction k generalizing u with
  | zero => omega
  | succ k ih =>
    by_cases hu : u < 10
    · rw [Lib.nDigits_small hu]; omega
    · rw [Lib.nDigits_big hu]
      have hk' : 1 ≤ k := by
        rcases Nat.eq_zero_or_pos k with rfl | h'
        · simp at h; omega
        · exact h'
      have := ih (u / 10) hk' (by rw [Nat.pow_succ] at h; omega)
      omega
/-- Digits without a needless 0 ahead are their number's numeral. -/
theorem dec_back (t : List UInt8) : t ≠ [] → (∀ b ∈ t, isD b = true) → (headZ t = true → t.length = 1) → Lib.decDigits (valD t) = t := by
  induction t using snoc_ind with
  | h0 => intro h; exact absurd rfl h
  | h1 l b ih =>
    intro _ hd hz
    have hb := (isD_iff b).1 (hd b (by simp))
    have eb : UInt8.ofNat (48 + (b.toNat - 48)) = b := by rw [show 48 + (b.toNat - 48) = b.toNat from by omega]; simp
    by_cases hl : l = []
    · subst hl
      show Lib.decDigits (10 * 0 + (b.toNat - 48)) = [b]
      rw [Lib.decDigits_one (by omega), show 10 * 0 + (b.toNat - 48) = b.toNat - 48 from by omega, eb]
    · obtain ⟨c, t, rfl⟩ : ∃ c t, l = c :: t := by cases l with | nil => exact absurd rfl hl | cons c t => exact ⟨c, t, rfl⟩
      have hc : ¬ headZ (c :: t) = true := fun h => by have := hz h; simp at this
      have q := ih hl (fun x hx => hd x (by simp at hx ⊢; rcases hx with h | h; exact .inl h; exact .inr (.inl h))) (fun h => absurd h hc)
      have hv : 1 ≤ valD (c :: t) := by
        rcases Nat.eq_zero_or_pos (valD (c :: t)) with z | z
        · rw [z] at q
          rw [Lib.decDigits_one (by omega)] at q
          injection q with q1 q2
          exact absurd (by rw [headZ, ← q1]; decide) hc
        · exact z
      rw [valD_snoc, decD_big (by omega), show (10 * valD (c :: t) + (b.toNat - 48)) / 10 = valD (c :: t) from by omega, q, show (10 * valD (c :: t) + (b.toNat - 48)) % 10 = b.toNat - 48 from by omega, eb]

/-! behind the point -/
theorem frac_all : ∀ r : Fin 256, (fracF 8 r.val).all isD = true ∧ valD (fracF 8 r.val) * 256 = r.val * 10 ^ (fracF 8 r.val).length ∧ (fracF 8 r.val).length ≤ 8 := by decide +kernel

theorem scanB_app (A t : List UInt8) (h : ∀ b ∈ A, isD b = true) : scanB (A ++ t) false = (scanB t false).map (fun r => (A ++ r.1, r.2)) := by
  induction A with
  | nil => show scanB t false = (scanB t false).map _; cases scanB t false <;> rfl
  | cons b A ih =>
    rw [List.cons_append, scanB, if_pos (h b (by simp)), ih (fun x hx => h x (by simp [hx]))]
    cases scanB t false <;> simp
theorem scanB_behind (F : List UInt8) (h : ∀ b ∈ F, isD b = true) : scanB F true = some ([], F) := by
  induction F with
  | nil => rfl
  | cons b t ih => rw [scanB, if_pos (h b (by simp)), ih (fun x hx => h x (by simp [hx]))]; simp

theorem stepsN_mul (below : Bool) (u T : Nat) (hT : 0 < T) : stepsN below (u * T) T = if below = true then -(u : Int) else (u : Int) := by
  unfold stepsN
  rw [Nat.mul_div_cancel _ hT, Nat.mul_mod_left]
  simp
theorem printU_scan (below : Bool) (u : Nat) : ∃ c t, printU u = c :: t ∧ isD c = true ∧ (u ≤ 1048576 → t.length ≤ 13) ∧ parseB below (printU u) = inR (if below = true then -(u : Int) else (u : Int)) := by
  have hA := dec_isD (u / 256)
  have hn := dec_ne (u / 256)
  have hv := dec_val (u / 256)
  have hlen : u ≤ 1048576 → (Lib.decDigits (u / 256)).length ≤ 4 := fun h => by rw [Lib.decDigits_length]; exact nDig_le 4 _ (by decide) (by omega)
  have f := frac_all ⟨u % 256, Nat.mod_lt _ (by decide)⟩
  simp only at f
  obtain ⟨f1, f2, f3⟩ := f
  unfold printU
  generalize Lib.decDigits (u / 256) = A at *
  generalize fracF 8 (u % 256) = F at *
  obtain ⟨c, A', rfl⟩ : ∃ c t, A = c :: t := by cases A with | nil => exact absurd rfl hn | cons c t => exact ⟨c, t, rfl⟩
  have hF : ∀ b ∈ F, isD b = true := by simpa using f1
  refine ⟨c, _, rfl, hA c (by simp), ?_, ?_⟩
  · intro h
    have := hlen h
    simp at this
    split <;> simp <;> omega
  · unfold parseB
    rw [scanB_app _ _ hA]
    have hT : 0 < 10 ^ F.length := Nat.pow_pos (by decide)
    by_cases z : u % 256 = 0
    · rw [if_pos z]
      show ansB below (some ((c :: A') ++ [], [])) = _
      rw [List.append_nil]
      show (if (c :: A').length + 0 = 0 then ((0 : Int), (6 : Int)) else inR (stepsN below (256 * valD ((c :: A') ++ [])) 1)) = _
      rw [if_neg (by simp), List.append_nil, hv]
      have := stepsN_mul below (256 * (u / 256)) 1 (by decide)
      rw [Nat.mul_one] at this
      rw [this, show 256 * (u / 256) = u from by omega]
    · rw [if_neg z]
      have e : scanB (46 :: F) false = some ([], F) := by
        rw [scanB, if_neg (by decide), if_pos ⟨rfl, rfl⟩, scanB_behind F hF]
      rw [e]
      show ansB below (some ((c :: A') ++ [], F)) = _
      rw [List.append_nil]
      show (if (c :: A').length + F.length = 0 then ((0 : Int), (6 : Int)) else inR (stepsN below (256 * valD ((c :: A') ++ F)) (10 ^ F.length))) = _
      rw [if_neg (by simp), valD_app, hv]
      have e2 : 256 * (u / 256 * 10 ^ F.length + valD F) = u * 10 ^ F.length := by
        have hu := Nat.div_add_mod u 256
        generalize u / 256 = q at *
        generalize u % 256 = r at *
        generalize 10 ^ F.length = T at *
        subst hu
        rw [Nat.mul_add, Nat.mul_comm 256 (valD F), f2, Nat.add_mul, Nat.mul_assoc]
      rw [e2, stepsN_mul _ _ _ hT]

/-- What is printed is parsed as itself. -/
theorem parse_print (n : Int) (h0 : -1048576 ≤ n) (h1 : n ≤ 1048576) : parseS (printS n) = (n, 0) := by
  obtain ⟨c, t, e, hc, hl, hp⟩ := printU_scan (decide (n < 0)) n.natAbs
  have hl := hl (by omega)
  have hc' := (isD_iff c).1 hc
  unfold printS parseS
  by_cases hn : n < 0
  · rw [if_pos hn, if_neg (by rw [e]; simp; omega)]
    show (if (45 : UInt8).toNat = 45 then _ else _) = _
    rw [if_pos (by decide)]
    rw [decide_eq_true hn, if_pos rfl] at hp
    rw [hp, show -(n.natAbs : Int) = n from by omega]
    unfold inR; rw [if_pos ⟨h0, h1⟩]
  · rw [if_neg hn, if_neg (by rw [e]; simp; omega)]
    rw [decide_eq_false hn, if_neg (by decide)] at hp
    rw [e] at hp ⊢
    show (if c.toNat = 45 then _ else _) = _
    rw [if_neg (by omega), if_neg (by omega), hp, show (n.natAbs : Int) = n from by omega]
    unfold inR; rw [if_pos ⟨h0, h1⟩]
theorem print_inj (n m : Int) (h0 : -1048576 ≤ n) (h1 : n ≤ 1048576) (k0 : -1048576 ≤ m) (k1 : m ≤ 1048576) (h : printS n = printS m) : n = m := by
  have a := parse_print n h0 h1
  have b := parse_print m k0 k1
  rw [h, b] at a
  exact (congrArg Prod.fst a).symm

/-- A whole number is parsed as 256 times as many steps. -/
theorem whole_parse (l : List UInt8) (n : Int) (h : wholeS l = (n, 0)) : -9999999 ≤ n ∧ n ≤ 9999999 ∧ parseS l = inR (256 * n) ∧ printS (256 * n) = l := by
  have key : ∀ (below : Bool) (t : List UInt8), wholeD below t = (n, 0) → t ≠ [] ∧ t.length ≤ 7 ∧ (∀ b ∈ t, isD b = true) ∧ n = (if below = true then -((valD t : Nat) : Int) else ((valD t : Nat) : Int)) ∧ valD t ≤ 9999999 ∧ (below = true → 1 ≤ valD t) ∧ Lib.decDigits (valD t) = t := by
    intro below t ht
    unfold wholeD at ht
    split at ht
    · cases ht
    · rename_i hc
      simp only [not_or, not_and, Decidable.not_not] at hc
      obtain ⟨c1, c2, c3, c4⟩ := hc
      have hd : ∀ b ∈ t, isD b = true := by simpa using c4
      have hne : t ≠ [] := fun z => by subst z; simp at c1
      have hv := valD_lt t hd
      have hp : 10 ^ t.length ≤ 10 ^ 7 := Nat.pow_le_pow_right (by decide) (by omega)
      have hb : headZ t = true → t.length = 1 := fun z => by have := (c3 z).2; omega
      have db := dec_back t hne hd hb
      refine ⟨hne, by omega, hd, ?_, by omega, ?_, db⟩
      · injection ht with e1 e2; exact e1.symm
      · intro hbl
        rcases Nat.eq_zero_or_pos (valD t) with z | z
        · rw [z, Lib.decDigits_one (by decide)] at db
          have : headZ t = true := by rw [← db]; decide
          exact absurd hbl (c3 this).1
        · exact z
  have fin : ∀ (below : Bool) (t : List UInt8), wholeD below t = (n, 0) → parseB below t = inR (256 * n) ∧ printU (256 * n).natAbs = t ∧ (-9999999 ≤ n ∧ n ≤ 9999999) ∧ (n < 0 ↔ below = true) := by
    intro below t ht
    obtain ⟨k1, k2, k3, k4, k5, k6, k7⟩ := key below t ht
    refine ⟨?_, ?_, ?_, ?_⟩
    · unfold parseB
      rw [scanB_all t k3]
      show (if t.length + 0 = 0 then ((0 : Int), (6 : Int)) else inR (stepsN below (256 * valD (t ++ [])) 1)) = _
      rw [if_neg (by intro z; exact k1 (List.length_eq_zero_iff.1 (by omega))), List.append_nil]
      have := stepsN_mul below (256 * valD t) 1 (by decide)
      rw [Nat.mul_one] at this
      rw [this, k4]
      congr 1
      cases below <;> simp <;> omega
    · have e : (256 * n).natAbs = 256 * valD t := by rw [k4]; cases below <;> simp <;> omega
      unfold printU
      rw [e, Nat.mul_div_cancel_left _ (by decide), Nat.mul_mod_right, if_pos rfl, k7, List.append_nil]
    · rw [k4]; cases below <;> simp <;> omega
    · rw [k4]
      cases below
      · simp <;> omega
      · have := k6 rfl; simp <;> omega
  unfold wholeS at h
  match l with
  | [] =>
    have h : wholeD false [] = (n, 0) := h
    rw [wholeD, if_pos (.inl rfl)] at h; cases h
  | b :: t =>
    simp only at h
    split at h
    · rename_i hb
      obtain ⟨f1, f2, f3, f4⟩ := fin true t h
      obtain ⟨k1, k2, -⟩ := key true t h
      refine ⟨f3.1, f3.2, ?_, ?_⟩
      · unfold parseS
        rw [if_neg (by simp; omega)]
        show (if b.toNat = 45 then _ else _) = _
        rw [if_pos hb, f1]
      · have eb : b = 45 := UInt8.toNat_inj.1 hb
        unfold printS
        have : n < 0 := f4.2 rfl
        rw [if_pos (by omega), f2, eb]
    · rename_i hb
      obtain ⟨f1, f2, f3, f4⟩ := fin false (b :: t) h
      obtain ⟨k1, k2, k3, -⟩ := key false (b :: t) h
      have hd := (isD_iff b).1 (k3 b (by simp))
      refine ⟨f3.1, f3.2, ?_, ?_⟩
      · unfold parseS
        rw [if_neg (by omega)]
        show (if b.toNat = 45 then _ else _) = _
        rw [if_neg hb, if_neg (by omega), f1]
      · unfold printS
        have : ¬ n < 0 := fun z => absurd (f4.1 z) (by decide)
        rw [if_neg (by omega), f2]
theorem whole_bad (l : List UInt8) (n e : Int) (h : wholeS l = (n, e)) (he : e ≠ 0) : n = 0 := by
  have key : ∀ (below : Bool) (t : List UInt8), wholeD below t = (n, e) → n = 0 := by
    intro below t ht
    unfold wholeD at ht
    split at ht
    · injection ht with a b; exact a.symm
    · injection ht with a b; exact absurd b.symm he
  unfold wholeS at h
  split at h
  · exact key _ _ h
  · split at h
    · exact key _ _ h
    · exact key _ _ h
end Go.Proofs.YtlpfijdjkaijeaaDoor
