/-
  Package scan, of no program: a text and its other side; a digit more.
-/
import Derived.Test.YtehfmapbodjppaaDoorScPureB
namespace Go.Proofs.YtehfmapbodjppaaDoor

theorem inR_two (n : Int) : ((inR n).2 = 0 ∧ (inR n).1 = n ∧ -1048576 ≤ n ∧ n ≤ 1048576) ∨ ((inR n).2 = 5 ∧ (inR n).1 = 0 ∧ ¬ (-1048576 ≤ n ∧ n ≤ 1048576)) := by
  unfold inR; split
  · rename_i h; exact .inl ⟨rfl, rfl, h⟩
  · rename_i h; exact .inr ⟨rfl, rfl, h⟩
/-- What a text's digits tell. -/
theorem parseB_two (bl : Bool) (t : List UInt8) : (parseB bl t = (0, 6) ∧ (scanB t false = none ∨ scanB t false = some ([], []))) ∨ ∃ A B, scanB t false = some (A, B) ∧ ¬ A.length + B.length = 0 ∧ parseB bl t = inR (stepsS bl A B) := by
  unfold parseB
  cases h : scanB t false with
  | none => exact .inl ⟨rfl, .inl rfl⟩
  | some r =>
    obtain ⟨A, B⟩ := r
    by_cases z : A.length + B.length = 0
    · refine .inl ⟨by show (if _ then _ else _) = _; rw [if_pos z], .inr ?_⟩
      rw [List.length_eq_zero_iff.1 (show A.length = 0 by omega), List.length_eq_zero_iff.1 (show B.length = 0 by omega)]
    · exact .inr ⟨A, B, rfl, z, by show (if _ then _ else _) = _; rw [if_neg z]⟩
theorem parseB_in (bl : Bool) (t : List UInt8) : -1048576 ≤ (parseB bl t).1 ∧ (parseB bl t).1 ≤ 1048576 := by
  rcases parseB_two bl t with ⟨h, _⟩ | ⟨A, B, _, _, h⟩
  · rw [h]; decide
  · rw [h]; rcases inR_two (stepsS bl A B) with ⟨_, h, _⟩ | ⟨_, h, _⟩ <;> rw [h] <;> omega
theorem parse_plain (l : List UInt8) (h : l.length ≤ 20) (hs : ∀ b t, l = b :: t → ¬ b.toNat = 45 ∧ ¬ b.toNat = 43) : parseS l = parseB false l := by
  unfold parseS
  rw [if_neg (by omega)]
  match l, hs with
  | [], _ => rfl
  | b :: t, hs =>
    obtain ⟨h1, h2⟩ := hs b t rfl
    show (if _ then _ else if _ then _ else _) = _
    rw [if_neg h1, if_neg h2]
theorem parse_minus (l : List UInt8) (h : l.length ≤ 19) : parseS (45 :: l) = parseB true l := by
  unfold parseS
  rw [if_neg (by simp; omega)]
  show (if (45 : UInt8).toNat = 45 then _ else _) = _
  rw [if_pos (by decide)]
theorem parse_plus (l : List UInt8) (h : l.length ≤ 19) : parseS (43 :: l) = parseB false l := by
  unfold parseS
  rw [if_neg (by simp; omega)]
  show (if (43 : UInt8).toNat = 45 then _ else if (43 : UInt8).toNat = 43 then _ else _) = _
  rw [if_neg (by decide), if_pos (by decide)]
/-- A text and its other side. -/
theorem sides (t : List UInt8) : ((parseB false t).2 ≠ 0 ∧ (parseB true t).2 = (parseB false t).2) ∨
    ((parseB false t).2 = 0 ∧ 0 ≤ (parseB false t).1 ∧ (((parseB true t).2 = 0 ∧ ((parseB false t).1 + (parseB true t).1 = 0 ∨ (parseB false t).1 + (parseB true t).1 = -1)) ∨ ((parseB true t).2 = 5 ∧ (parseB false t).1 = 1048576))) := by
  rcases parseB_two false t with ⟨h, g⟩ | ⟨A, B, hs, hz, h⟩
  · rcases parseB_two true t with ⟨h', _⟩ | ⟨A, B, hs, hz, _⟩
    · rw [h, h']; exact .inl ⟨by decide, rfl⟩
    · rcases g with g | g
      · rw [g] at hs; cases hs
      · rw [g] at hs; cases hs; exact absurd rfl hz
  · have h' : parseB true t = inR (stepsS true A B) := by
      unfold parseB; rw [hs]; show (if _ then _ else _) = _; rw [if_neg hz]
    have u := up_down (256 * valD (A ++ B)) (10 ^ B.length)
    have e1 : stepsS true A B = -((upD (256 * valD (A ++ B)) (10 ^ B.length) : Nat) : Int) := rfl
    have e2 : stepsS false A B = ((256 * valD (A ++ B) / 10 ^ B.length : Nat) : Int) := rfl
    rw [h, h']
    generalize upD (256 * valD (A ++ B)) (10 ^ B.length) = p at *
    generalize 256 * valD (A ++ B) / 10 ^ B.length = q at *
    have r1 := inR_two (stepsS false A B)
    have r2 := inR_two (stepsS true A B)
    rw [e1, e2] at *
    generalize inR (q : Int) = x at *
    generalize inR (-(p : Int)) = y at *
    omega

theorem nought_steps (bl : Bool) (A B : List UInt8) : stepsS bl A (B ++ [48]) = stepsS bl A B := by
  unfold stepsS
  rw [← List.append_assoc, valD_snoc, List.length_append, List.length_singleton, Nat.pow_succ]
  rw [show 256 * (10 * valD (A ++ B) + ((48 : UInt8).toNat - 48)) = 256 * valD (A ++ B) * 10 from by
    rw [show (48 : UInt8).toNat - 48 = 0 from rfl]; omega]
  exact stepsN_nought _ _ _
theorem more_steps (bl : Bool) (A B : List UInt8) (d : UInt8) (hd : isD d = true) (hB : ∀ b ∈ B, isD b = true) (h0 : -1048576 ≤ stepsS bl A B) (h1 : stepsS bl A B ≤ 1048576) :
    (bl = true → stepsS bl A (B ++ [d]) ≤ stepsS bl A B ∧ stepsS bl A B ≤ stepsS bl A (B ++ [d]) + 231) ∧ (bl = false → stepsS bl A B ≤ stepsS bl A (B ++ [d]) ∧ stepsS bl A (B ++ [d]) ≤ stepsS bl A B + 231) ∧
    ((-1048576 ≤ stepsS bl A (B ++ [d]) ∧ stepsS bl A (B ++ [d]) ≤ 1048576) ∨ stepsS bl A B = 1048576 ∨ stepsS bl A B = -1048576) := by
  have hd' := (isD_iff d).1 hd
  have hT : 0 < 10 ^ B.length := Nat.pow_pos (by decide)
  have hv := valD_lt B hB
  unfold stepsS at *
  rw [← List.append_assoc, valD_snoc, List.length_append, List.length_singleton, Nat.pow_succ]
  have eN : valD (A ++ B) = valD A * 10 ^ B.length + valD B := valD_app A B
  generalize valD (A ++ B) = N at *
  generalize 10 ^ B.length = T at *
  obtain ⟨δ, hδ⟩ : ∃ δ, d.toNat - 48 = δ := ⟨_, rfl⟩
  have hδ9 : δ ≤ 9 := by omega
  rw [hδ]
  have m1 := div_more N T δ hT hδ9
  have m2 := upD_more N T δ hT hδ9
  have u1 := up_down (256 * N) T
  have u2 := up_down (256 * (10 * N + δ)) (T * 10)
  have big : 4096 ≤ valD A → 1048576 ≤ 256 * N / T := fun hA => by
    refine (Nat.le_div_iff_mul_le hT).2 ?_
    have := Nat.mul_le_mul_right T hA
    omega
  have low : valD A ≤ 4095 → 256 * (10 * N + δ) / (T * 10) < 1048576 := fun hA => by
    refine (Nat.div_lt_iff_lt_mul (by omega)).2 ?_
    have := Nat.mul_le_mul_right T hA
    omega
  have lo2 : valD A ≤ 4095 → upD (256 * (10 * N + δ)) (T * 10) ≤ 1048576 := fun hA => by have := low hA; omega
  cases bl
  · rw [stepsN_down] at *
    rw [stepsN_down]
    generalize 256 * N / T = q at *
    generalize 256 * (10 * N + δ) / (T * 10) = r at *
    refine ⟨fun h => absurd h (by decide), fun _ => by omega, ?_⟩
    rcases Nat.lt_or_ge (valD A) 4096 with hA | hA
    · have := low (by omega); omega
    · have := big hA; omega
  · rw [stepsN_up] at *
    rw [stepsN_up]
    generalize 256 * N / T = q at *
    generalize 256 * (10 * N + δ) / (T * 10) = r at *
    generalize upD (256 * N) T = q' at *
    generalize upD (256 * (10 * N + δ)) (T * 10) = r' at *
    refine ⟨fun _ => by omega, fun h => absurd h (by decide), ?_⟩
    rcases Nat.lt_or_ge (valD A) 4096 with hA | hA
    · have := lo2 (by omega); omega
    · have := big hA; omega
/-- A digit more behind the point; two noughts. -/
theorem more_body (bl : Bool) (t : List UInt8) (d : UInt8) (hd : isD d = true) (h46 : ∃ b ∈ t, b.toNat = 46) :
    ((parseB bl t).2 ≠ 0 ∧ ((parseB bl t).2 = 5 ↔ (parseB bl (t ++ [48, 48])).2 = 5)) ∨
    ((parseB bl t).2 = 0 ∧ parseB bl (t ++ [48, 48]) = parseB bl t ∧ (((parseB bl (t ++ [d])).2 = 5 ∧ ((parseB bl t).1 = 1048576 ∨ (parseB bl t).1 = -1048576)) ∨
      ((parseB bl (t ++ [d])).2 = 0 ∧ (bl = true → (parseB bl (t ++ [d])).1 ≤ (parseB bl t).1) ∧ (bl = false → (parseB bl t).1 ≤ (parseB bl (t ++ [d])).1) ∧ (parseB bl (t ++ [d])).1 - (parseB bl t).1 ≤ 231 ∧ (parseB bl t).1 - (parseB bl (t ++ [d])).1 ≤ 231))) := by
  have e1 := scanB_more d hd t false (.inr h46)
  have e2 : scanB (t ++ [48, 48]) false = (scanB t false).map (fun r => (r.1, r.2 ++ [48, 48])) := by
    rw [show t ++ [48, 48] = (t ++ [48]) ++ [48] from by simp, scanB_more 48 (by decide) (t ++ [48]) false (.inr (by obtain ⟨b, hb, h⟩ := h46; exact ⟨b, by simp [hb], h⟩)), scanB_more 48 (by decide) t false (.inr h46)]
    cases scanB t false <;> simp
  have two : ∀ A B, stepsS bl A (B ++ [48, 48]) = stepsS bl A B := fun A B => by
    rw [show B ++ [48, 48] = (B ++ [48]) ++ [48] from by simp, nought_steps, nought_steps]
  rcases parseB_two bl t with ⟨h, g⟩ | ⟨A, B, hs, hz, h⟩
  · refine .inl ⟨by rw [h]; decide, ?_⟩
    rw [h]
    refine ⟨fun q => absurd q (by decide), fun q => ?_⟩
    exfalso
    unfold parseB at q
    rcases g with g | g
    · rw [e2, g] at q; exact absurd (show (6 : Int) = 5 from q) (by decide)
    · rw [e2, g] at q
      change (inR (stepsS bl [] ([] ++ [48, 48]))).2 = 5 at q
      rw [two] at q
      cases bl <;> exact absurd q (by decide +kernel)
  · have hB := (scanB_digits t false A B hs).2.1
    have p1 : parseB bl (t ++ [d]) = inR (stepsS bl A (B ++ [d])) := by
      unfold parseB; rw [e1, hs]; show (if A.length + (B ++ [d]).length = 0 then _ else _) = _; rw [if_neg (by simp)]
    have p2 : parseB bl (t ++ [48, 48]) = inR (stepsS bl A B) := by
      unfold parseB; rw [e2, hs]; show (if A.length + (B ++ [48, 48]).length = 0 then _ else inR (stepsS bl A (B ++ [48, 48]))) = _; rw [if_neg (by simp), two]
    rw [p1, p2, h]
    have r1 := inR_two (stepsS bl A B)
    rcases r1 with ⟨r1, r2, r3, r4⟩ | ⟨r1, r2, r3⟩
    · right
      refine ⟨r1, rfl, ?_⟩
      obtain ⟨m1, m2, m3⟩ := more_steps bl A B d hd hB r3 r4
      rcases inR_two (stepsS bl A (B ++ [d])) with ⟨s1, s2, s3, s4⟩ | ⟨s1, s2, s3⟩
      · right
        rw [s2, r2]
        refine ⟨s1, fun hb => (m1 hb).1, fun hb => (m2 hb).1, ?_, ?_⟩
        · cases bl
          · have := m2 rfl; omega
          · have := m1 rfl; omega
        · cases bl
          · have := m2 rfl; omega
          · have := m1 rfl; omega
      · left
        rw [r2]
        refine ⟨s1, ?_⟩
        rcases m3 with m3 | m3
        · exact absurd m3 s3
        · exact m3
    · left
      exact ⟨by rw [r1]; decide, Iff.rfl⟩
/-- The same of a whole text with a point. -/
theorem more_text (l : List UInt8) (d : UInt8) (hd : isD d = true) (hl : l.length ≤ 18) (h46 : ∃ b ∈ l, b.toNat = 46) : ∃ bl : Bool, (bl = true ↔ ∃ t, l = 45 :: t) ∧
    (-1048576 ≤ (parseS l).1 ∧ (parseS l).1 ≤ 1048576) ∧ (-1048576 ≤ (parseS (l ++ [d])).1 ∧ (parseS (l ++ [d])).1 ≤ 1048576) ∧
    (((parseS l).2 ≠ 0 ∧ ((parseS l).2 = 5 ↔ (parseS (l ++ [48, 48])).2 = 5)) ∨
    ((parseS l).2 = 0 ∧ parseS (l ++ [48, 48]) = parseS l ∧ (((parseS (l ++ [d])).2 = 5 ∧ ((parseS l).1 = 1048576 ∨ (parseS l).1 = -1048576)) ∨
      ((parseS (l ++ [d])).2 = 0 ∧ (bl = true → (parseS (l ++ [d])).1 ≤ (parseS l).1) ∧ (bl = false → (parseS l).1 ≤ (parseS (l ++ [d])).1) ∧ (parseS (l ++ [d])).1 - (parseS l).1 ≤ 231 ∧ (parseS l).1 - (parseS (l ++ [d])).1 ≤ 231)))) := by
  obtain ⟨b, t, rfl⟩ : ∃ b t, l = b :: t := by
    cases l with
    | nil => obtain ⟨b, hb, _⟩ := h46; simp at hb
    | cons b t => exact ⟨b, t, rfl⟩
  simp at hl
  have in46 : ¬ b.toNat = 46 → ∃ x ∈ t, x.toNat = 46 := fun hb => by
    obtain ⟨x, hx, h⟩ := h46
    rcases List.mem_cons.1 hx with rfl | hx
    · exact absurd h hb
    · exact ⟨x, hx, h⟩
  by_cases h45 : b.toNat = 45
  · obtain rfl : b = 45 := UInt8.toNat_inj.1 h45
    refine ⟨true, ⟨fun _ => ⟨t, rfl⟩, fun _ => rfl⟩, ?_⟩
    rw [List.cons_append, List.cons_append, parse_minus t (by omega), parse_minus (t ++ [d]) (by simp; omega), parse_minus (t ++ [48, 48]) (by simp; omega)]
    exact ⟨parseB_in _ _, parseB_in _ _, more_body true t d hd (in46 (by omega))⟩
  · refine ⟨false, ⟨fun h => absurd h (by decide), fun ⟨u, hu⟩ => by injection hu with hu _; exact absurd (by rw [hu]; rfl) h45⟩, ?_⟩
    by_cases h43 : b.toNat = 43
    · obtain rfl : b = 43 := UInt8.toNat_inj.1 h43
      rw [List.cons_append, List.cons_append, parse_plus t (by omega), parse_plus (t ++ [d]) (by simp; omega), parse_plus (t ++ [48, 48]) (by simp; omega)]
      exact ⟨parseB_in _ _, parseB_in _ _, more_body false t d hd (in46 (by omega))⟩
    · rw [parse_plain (b :: t) (by simp; omega) (fun x u e => by injection e with e _; subst e; exact ⟨h45, h43⟩),
        parse_plain (b :: t ++ [d]) (by simp; omega) (fun x u e => by injection e with e _; subst e; exact ⟨h45, h43⟩),
        parse_plain (b :: t ++ [48, 48]) (by simp; omega) (fun x u e => by injection e with e _; subst e; exact ⟨h45, h43⟩)]
      exact ⟨parseB_in _ _, parseB_in _ _, more_body false (b :: t) d hd h46⟩
end Go.Proofs.YtehfmapbodjppaaDoor
