/-
  Package face, of no program: a text's parts between strokes, what a corner's text tells, what a corner's text is.
-/
import Derived.Test.YtlpfijdjkaijeaaDoorScPureB
import Derived.Lib.IndexBytes
import Derived.Lib.Split
namespace Go.Proofs.YtlpfijdjkaijeaaDoor

/-- What lies ahead of the first stroke, and behind it. -/
def cutS : List UInt8 → Option (List UInt8 × List UInt8)
  | [] => none
  | b :: t => if b = 47 then some ([], t) else (cutS t).map fun r => (b :: r.1, r.2)
def partsS (l : List UInt8) : List (List UInt8) :=
  match cutS l with
  | none => [l]
  | some (a, r) => match cutS r with
    | none => [a, r]
    | some (b, c) => [a, b, c]
def wOK (l : List UInt8) : Bool := decide ((wholeS l).2 = 0)
def formS : List (List UInt8) → Option (List UInt8 × List UInt8 × List UInt8)
  | [a] => if wOK a = true then some (a, [], []) else none
  | [a, b] => if wOK a = true ∧ wOK b = true then some (a, b, []) else none
  | [a, b, c] => if wOK a = true ∧ (b = [] ∨ wOK b = true) ∧ wOK c = true then some (a, b, c) else none
  | _ => none
def placeS (l : List UInt8) (many : Int) : Int × Int :=
  if (wholeS l).2 ≠ 0 then (0, 6) else if 1 ≤ (wholeS l).1 ∧ (wholeS l).1 ≤ many then ((wholeS l).1 - 1, 0)
  else if (wholeS l).1 ≤ -1 ∧ -(wholeS l).1 ≤ many then (many + (wholeS l).1, 0) else (0, 7)
def placeO (l : List UInt8) (many : Int) : Int × Int := if l = [] then (-1, 0) else placeS l many
def cornerT (a b c : List UInt8) (v t n : Int) : Int × Int × Int × Int :=
  if (placeO a v).2 ≠ 0 then (0, 0, 0, (placeO a v).2) else if (placeO b t).2 ≠ 0 then (0, 0, 0, (placeO b t).2)
  else if (placeO c n).2 ≠ 0 then (0, 0, 0, (placeO c n).2) else ((placeO a v).1, (placeO b t).1, (placeO c n).1, 0)
def cornerF (o : Option (List UInt8 × List UInt8 × List UInt8)) (v t n : Int) : Int × Int × Int × Int :=
  match o with
  | none => (0, 0, 0, 6)
  | some (a, b, c) => cornerT a b c v t n
def cornerS (l : List UInt8) (v t n : Int) : Int × Int × Int × Int := cornerF (formS (partsS l)) v t n
/-- All parts between strokes. -/
def allA (acc : List UInt8) : List UInt8 → List (List UInt8)
  | [] => [acc]
  | b :: t => if b = 47 then acc :: allA [] t else allA (acc ++ [b]) t

theorem allA_cons (acc : List UInt8) (b : UInt8) (t : List UInt8) : allA acc (b :: t) = if b = 47 then acc :: allA [] t else allA (acc ++ [b]) t := by rw [allA]
theorem cut_none : ∀ l : List UInt8, cutS l = none → Lib.indexByte l 47 = -1 ∧ ¬ (47 : UInt8) ∈ l
  | [], _ => ⟨rfl, by simp⟩
  | b :: t, h => by
    unfold cutS at h
    by_cases hb : b = 47
    · rw [if_pos hb] at h; cases h
    · rw [if_neg hb, Option.map_eq_none_iff] at h
      obtain ⟨h1, h2⟩ := cut_none t h
      refine ⟨?_, ?_⟩
      · unfold Lib.indexByte
        rw [if_neg (by simpa using hb), h1]; rfl
      · intro hm
        rcases List.mem_cons.1 hm with q | q
        · exact hb q.symm
        · exact h2 q
theorem cut_some : ∀ (l a r : List UInt8), cutS l = some (a, r) → Lib.indexByte l 47 = a.length ∧ l = a ++ 47 :: r ∧ ¬ (47 : UInt8) ∈ a
  | [], a, r, h => by cases h
  | b :: t, a, r, h => by
    unfold cutS at h
    by_cases hb : b = 47
    · rw [if_pos hb] at h
      cases h
      subst hb
      exact ⟨rfl, rfl, by simp⟩
    · rw [if_neg hb] at h
      obtain ⟨⟨a', r'⟩, h', e⟩ := Option.map_eq_some_iff.1 h
      cases e
      obtain ⟨h1, h2, h3⟩ := cut_some t a' r' h'
      refine ⟨?_, by rw [h2]; rfl, ?_⟩
      · unfold Lib.indexByte
        rw [if_neg (by simpa using hb), h1, if_neg (by simp)]
        simp
      · intro hm
        rcases List.mem_cons.1 hm with q | q
        · exact hb q.symm
        · exact h3 q
theorem split_zero (l : List UInt8) : Lib.splitK [47] 0 0 l = [l] := rfl
theorem split_miss (k : Nat) (l : List UInt8) (h : cutS l = none) : Lib.splitK [47] 0 k l = [l] := by
  cases k with
  | zero => rfl
  | succ k =>
    unfold Lib.splitK
    rw [Lib.index_one, (cut_none l h).1]; rfl
theorem split_hit (k : Nat) (l a r : List UInt8) (h : cutS l = some (a, r)) : Lib.splitK [47] 0 (k + 1) l = a :: Lib.splitK [47] 0 k r := by
  obtain ⟨h1, h2, -⟩ := cut_some l a r h
  unfold Lib.splitK
  rw [Lib.index_one, h1, if_neg (by simp)]
  have e1 : l.take ((a.length : Int).toNat + 0) = a := by rw [h2]; simp
  have e2 : l.drop ((a.length : Int).toNat + [(47 : UInt8)].length) = r := by rw [h2]; simp [List.drop_append]
  rw [e1, e2]
  cases k <;> rfl
/-- The library's cut into three at most. -/
theorem split_parts (l : List UInt8) : Lib.splitK [47] 0 (min 3 (l.length + 1) - 1) l = partsS l := by
  unfold partsS
  cases h : cutS l with
  | none => exact split_miss _ _ h
  | some p =>
    obtain ⟨a, r⟩ := p
    have h2 := (cut_some l a r h).2.1
    have hl : l.length = a.length + (r.length + 1) := by rw [h2]; simp
    obtain ⟨k, hk⟩ : ∃ k, min 3 (l.length + 1) - 1 = k + 1 := ⟨min 3 (l.length + 1) - 2, by omega⟩
    rw [hk, split_hit _ _ _ _ h]
    show a :: _ = match cutS r with | none => [a, r] | some (b, c) => [a, b, c]
    cases h' : cutS r with
    | none => rw [split_miss _ _ h']
    | some q =>
      obtain ⟨b, c⟩ := q
      have h3 := (cut_some r b c h').2.1
      have hr : r.length = b.length + (c.length + 1) := by rw [h3]; simp
      obtain ⟨j, hj⟩ : ∃ j, k = j + 1 := ⟨k - 1, by omega⟩
      rw [hj, split_hit _ _ _ _ h']
      obtain rfl : j = 0 := by omega
      rfl
theorem parts_cases (l : List UInt8) : (∃ a, partsS l = [a]) ∨ (∃ a b, partsS l = [a, b]) ∨ ∃ a b c, partsS l = [a, b, c] := by
  unfold partsS
  cases h : cutS l with
  | none => exact .inl ⟨_, rfl⟩
  | some p =>
    obtain ⟨a, r⟩ := p
    cases h' : cutS r with
    | none => exact .inr (.inl ⟨a, r, by simp [h']⟩)
    | some q => exact .inr (.inr ⟨a, q.1, q.2, by simp [h']⟩)

theorem wOK_iff (l : List UInt8) : wOK l = true ↔ (wholeS l).2 = 0 := by unfold wOK; simp
theorem wholeD_at (bl : Bool) (t : List UInt8) (h : (wholeD bl t).2 = 0) : t ≠ [] ∧ ∀ b ∈ t, isD b = true := by
  unfold wholeD at h
  split at h
  · simp at h
  · rename_i hc
    simp only [not_or, not_and, Decidable.not_not] at hc
    obtain ⟨c1, c2, c3, c4⟩ := hc
    exact ⟨fun z => by subst z; simp at c1, by simpa using c4⟩
theorem whole_no_stroke (l : List UInt8) (h : wOK l = true) : ¬ (47 : UInt8) ∈ l ∧ l ≠ [] := by
  rw [wOK_iff] at h
  have no47 : ∀ t : List UInt8, (∀ b ∈ t, isD b = true) → ¬ (47 : UInt8) ∈ t := fun t ht hm => by have := ht 47 hm; revert this; decide
  cases l with
  | nil => exact absurd h (by decide)
  | cons b t =>
    refine ⟨?_, fun z => by cases z⟩
    change (if b.toNat = 45 then wholeD true t else wholeD false (b :: t)).2 = 0 at h
    by_cases hb : b.toNat = 45
    · rw [if_pos hb] at h
      intro hm
      rcases List.mem_cons.1 hm with q | q
      · subst q; revert hb; decide
      · exact no47 t (wholeD_at _ _ h).2 q
    · rw [if_neg hb] at h
      exact no47 _ (wholeD_at _ _ h).2
theorem form_bad3 (a b c : List UInt8) (h : ¬ cutS c = none) : formS [a, b, c] = none := by
  show (if wOK a = true ∧ (b = [] ∨ wOK b = true) ∧ wOK c = true then _ else _) = _
  rw [if_neg]
  rintro ⟨-, -, k⟩
  cases h' : cutS c with
  | none => exact h h'
  | some p =>
    obtain ⟨x, y⟩ := p
    have := (cut_some c x y h').2.1
    exact (whole_no_stroke c k).1 (by rw [this]; simp)

theorem all_none : ∀ (l acc : List UInt8), cutS l = none → allA acc l = [acc ++ l]
  | [], acc, _ => by simp [allA]
  | b :: t, acc, h => by
    unfold cutS at h
    rw [allA_cons]
    by_cases hb : b = 47
    · rw [if_pos hb] at h; cases h
    · rw [if_neg hb, Option.map_eq_none_iff] at h
      rw [if_neg hb, all_none t _ h]; simp
theorem all_some : ∀ (l acc a r : List UInt8), cutS l = some (a, r) → allA acc l = (acc ++ a) :: allA [] r
  | [], acc, a, r, h => by cases h
  | b :: t, acc, a, r, h => by
    unfold cutS at h
    rw [allA_cons]
    by_cases hb : b = 47
    · rw [if_pos hb] at h ⊢
      cases h; simp
    · rw [if_neg hb] at h ⊢
      obtain ⟨⟨a', r'⟩, h', e⟩ := Option.map_eq_some_iff.1 h
      cases e
      rw [all_some t _ a' r' h']; simp
theorem all_pos (l acc : List UInt8) : 1 ≤ (allA acc l).length := by
  cases h : cutS l with
  | none => rw [all_none _ _ h]; simp
  | some p => rw [all_some _ _ p.1 p.2 h]; simp
/-- The reference's way: all parts, not more than three. -/
theorem form_all (l : List UInt8) : (3 < (allA [] l).length ∧ formS (partsS l) = none) ∨ ((allA [] l).length ≤ 3 ∧ allA [] l = partsS l) := by
  unfold partsS
  cases h : cutS l with
  | none => refine .inr ⟨?_, ?_⟩ <;> simp [all_none _ _ h]
  | some p =>
    obtain ⟨a, r⟩ := p
    rw [all_some _ _ _ _ h]
    cases h' : cutS r with
    | none => refine .inr ⟨?_, ?_⟩ <;> simp [all_none _ _ h', h']
    | some q =>
      obtain ⟨b, c⟩ := q
      rw [all_some _ _ _ _ h']
      cases h'' : cutS c with
      | none => refine .inr ⟨?_, ?_⟩ <;> simp [all_none _ _ h'', h']
      | some z =>
        refine .inl ⟨?_, ?_⟩
        · rw [all_some _ _ z.1 z.2 h'']
          have := all_pos z.2 []
          simp only [List.length_cons]; omega
        · simp only [h']
          exact form_bad3 a b c (by rw [h'']; simp)
theorem all_len : ∀ (l acc : List UInt8), (allA acc l).length ≤ l.length + 1
  | [], acc => by simp [allA]
  | b :: t, acc => by
    rw [allA_cons]
    split
    · have := all_len t []; simp only [List.length_cons]; omega
    · have := all_len t (acc ++ [b]); simp only [List.length_cons]; omega
end Go.Proofs.YtlpfijdjkaijeaaDoor
