/-
  Plain facts on places that are sorted: what is sorted, what is turned round, what is merged; sorted places are one. No program in sight.
-/
import Derived.Below
namespace Go.Proofs.Ytbcbocnblkepcaa

/-- A way to compare: both ways are one, and less and less is less. -/
structure Tot (c : Nat → Nat → Int) : Prop where
  both : ∀ x y, c x y + c y x = 0
  trans : ∀ x y z, c x y ≤ 0 → c y z ≤ 0 → c x z ≤ 0
/-- Less; of two that are as great, the one ahead. -/
def Rl (c : Nat → Nat → Int) (x y : Nat) : Prop := c x y < 0 ∨ (c x y = 0 ∧ x < y)
theorem Tot.rl_trans {c : Nat → Nat → Int} (h : Tot c) {x y z : Nat} (p : Rl c x y) (q : Rl c y z) : Rl c x z := by
  have b1 := h.both x y
  have b2 := h.both y z
  have b3 := h.both x z
  unfold Rl at p q ⊢
  have t := h.trans x y z (by omega) (by omega)
  rcases Int.lt_or_eq_of_le t with k | k
  · exact .inl k
  · have t1 := h.trans z x y (by omega) (by omega)
    have t2 := h.trans y z x (by omega) (by omega)
    exact .inr ⟨k, by omega⟩
theorem Tot.rl_asymm {c : Nat → Nat → Int} (h : Tot c) {x y : Nat} (p : Rl c x y) (q : Rl c y x) : False := by
  have b1 := h.both x y
  unfold Rl at p q
  omega
theorem Tot.rl_total {c : Nat → Nat → Int} (h : Tot c) {x y : Nat} (n : x ≠ y) : Rl c x y ∨ Rl c y x := by
  have b1 := h.both x y
  unfold Rl
  omega
/-- Of a later one: it is less just if it is less by c alone. -/
theorem Tot.later {c : Nat → Nat → Int} (h : Tot c) {x y : Nat} (n : x < y) (k : ¬ c y x < 0) : Rl c x y := by
  have b1 := h.both x y
  unfold Rl
  omega

/-! Rows of places. -/
def swp (D : Nat → Nat) (i j : Nat) : Nat → Nat := fun t => if t = i then D j else if t = j then D i else D t
theorem swp_1 (D : Nat → Nat) (i j : Nat) : swp D i j i = D j := if_pos rfl
theorem swp_2 (D : Nat → Nat) (i j : Nat) : swp D i j j = D i := by
  unfold swp
  split
  · next h => rw [h]
  · rw [if_pos rfl]
theorem swp_3 (D : Nat → Nat) {i j t : Nat} (h : t ≠ i) (k : t ≠ j) : swp D i j t = D t := by unfold swp; rw [if_neg h, if_neg k]
/-- The parts a to m and m to b in the other order. -/
def rotD (D : Nat → Nat) (a m b : Nat) : Nat → Nat := fun t => if a ≤ t ∧ t < a + (b - m) then D (t - a + m) else if a + (b - m) ≤ t ∧ t < b then D (t - (b - m)) else D t
theorem rot_lo {D : Nat → Nat} {a m b t : Nat} (h : a ≤ t) (k : t < a + (b - m)) : rotD D a m b t = D (t - a + m) := if_pos ⟨h, k⟩
theorem rot_hi {D : Nat → Nat} {a m b t : Nat} (h : a + (b - m) ≤ t) (k : t < b) : rotD D a m b t = D (t - (b - m)) := by unfold rotD; rw [if_neg (by omega), if_pos ⟨h, k⟩]
theorem rot_out {D : Nat → Nat} {a m b t : Nat} (hm : a ≤ m) (h : t < a ∨ b ≤ t) : rotD D a m b t = D t := by
  unfold rotD
  by_cases k : a ≤ t ∧ t < a + (b - m)
  · omega
  · rw [if_neg k, if_neg (by omega)]
theorem rot_none1 (D : Nat → Nat) (a b : Nat) (h : b ≤ a) : rotD D a a b = D := by
  funext t; exact rot_out (Nat.le_refl _) (by omega)
theorem rot_same_m (D : Nat → Nat) (a m : Nat) (h : a ≤ m) : rotD D a m m = D := by
  funext t
  by_cases k : a ≤ t ∧ t < m
  · rw [rot_hi (by omega) k.2]; congr 1; omega
  · exact rot_out h (by omega)
theorem rot_same_a (D : Nat → Nat) (a b : Nat) : rotD D a a b = D := by
  funext t
  by_cases k : a ≤ t ∧ t < b
  · rw [rot_lo k.1 (by omega)]; congr 1; omega
  · exact rot_out (Nat.le_refl _) (by omega)
/-- Two ranges changed for one another. -/
def swR (D : Nat → Nat) (a b n : Nat) : Nat → Nat := fun t => if a ≤ t ∧ t < a + n then D (t - a + b) else if b ≤ t ∧ t < b + n then D (t - b + a) else D t
theorem swR_lo {D : Nat → Nat} {a b n t : Nat} (h : a ≤ t) (k : t < a + n) : swR D a b n t = D (t - a + b) := if_pos ⟨h, k⟩
theorem swR_hi {D : Nat → Nat} {a b n t : Nat} (hb : a + n ≤ b) (h : b ≤ t) (k : t < b + n) : swR D a b n t = D (t - b + a) := by unfold swR; rw [if_neg (by omega), if_pos ⟨h, k⟩]
theorem swR_out {D : Nat → Nat} {a b n t : Nat} (h : ¬ (a ≤ t ∧ t < a + n)) (k : ¬ (b ≤ t ∧ t < b + n)) : swR D a b n t = D t := by unfold swR; rw [if_neg h, if_neg k]
theorem swR_none (D : Nat → Nat) (a b : Nat) : swR D a b 0 = D := by
  funext t; exact swR_out (by omega) (by omega)
theorem swR_step (D : Nat → Nat) {a b n k : Nat} (hk : k < n) (hb : a + n ≤ b) : swp (swR D a b k) (a + k) (b + k) = swR D a b (k + 1) := by
  funext t
  by_cases h1 : t = a + k
  · subst h1
    rw [swp_1, swR_out (by omega) (by omega), swR_lo (by omega) (by omega)]; congr 1; omega
  · by_cases h2 : t = b + k
    · subst h2
      rw [swp_2, swR_out (by omega) (by omega), swR_hi (by omega) (by omega) (by omega)]; congr 1; omega
    · rw [swp_3 _ h1 h2]
      by_cases h3 : a ≤ t ∧ t < a + k
      · rw [swR_lo h3.1 h3.2, swR_lo h3.1 (by omega)]
      · by_cases h4 : b ≤ t ∧ t < b + k
        · rw [swR_hi (by omega) h4.1 h4.2, swR_hi (by omega) h4.1 (by omega)]
        · rw [swR_out h3 h4, swR_out (by omega) (by omega)]
/-- A rotation, one step by ranges: the lower part is the longer one. -/
theorem rot_big (D : Nat → Nat) (p i j : Nat) (h : j ≤ i) : rotD (swR D p (p + i) j) (p + j) (p + i) (p + i + j) = rotD D p (p + i) (p + i + j) := by
  funext t
  by_cases h1 : t < p ∨ p + i + j ≤ t
  · rw [rot_out (by omega) (by omega), rot_out (by omega) h1, swR_out (by omega) (by omega)]
  · by_cases h2 : t < p + j
    · rw [rot_out (by omega) (by omega), rot_lo (by omega) (by omega), swR_lo (by omega) h2]
    · rw [rot_hi (a := p) (by omega) (by omega)]
      by_cases h3 : t < p + j + j
      · rw [rot_lo (by omega) (by omega)]
        by_cases h4 : t - (p + j) + (p + i) < p + i + j
        · rw [swR_hi (by omega) (by omega) h4]; congr 1; omega
        · omega
      · rw [rot_hi (by omega) (by omega), swR_out (by omega) (by omega)]
/-- .. the upper part is. -/
theorem rot_small (D : Nat → Nat) (p i j : Nat) (h : i ≤ j) : rotD (swR D p (p + j) i) p (p + i) (p + j) = rotD D p (p + i) (p + i + j) := by
  funext t
  by_cases h1 : t < p ∨ p + i + j ≤ t
  · rw [rot_out (by omega) (by omega), rot_out (by omega) h1, swR_out (by omega) (by omega)]
  · by_cases h2 : t < p + j
    · rw [rot_lo (a := p) (b := p + i + j) (by omega) (by omega)]
      by_cases h3 : t < p + (p + j - (p + i))
      · rw [rot_lo (by omega) h3]
        by_cases h4 : t - p + (p + i) < p + j
        · rw [swR_out (by omega) (by omega)]
        · omega
      · rw [rot_hi (by omega) h2, swR_lo (by omega) (by omega)]; congr 1; omega
    · rw [rot_out (by omega) (by omega), rot_hi (by omega) (by omega), swR_hi (by omega) (by omega) (by omega)]; congr 1; omega
theorem rot_both (D : Nat → Nat) (p i : Nat) : swR D p (p + i) i = rotD D p (p + i) (p + i + i) := by
  have h := rot_small D p i i (Nat.le_refl _)
  rw [rot_same_m _ _ _ (by omega)] at h
  exact h
/-- One element, led up; led down. -/
theorem rot_up (D : Nat → Nat) {a k : Nat} (h : a ≤ k) : swp (rotD D a (a + 1) (k + 1)) k (k + 1) = rotD D a (a + 1) (k + 2) := by
  funext t
  by_cases h1 : t = k
  · subst h1
    rw [swp_1, rot_out (by omega) (by omega), rot_lo (by omega) (by omega)]; congr 1; omega
  · by_cases h2 : t = k + 1
    · subst h2
      rw [swp_2, rot_hi (by omega) (by omega), rot_hi (by omega) (by omega)]; congr 1; omega
    · rw [swp_3 _ h1 h2]
      by_cases h3 : a ≤ t ∧ t < k
      · rw [rot_lo h3.1 (by omega), rot_lo h3.1 (by omega)]
      · rw [rot_out (by omega) (by omega), rot_out (by omega) (by omega)]
theorem rot_down (D : Nat → Nat) {k m : Nat} (h : k < m) : swp (rotD D (k + 1) m (m + 1)) (k + 1) k = rotD D k m (m + 1) := by
  funext t
  by_cases h1 : t = k + 1
  · subst h1
    rw [swp_1, rot_out (by omega) (by omega), rot_hi (by omega) (by omega)]; congr 1; omega
  · by_cases h2 : t = k
    · subst h2
      rw [swp_2, rot_lo (by omega) (by omega), rot_lo (by omega) (by omega)]; congr 1; omega
    · rw [swp_3 _ h1 h2]
      by_cases h3 : k + 2 ≤ t ∧ t ≤ m
      · rw [rot_hi (by omega) (by omega), rot_hi (by omega) (by omega)]
      · rw [rot_out (by omega) (by omega), rot_out (by omega) (by omega)]

/-! What is turned about within a to b. -/
def Pm (a b : Nat) (D E : Nat → Nat) : Prop := ∃ f h : Nat → Nat, (∀ t, E t = D (f t)) ∧ (∀ t, f (h t) = t) ∧ (∀ t, h (f t) = t) ∧ (∀ t, t < a ∨ b ≤ t → f t = t)
theorem Pm.refl (a b : Nat) (D : Nat → Nat) : Pm a b D D := ⟨id, id, fun _ => rfl, fun _ => rfl, fun _ => rfl, fun _ _ => rfl⟩
theorem Pm.trans {a b : Nat} {D E F : Nat → Nat} (h : Pm a b D E) (k : Pm a b E F) : Pm a b D F := by
  obtain ⟨f, f', h1, h2, h3, h4⟩ := h
  obtain ⟨g, g', k1, k2, k3, k4⟩ := k
  refine ⟨fun t => f (g t), fun t => g' (f' t), fun t => by rw [k1, h1], fun t => ?_, fun t => ?_, fun t ht => ?_⟩
  · show f (g (g' (f' t))) = t; rw [k2, h2]
  · show g' (f' (f (g t))) = t; rw [h3, k3]
  · show f (g t) = t; rw [k4 t ht, h4 t ht]
theorem Pm.mono {a b a' b' : Nat} {D E : Nat → Nat} (h : Pm a b D E) (ha : a' ≤ a) (hb : b ≤ b') : Pm a' b' D E := by
  obtain ⟨f, f', h1, h2, h3, h4⟩ := h
  exact ⟨f, f', h1, h2, h3, fun t ht => h4 t (by omega)⟩
theorem Pm.out {a b : Nat} {D E : Nat → Nat} (h : Pm a b D E) {t : Nat} (ht : t < a ∨ b ≤ t) : E t = D t := by
  obtain ⟨f, _, h1, _, _, h4⟩ := h
  rw [h1, h4 t ht]
theorem Pm.at {a b : Nat} {D E : Nat → Nat} (h : Pm a b D E) {t : Nat} (h0 : a ≤ t) (h1 : t < b) : ∃ s, a ≤ s ∧ s < b ∧ E t = D s := by
  obtain ⟨f, g, e, _, h3, h4⟩ := h
  refine ⟨f t, ?_, ?_, e t⟩
  · rcases Nat.lt_or_ge (f t) a with q | q
    · have := congrArg g (h4 (f t) (.inl q)); rw [h3, h3] at this; omega
    · exact q
  · rcases Nat.lt_or_ge (f t) b with q | q
    · exact q
    · have := congrArg g (h4 (f t) (.inr q)); rw [h3, h3] at this; omega
theorem Pm.swp (D : Nat → Nat) {a b i j : Nat} (hi : a ≤ i) (hi' : i < b) (hj : a ≤ j) (hj' : j < b) : Pm a b D (swp D i j) := by
  have e : ∀ t, Proofs.Ytbcbocnblkepcaa.swp id i j (Proofs.Ytbcbocnblkepcaa.swp id i j t) = t := by
    intro t
    by_cases h1 : t = i
    · subst h1; rw [swp_1]; exact swp_2 id t j
    · by_cases h2 : t = j
      · subst h2; rw [swp_2]; exact swp_1 id i t
      · rw [swp_3 id h1 h2]; exact swp_3 id h1 h2
  refine ⟨Proofs.Ytbcbocnblkepcaa.swp id i j, Proofs.Ytbcbocnblkepcaa.swp id i j, fun t => ?_, e, e, fun t ht => swp_3 id (by omega) (by omega)⟩
  unfold Proofs.Ytbcbocnblkepcaa.swp
  split
  · rfl
  · split <;> rfl
theorem Pm.rot (D : Nat → Nat) {a m b : Nat} (hm : a ≤ m) (hb : m ≤ b) : Pm a b D (rotD D a m b) := by
  refine ⟨rotD id a m b, rotD id a (a + (b - m)) b, fun t => ?_, fun t => ?_, fun t => ?_, fun t ht => rot_out hm ht⟩
  · unfold rotD
    split
    · rfl
    · split <;> rfl
  · by_cases h1 : t < a ∨ b ≤ t
    · have e : rotD id a (a + (b - m)) b t = t := rot_out (by omega) h1
      rw [e]; exact rot_out hm h1
    · by_cases h2 : t < m
      · have e : rotD id a (a + (b - m)) b t = t - a + (a + (b - m)) := rot_lo (by omega) (by omega)
        have e2 : rotD id a m b (t - a + (a + (b - m))) = t - a + (a + (b - m)) - (b - m) := rot_hi (by omega) (by omega)
        rw [e, e2]; omega
      · have e : rotD id a (a + (b - m)) b t = t - (b - (a + (b - m))) := rot_hi (by omega) (by omega)
        have e2 : rotD id a m b (t - (b - (a + (b - m)))) = t - (b - (a + (b - m))) - a + m := rot_lo (by omega) (by omega)
        rw [e, e2]; omega
  · by_cases h1 : t < a ∨ b ≤ t
    · have e : rotD id a m b t = t := rot_out hm h1
      rw [e]; exact rot_out (by omega) h1
    · by_cases h2 : t < a + (b - m)
      · have e : rotD id a m b t = t - a + m := rot_lo (by omega) h2
        have e2 : rotD id a (a + (b - m)) b (t - a + m) = t - a + m - (b - (a + (b - m))) := rot_hi (by omega) (by omega)
        rw [e, e2]; omega
      · have e : rotD id a m b t = t - (b - m) := rot_hi (by omega) (by omega)
        have e2 : rotD id a (a + (b - m)) b (t - (b - m)) = t - (b - m) - a + (a + (b - m)) := rot_lo (by omega) (by omega)
        rw [e, e2]; omega

/-! What is sorted. -/
def Srt (c : Nat → Nat → Int) (D : Nat → Nat) (a b : Nat) : Prop := ∀ s t, a ≤ s → s < t → t < b → Rl c (D s) (D t)
/-- All of the lower part are ahead of all of the upper one. -/
def Crs (D : Nat → Nat) (a m b : Nat) : Prop := ∀ s t, a ≤ s → s < m → m ≤ t → t < b → D s < D t
theorem Srt.tiny (c : Nat → Nat → Int) (D : Nat → Nat) {a b : Nat} (h : b ≤ a + 1) : Srt c D a b := fun s t _ _ _ => by omega
theorem Srt.le {c : Nat → Nat → Int} (T : Tot c) {D : Nat → Nat} {a b s t y : Nat} (h : Srt c D a b) (hs : a ≤ s) (hst : s ≤ t) (ht : t < b) (k : Rl c (D t) y) : Rl c (D s) y := by
  rcases Nat.lt_or_eq_of_le hst with q | q
  · exact T.rl_trans (h s t hs q ht) k
  · rw [q]; exact k
theorem Srt.ge {c : Nat → Nat → Int} (T : Tot c) {D : Nat → Nat} {a b s t y : Nat} (h : Srt c D a b) (hs : a ≤ s) (hst : s ≤ t) (ht : t < b) (k : Rl c y (D s)) : Rl c y (D t) := by
  rcases Nat.lt_or_eq_of_le hst with q | q
  · exact T.rl_trans k (h s t hs q ht)
  · rw [← q]; exact k

/-- Two sorted parts, one behind the other, all of the first less. -/
theorem Srt.join {c : Nat → Nat → Int} {D : Nat → Nat} {a m b : Nat} (h : Srt c D a m) (k : Srt c D m b) (x : ∀ s t, a ≤ s → s < m → m ≤ t → t < b → Rl c (D s) (D t)) : Srt c D a b := by
  intro s t hs hst ht
  by_cases h1 : t < m
  · exact h s t hs hst h1
  · by_cases h2 : s < m
    · exact x s t hs h2 (by omega) ht
    · exact k s t (by omega) hst ht

/-- One element, led up to its place. -/
theorem Srt.up {c : Nat → Nat → Int} (T : Tot c) {D : Nat → Nat} {a b i : Nat} (h : Srt c D (a + 1) b) (hi : a + 1 ≤ i) (hb : i ≤ b) (lo : i = a + 1 ∨ Rl c (D (i - 1)) (D a)) (hi2 : i = b ∨ Rl c (D a) (D i)) : Srt c (rotD D a (a + 1) i) a b := by
  have L : ∀ s, a + 1 ≤ s → s < i → Rl c (D s) (D a) := fun s h1 h2 => by
    rcases lo with q | q
    · omega
    · exact h.le T h1 (by omega : s ≤ i - 1) (by omega) q
  have U : ∀ t, i ≤ t → t < b → Rl c (D a) (D t) := fun t h1 h2 => by
    rcases hi2 with q | q
    · omega
    · exact h.ge T (by omega) h1 h2 q
  intro s t hs hst ht
  by_cases h1 : s < i - 1
  · rw [rot_lo hs (by omega)]
    by_cases h2 : t < i - 1
    · rw [rot_lo (by omega) (by omega)]; exact h _ _ (by omega) (by omega) (by omega)
    · by_cases h3 : t = i - 1
      · have e : rotD D a (a + 1) i t = D a := by rw [rot_hi (by omega) (by omega)]; congr 1; omega
        rw [e]; exact L _ (by omega) (by omega)
      · rw [rot_out (by omega) (by omega)]; exact h _ _ (by omega) (by omega) ht
  · by_cases h2 : s = i - 1
    · have e : rotD D a (a + 1) i s = D a := by rw [rot_hi (by omega) (by omega)]; congr 1; omega
      rw [e, rot_out (by omega) (by omega)]; exact U t (by omega) ht
    · rw [rot_out (by omega) (by omega), rot_out (by omega) (by omega)]; exact h _ _ (by omega) hst ht
/-- .. led down. -/
theorem Srt.down {c : Nat → Nat → Int} (T : Tot c) {D : Nat → Nat} {a m i : Nat} (h : Srt c D a m) (ha : a ≤ i) (hi : i ≤ m) (lo : i = a ∨ Rl c (D (i - 1)) (D m)) (hi2 : i = m ∨ Rl c (D m) (D i)) : Srt c (rotD D i m (m + 1)) a (m + 1) := by
  have L : ∀ s, a ≤ s → s < i → Rl c (D s) (D m) := fun s h1 h2 => by
    rcases lo with q | q
    · omega
    · exact h.le T h1 (by omega : s ≤ i - 1) (by omega) q
  have U : ∀ t, i ≤ t → t < m → Rl c (D m) (D t) := fun t h1 h2 => by
    rcases hi2 with q | q
    · omega
    · exact h.ge T ha h1 h2 q
  intro s t hs hst ht
  have lo' : rotD D i m (m + 1) i = D m := by rw [rot_lo (by omega) (by omega)]; congr 1; omega
  by_cases h1 : s < i
  · rw [rot_out (t := s) hi (by omega)]
    by_cases h2 : t < i
    · rw [rot_out hi (by omega)]; exact h _ _ hs hst (by omega)
    · by_cases h3 : t = i
      · rw [h3, lo']; exact L s hs h1
      · rw [rot_hi (by omega) (by omega)]; exact h _ _ hs (by omega) (by omega)
  · by_cases h2 : s = i
    · rw [h2, lo', rot_hi (by omega) (by omega)]; exact U _ (by omega) (by omega)
    · rw [rot_hi (t := s) (by omega) (by omega), rot_hi (by omega) (by omega)]; exact h _ _ (by omega) (by omega) (by omega)

/-- Both halves of a merge behind its rotation. -/
structure Halves (c : Nat → Nat → Int) (E : Nat → Nat) (a s mid e b : Nat) : Prop where
  s1 : Srt c E a s
  s2 : Srt c E s mid
  x1 : Crs E a s mid
  s3 : Srt c E mid e
  s4 : Srt c E e b
  x2 : Crs E mid e b
  lt : ∀ x y, a ≤ x → x < mid → mid ≤ y → y < b → Rl c (E x) (E y)
theorem halves {c : Nat → Nat → Int} (T : Tot c) {D : Nat → Nat} {a s m e b mid : Nat} (h1 : Srt c D a m) (h2 : Srt c D m b) (hx : Crs D a m b) (ha : a ≤ s) (hs : s ≤ m) (he : m ≤ e) (hb : e ≤ b) (hm : mid = s + (e - m))
    (A : s = a ∨ e = b ∨ Rl c (D (s - 1)) (D e)) (B : s = m ∨ m = e ∨ Rl c (D (e - 1)) (D s)) : Halves c (rotD D s m e) a s mid e b := by
  subst hm
  have o1 : ∀ t, t < s → rotD D s m e t = D t := fun t h => rot_out hs (.inl h)
  have o2 : ∀ t, s ≤ t → t < s + (e - m) → rotD D s m e t = D (t - s + m) := fun t h k => rot_lo h k
  have o3 : ∀ t, s + (e - m) ≤ t → t < e → rotD D s m e t = D (t - (e - m)) := fun t h k => rot_hi h k
  have o4 : ∀ t, e ≤ t → rotD D s m e t = D t := fun t h => rot_out hs (.inr h)
  have LU : ∀ x y, a ≤ x → x < s → e ≤ y → y < b → Rl c (D x) (D y) := fun x y p q r u => by
    rcases A with k | k | k
    · omega
    · omega
    · exact h1.le T p (by omega : x ≤ s - 1) (by omega) (h2.ge T he r u k)
  have UL : ∀ x y, m ≤ x → x < e → s ≤ y → y < m → Rl c (D x) (D y) := fun x y p q r u => by
    rcases B with k | k | k
    · omega
    · omega
    · exact h2.le T p (by omega : x ≤ e - 1) (by omega) (h1.ge T ha r u k)
  refine ⟨?_, ?_, ?_, ?_, ?_, ?_, ?_⟩
  · intro x y p q r; rw [o1 x (by omega), o1 y r]; exact h1 _ _ p q (by omega)
  · intro x y p q r; rw [o2 x p (by omega), o2 y (by omega) r]; exact h2 _ _ (by omega) (by omega) (by omega)
  · intro x y p q r u; rw [o1 x q, o2 y r u]; exact hx _ _ p (by omega) (by omega) (by omega)
  · intro x y p q r; rw [o3 x p (by omega), o3 y (by omega) r]; exact h1 _ _ (by omega) (by omega) (by omega)
  · intro x y p q r; rw [o4 x p, o4 y (by omega)]; exact h2 _ _ (by omega) q r
  · intro x y p q r u; rw [o3 x p q, o4 y r]; exact hx _ _ (by omega) (by omega) (by omega) u
  · intro x y p q r u
    by_cases k1 : x < s
    · rw [o1 x k1]
      by_cases k2 : y < e
      · rw [o3 y r k2]; exact h1 _ _ p (by omega) (by omega)
      · rw [o4 y (by omega)]; exact LU x y p k1 (by omega) u
    · rw [o2 x (by omega) q]
      by_cases k2 : y < e
      · rw [o3 y r k2]; exact UL _ _ (by omega) (by omega) (by omega) (by omega)
      · rw [o4 y (by omega)]; exact h2 _ _ (by omega) (by omega) u
/-- Both halves sorted: the whole is. -/
theorem merged {c : Nat → Nat → Int} {E F G : Nat → Nat} {a mid b : Nat} (ha : a ≤ mid) (hb : mid ≤ b) (lt : ∀ x y, a ≤ x → x < mid → mid ≤ y → y < b → Rl c (E x) (E y)) (p : Pm a mid E F) (hF : Srt c F a mid) (q : Pm mid b F G) (hG : Srt c G mid b) : Pm a b E G ∧ Srt c G a b := by
  refine ⟨(p.mono (Nat.le_refl _) hb).trans (q.mono ha (Nat.le_refl _)), Srt.join ?_ hG ?_⟩
  · intro s t hs hst ht
    rw [q.out (.inl (by omega)), q.out (.inl ht)]
    exact hF s t hs hst ht
  · intro s t hs hs' ht ht'
    rw [q.out (.inl hs')]
    obtain ⟨u, u1, u2, eu⟩ := p.at hs hs'
    obtain ⟨v, v1, v2, ev⟩ := q.at ht ht'
    rw [eu, ev, p.out (.inr v1)]
    exact lt u v u1 u2 v1 v2

/-! The insertion. -/
structure InsJ (c : Nat → Nat → Int) (D0 D : Nat → Nat) (a i j : Nat) : Prop where
  pm : Pm a (i + 1) D0 D
  at' : D j = i
  rest : ∀ s t, a ≤ s → s < t → t ≤ i → s ≠ j → t ≠ j → Rl c (D s) (D t)
  above : ∀ t, j < t → t ≤ i → Rl c i (D t)
  less : ∀ t, a ≤ t → t ≤ i → t ≠ j → D t < i
theorem InsJ.start {c : Nat → Nat → Int} {D0 D : Nat → Nat} {a i : Nat} (h0 : ∀ t, a ≤ t → t ≤ i → D0 t = t) (hi : a ≤ i) (p : Pm a i D0 D) (s : Srt c D a i) : InsJ c D0 D a i i where
  pm := p.mono (Nat.le_refl _) (Nat.le_succ _)
  at' := by rw [p.out (.inr (Nat.le_refl _))]; exact h0 i hi (Nat.le_refl _)
  rest := fun x y h1 h2 h3 _ h5 => s x y h1 h2 (by omega)
  above := fun t h1 h2 => by omega
  less := fun t h1 h2 h3 => by
    obtain ⟨u, u1, u2, e⟩ := p.at h1 (by omega)
    rw [e, h0 u u1 (by omega)]; exact u2
theorem InsJ.step {c : Nat → Nat → Int} {D0 D : Nat → Nat} {a i j : Nat} (h : InsJ c D0 D a i (j + 1)) (ha : a ≤ j) (hj : j + 1 ≤ i) (k : c (D (j + 1)) (D j) < 0) : InsJ c D0 (swp D (j + 1) j) a i j where
  pm := h.pm.trans (Pm.swp D (by omega) (by omega) ha (by omega))
  at' := by rw [swp_2]; exact h.at'
  rest := fun s t h1 h2 h3 h4 h5 => by
    have ev : ∀ x, a ≤ x → x ≤ i → x ≠ j → ∃ y, a ≤ y ∧ y ≤ i ∧ y ≠ j + 1 ∧ swp D (j + 1) j x = D y ∧ ((x = j + 1 ∧ y = j) ∨ (x ≠ j + 1 ∧ y = x)) := fun x p q r => by
      by_cases e : x = j + 1
      · exact ⟨j, by omega, by omega, by omega, by rw [e, swp_1], .inl ⟨e, rfl⟩⟩
      · exact ⟨x, p, q, e, swp_3 D e r, .inr ⟨e, rfl⟩⟩
    obtain ⟨x, x1, x2, x3, ex, rx⟩ := ev s h1 (by omega) h4
    obtain ⟨y, y1, y2, y3, ey, ry⟩ := ev t (by omega) h3 h5
    rw [ex, ey]
    exact h.rest x y x1 (by omega) y2 x3 y3
  above := fun t h1 h2 => by
    by_cases e : t = j + 1
    · rw [e, swp_1]; rw [h.at'] at k; exact .inl k
    · rw [swp_3 D e (by omega)]; exact h.above t (by omega) h2
  less := fun t h1 h2 h3 => by
    by_cases e : t = j + 1
    · rw [e, swp_1]; exact h.less j ha (by omega) (by omega)
    · rw [swp_3 D e h3]; exact h.less t h1 h2 e
theorem InsJ.fin {c : Nat → Nat → Int} (T : Tot c) {D0 D : Nat → Nat} {a i j : Nat} (h : InsJ c D0 D a i j) (ha : a ≤ j) (hj : j ≤ i) (k : j = a ∨ ¬ c (D j) (D (j - 1)) < 0) : Pm a (i + 1) D0 D ∧ Srt c D a (i + 1) := by
  refine ⟨h.pm, ?_⟩
  have B : ∀ s, a ≤ s → s < j → Rl c (D s) i := fun s h1 h2 => by
    rcases k with k | k
    · omega
    · have z : Rl c (D (j - 1)) i := T.later (h.less (j - 1) (by omega) (by omega) (by omega)) (by rw [h.at'] at k; exact k)
      by_cases e : s = j - 1
      · rw [e]; exact z
      · exact T.rl_trans (h.rest s (j - 1) h1 (by omega) (by omega) (by omega) (by omega)) z
  intro s t hs hst ht
  by_cases e1 : s = j
  · rw [e1, h.at']; exact h.above t (by omega) (by omega)
  · by_cases e2 : t = j
    · rw [e2, h.at']; exact B s hs (by omega)
    · exact h.rest s t hs hst (by omega) e1 e2

/-! Sorted places are one. -/
theorem sorted_unique {c : Nat → Nat → Int} (T : Tot c) {D E : Nat → Nat} {n : Nat} (p : Pm 0 n id D) (q : Pm 0 n id E) (hD : Srt c D 0 n) (hE : Srt c E 0 n) : ∀ t, t < n → D t = E t := by
  obtain ⟨f, f', h1, h2, h3, h4⟩ := p
  obtain ⟨g, g', k1, k2, k3, k4⟩ := q
  have bd : ∀ (f f' : Nat → Nat), (∀ t, f (f' t) = t) → (∀ t, f' (f t) = t) → (∀ t, t < 0 ∨ n ≤ t → f t = t) → ∀ t, t < n → f' t < n := fun f f' a b c t ht => by
    rcases Nat.lt_or_ge (f' t) n with z | z
    · exact z
    · have := c (f' t) (.inr z); rw [a] at this; omega
  intro t
  induction t using Nat.strongRecOn with
  | ind t ih =>
    intro ht
    have e1 : D t = f t := h1 t
    have e2 : E t = g t := k1 t
    have fb : f t < n := bd f' f h3 h2 (fun x hx => by have := congrArg f' (h4 x hx); rw [h3] at this; exact this.symm) t ht
    have gb : g t < n := bd g' g k3 k2 (fun x hx => by have := congrArg g' (k4 x hx); rw [k3] at this; exact this.symm) t ht
    -- where the other one has it
    have u1 : E (g' (f t)) = f t := by rw [k1]; exact k2 _
    have v1 : D (f' (g t)) = g t := by rw [h1]; exact h2 _
    have u2 : g' (f t) < n := bd g g' k2 k3 k4 _ fb
    have v2 : f' (g t) < n := bd f f' h2 h3 h4 _ gb
    have u3 : t ≤ g' (f t) := by
      rcases Nat.lt_or_ge (g' (f t)) t with z | z
      · have w := ih _ z u2
        rw [u1, h1] at w
        have := congrArg f' (show f (g' (f t)) = f t from w)
        rw [h3, h3] at this
        omega
      · exact z
    have v3 : t ≤ f' (g t) := by
      rcases Nat.lt_or_ge (f' (g t)) t with z | z
      · have w := ih _ z v2
        rw [v1, k1] at w
        have := congrArg g' (show g t = g (f' (g t)) from w)
        rw [k3, k3] at this
        omega
      · exact z
    rcases Nat.lt_or_eq_of_le u3 with z | z
    · rcases Nat.lt_or_eq_of_le v3 with y | y
      · have a1 := hE t _ (Nat.zero_le _) z u2
        have a2 := hD t _ (Nat.zero_le _) y v2
        rw [u1, e2] at a1
        rw [v1, e1] at a2
        exact (T.rl_asymm a1 a2).elim
      · rw [← y] at v1; rw [v1, e2]
    · rw [← z] at u1; rw [u1, e1]
end Go.Proofs.Ytbcbocnblkepcaa
