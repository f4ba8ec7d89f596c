/-
  Boxes: what is right, what is between, and ways that meet one: the program's and the reference's reckonings, and what they come to. No program.
-/
import Derived.Test.YtfghjfgdjlkooaaSgPl
import Derived.Test.YtfghjfgdjlkooaaFrPl
namespace Go.Proofs.Ytfghjfgdjlkooaa

/-- No part of the first is above that of the second. -/
def le3 (a1 a2 a3 b1 b2 b3 : Int) : Bool := decide (a1 ≤ b1) && (decide (a2 ≤ b2) && decide (a3 ≤ b3))
theorem le3_iff {a1 a2 a3 b1 b2 b3 : Int} : le3 a1 a2 a3 b1 b2 b3 = true ↔ a1 ≤ b1 ∧ a2 ≤ b2 ∧ a3 ≤ b3 := by
  unfold le3; rw [Bool.and_eq_true, Bool.and_eq_true, decide_eq_true_iff, decide_eq_true_iff, decide_eq_true_iff]
/-- A right box. -/
def bxR (l1 l2 l3 h1 h2 h3 : Int) : Bool := (s3 l1 l2 l3 && s3 h1 h2 h3) && le3 l1 l2 l3 h1 h2 h3
theorem bxR_iff {l1 l2 l3 h1 h2 h3 : Int} : bxR l1 l2 l3 h1 h2 h3 = true ↔ (s3 l1 l2 l3 = true ∧ s3 h1 h2 h3 = true) ∧ l1 ≤ h1 ∧ l2 ≤ h2 ∧ l3 ≤ h3 := by
  unfold bxR; rw [Bool.and_eq_true, Bool.and_eq_true, le3_iff]
/-- A right box has a point. -/
def bxH (l1 l2 l3 h1 h2 h3 p1 p2 p3 : Int) : Bool := bxR l1 l2 l3 h1 h2 h3 && (le3 l1 l2 l3 p1 p2 p3 && le3 p1 p2 p3 h1 h2 h3)
theorem bxH_iff {l1 l2 l3 h1 h2 h3 p1 p2 p3 : Int} : bxH l1 l2 l3 h1 h2 h3 p1 p2 p3 = true ↔ bxR l1 l2 l3 h1 h2 h3 = true ∧ (l1 ≤ p1 ∧ l2 ≤ p2 ∧ l3 ≤ p3) ∧ (p1 ≤ h1 ∧ p2 ≤ h2 ∧ p3 ≤ h3) := by
  unfold bxH; rw [Bool.and_eq_true, Bool.and_eq_true, le3_iff, le3_iff]
theorem bxH_small {l1 l2 l3 h1 h2 h3 p1 p2 p3 : Int} (h : bxH l1 l2 l3 h1 h2 h3 p1 p2 p3 = true) : s3 p1 p2 p3 = true := by
  obtain ⟨r, ⟨q1, q2, q3⟩, q4, q5, q6⟩ := bxH_iff.1 h
  obtain ⟨⟨r1, r2⟩, -⟩ := bxR_iff.1 r
  obtain ⟨u1, u2, u3⟩ := s3_iff.1 r1
  obtain ⟨v1, v2, v3⟩ := s3_iff.1 r2
  unfold SM at *
  exact s3_iff.2 ⟨by unfold SM; omega, by unfold SM; omega, by unfold SM; omega⟩
/-- The least and the greatest of a row's parts along an axis. -/
def lwF (F : Nat → Nat → Int) (j : Nat) : Nat → Int
  | 0 => F 0 j
  | k + 1 => min (lwF F j k) (F k j)
def hiF (F : Nat → Nat → Int) (j : Nat) : Nat → Int
  | 0 => F 0 j
  | k + 1 => max (hiF F j k) (F k j)
theorem lwF_le (F : Nat → Nat → Int) (j : Nat) : ∀ n k, k < n → lwF F j n ≤ F k j
  | n + 1, k, h => by
    show min (lwF F j n) (F n j) ≤ _
    by_cases e : k < n
    · have := lwF_le F j n k e; omega
    · obtain rfl : k = n := by omega
      omega
theorem hiF_le (F : Nat → Nat → Int) (j : Nat) : ∀ n k, k < n → F k j ≤ hiF F j n
  | n + 1, k, h => by
    show _ ≤ max (hiF F j n) (F n j)
    by_cases e : k < n
    · have := hiF_le F j n k e; omega
    · obtain rfl : k = n := by omega
      omega
theorem lwF_at (F : Nat → Nat → Int) (j : Nat) : ∀ n, 0 < n → ∃ k, k < n ∧ lwF F j n = F k j
  | 0, h => absurd h (by omega)
  | n + 1, _ => by
    show ∃ k, k < n + 1 ∧ min (lwF F j n) (F n j) = _
    by_cases e : F n j ≤ lwF F j n
    · exact ⟨n, by omega, by omega⟩
    · cases n with
      | zero => exact ⟨0, by omega, by show min (F 0 j) (F 0 j) = _; omega⟩
      | succ m =>
        obtain ⟨k, h, q⟩ := lwF_at F j (m + 1) (by omega)
        exact ⟨k, by omega, by omega⟩
theorem hiF_at (F : Nat → Nat → Int) (j : Nat) : ∀ n, 0 < n → ∃ k, k < n ∧ hiF F j n = F k j
  | 0, h => absurd h (by omega)
  | n + 1, _ => by
    show ∃ k, k < n + 1 ∧ max (hiF F j n) (F n j) = _
    by_cases e : hiF F j n ≤ F n j
    · exact ⟨n, by omega, by omega⟩
    · cases n with
      | zero => exact ⟨0, by omega, by show max (F 0 j) (F 0 j) = _; omega⟩
      | succ m =>
        obtain ⟨k, h, q⟩ := hiF_at F j (m + 1) (by omega)
        exact ⟨k, by omega, by omega⟩
/-- The errors of a box of points: of none, of one that is not small. -/
def bxE (n : Nat) (t : Bool) : Int := if n = 0 then 1 else if t then 0 else 5
/-- Whether there is a box. -/
def bxY (n : Nat) (t : Bool) : Bool := !decide (n = 0) && t

/-- The order of fractions whose lower parts are above zero. -/
theorem qf_trans {a b c d e f : Int} (hd : 0 < d) (hb : 0 ≤ b) (hf : 0 ≤ f) (h : a * d ≤ c * b) (k : c * f ≤ e * d) : a * f ≤ e * b := by
  have p := Int.mul_le_mul_of_nonneg_right h hf
  have q := Int.mul_le_mul_of_nonneg_right k hb
  have e1 : a * d * f = (a * f) * d := by grind
  have e2 : c * b * f = c * f * b := by grind
  have e3 : e * d * b = (e * b) * d := by grind
  exact Int.le_of_mul_le_mul_right (show a * f * d ≤ e * b * d by omega) hd
/-- The greater of two: the first one, unless the other one is above it. -/
def upN (en ed fn fd : Int) : Int := if en * fd < fn * ed then fn else en
def upD (en ed fn fd : Int) : Int := if en * fd < fn * ed then fd else ed
def dnN (ln ld tn td : Int) : Int := if tn * ld < ln * td then tn else ln
def dnD (ln ld tn td : Int) : Int := if tn * ld < ln * td then td else ld
theorem upD_pos {en ed fn fd : Int} (h : 0 < ed) (k : 0 < fd) : 0 < upD en ed fn fd := by unfold upD; split <;> assumption
theorem dnD_pos {ln ld tn td : Int} (h : 0 < ld) (k : 0 < td) : 0 < dnD ln ld tn td := by unfold dnD; split <;> assumption
theorem up_iff {en ed fn fd n d : Int} (he : 0 < ed) (hf : 0 < fd) (hd : 0 < d) : upN en ed fn fd * d ≤ n * upD en ed fn fd ↔ en * d ≤ n * ed ∧ fn * d ≤ n * fd := by
  unfold upN upD
  split
  · refine ⟨fun h => ⟨qf_trans (c := fn) hf (by omega) (by omega) (by omega) h, h⟩, fun h => h.2⟩
  · refine ⟨fun h => ⟨h, qf_trans (c := en) he (by omega) (by omega) (by omega) h⟩, fun h => h.1⟩
theorem dn_iff {ln ld tn td n d : Int} (hl : 0 < ld) (ht : 0 < td) (hd : 0 < d) : n * dnD ln ld tn td ≤ dnN ln ld tn td * d ↔ n * ld ≤ ln * d ∧ n * td ≤ tn * d := by
  unfold dnN dnD
  split
  · refine ⟨fun h => ⟨qf_trans (c := tn) ht (by omega) (by omega) h (by omega), h⟩, fun h => h.2⟩
  · refine ⟨fun h => ⟨h, qf_trans (c := ln) hl (by omega) (by omega) h (by omega)⟩, fun h => h.1⟩

/-- Of an axis: how far the way goes, and the fractions of it from which on, and up to which, one is between. -/
def waD (a c : Int) : Int := if c - a < 0 then -(c - a) else if c - a = 0 then 1 else c - a
def waF (a c l h : Int) : Int := if c - a < 0 then -(h - a) else if c - a = 0 then 0 else l - a
def waL (a c l h : Int) : Int := if c - a < 0 then -(l - a) else if c - a = 0 then 1 else h - a
theorem waD_pos (a c : Int) : 0 < waD a c := by unfold waD; split; omega; split <;> omega
theorem waD_le {a c : Int} (ha : SM 16384 a) (hc : SM 16384 c) : waD a c ≤ 32768 := by unfold SM at *; unfold waD; split; omega; split <;> omega
theorem waF_le {a c l h : Int} (ha : SM 16384 a) (hl : SM 16384 l) (hh : SM 16384 h) : -32768 ≤ waF a c l h ∧ waF a c l h ≤ 32768 := by unfold SM at *; unfold waF; split; omega; split <;> omega
theorem waL_le {a c l h : Int} (ha : SM 16384 a) (hl : SM 16384 l) (hh : SM 16384 h) : -32768 ≤ waL a c l h ∧ waL a c l h ≤ 32768 := by unfold SM at *; unfold waL; split; omega; split <;> omega
theorem fr_wa {n d : Int} (h : -32768 ≤ n ∧ n ≤ 32768) (p : 0 < d) (q : d ≤ 32768) : FR n d := by unfold FR; omega
/-- The way is between at a fraction. -/
def btw (a c l h n d : Int) : Prop := l * d ≤ a * d + n * (c - a) ∧ a * d + n * (c - a) ≤ h * d
/-- The way's own parts reach the box's. -/
def rch (a c l h : Int) : Prop := min a c ≤ h ∧ l ≤ max a c
theorem btw_rch {a c l h n d : Int} (hd : 0 < d) (h0 : 0 ≤ n) (h1 : n ≤ d) (b : btw a c l h n d) : rch a c l h := by
  obtain ⟨p, q⟩ := b
  have e1 : a * d + n * (c - a) = c * d - (d - n) * (c - a) := by grind
  constructor
  · by_cases k : a ≤ c
    · have : 0 ≤ n * (c - a) := Int.mul_nonneg h0 (by omega)
      have : a ≤ h := Int.le_of_mul_le_mul_right (show a * d ≤ h * d by omega) hd
      omega
    · have : 0 ≤ (d - n) * (a - c) := Int.mul_nonneg (by omega) (by omega)
      have e2 : (d - n) * (a - c) = -((d - n) * (c - a)) := by grind
      have : c ≤ h := Int.le_of_mul_le_mul_right (show c * d ≤ h * d by omega) hd
      omega
  · by_cases k : a ≤ c
    · have : 0 ≤ (d - n) * (c - a) := Int.mul_nonneg (by omega) (by omega)
      have : l ≤ c := Int.le_of_mul_le_mul_right (show l * d ≤ c * d by omega) hd
      omega
    · have : 0 ≤ n * (a - c) := Int.mul_nonneg h0 (by omega)
      have e2 : n * (a - c) = -(n * (c - a)) := by grind
      have : l ≤ a := Int.le_of_mul_le_mul_right (show l * d ≤ a * d by omega) hd
      omega
/-- The fractions' bounds say just this. -/
theorem wa_iff {a c l h n d : Int} (hd : 0 < d) (h0 : 0 ≤ n) (h1 : n ≤ d) : btw a c l h n d ↔ rch a c l h ∧ waF a c l h * d ≤ n * waD a c ∧ n * waD a c ≤ waL a c l h * d := by
  unfold waF waD waL
  by_cases k : c - a < 0
  · rw [if_pos k, if_pos k, if_pos k]
    have e1 : -(h - a) * d = a * d - h * d := by grind
    have e2 : -(l - a) * d = a * d - l * d := by grind
    have e3 : n * -(c - a) = -(n * (c - a)) := by grind
    refine ⟨fun b => ⟨btw_rch hd h0 h1 b, ?_⟩, fun b => ?_⟩
    · unfold btw at b; omega
    · unfold btw; omega
  · rw [if_neg k, if_neg k, if_neg k]
    by_cases z : c - a = 0
    · rw [if_pos z, if_pos z, if_pos z]
      obtain rfl : c = a := by omega
      refine ⟨fun b => ⟨btw_rch hd h0 h1 b, by omega, by omega⟩, fun b => ?_⟩
      obtain ⟨⟨r1, r2⟩, -⟩ := b
      have p := Int.mul_le_mul_of_nonneg_right (show l ≤ c by omega) (show 0 ≤ d by omega)
      have q := Int.mul_le_mul_of_nonneg_right (show c ≤ h by omega) (show 0 ≤ d by omega)
      unfold btw
      rw [Int.sub_self, Int.mul_zero]
      omega
    · rw [if_neg z, if_neg z, if_neg z]
      have e1 : (h - a) * d = h * d - a * d := by grind
      have e2 : (l - a) * d = l * d - a * d := by grind
      refine ⟨fun b => ⟨btw_rch hd h0 h1 b, ?_⟩, fun b => ?_⟩
      · unfold btw at b; omega
      · unfold btw; omega
/-- Where the way enters and leaves, by the axes so far. -/
def enN (a c l h : Nat → Int) : Nat → Int × Int
  | 0 => (0, 1)
  | k + 1 => (upN (enN a c l h k).1 (enN a c l h k).2 (waF (a k) (c k) (l k) (h k)) (waD (a k) (c k)), upD (enN a c l h k).1 (enN a c l h k).2 (waF (a k) (c k) (l k) (h k)) (waD (a k) (c k)))
def lvN (a c l h : Nat → Int) : Nat → Int × Int
  | 0 => (1, 1)
  | k + 1 => (dnN (lvN a c l h k).1 (lvN a c l h k).2 (waL (a k) (c k) (l k) (h k)) (waD (a k) (c k)), dnD (lvN a c l h k).1 (lvN a c l h k).2 (waL (a k) (c k) (l k) (h k)) (waD (a k) (c k)))
theorem en_pos (a c l h : Nat → Int) : ∀ k, 0 < (enN a c l h k).2
  | 0 => (by decide : (0 : Int) < 1)
  | k + 1 => upD_pos (en_pos a c l h k) (waD_pos _ _)
theorem lv_pos (a c l h : Nat → Int) : ∀ k, 0 < (lvN a c l h k).2
  | 0 => (by decide : (0 : Int) < 1)
  | k + 1 => dnD_pos (lv_pos a c l h k) (waD_pos _ _)
theorem en_iff (a c l h : Nat → Int) {n d : Int} (hd : 0 < d) : ∀ k, (enN a c l h k).1 * d ≤ n * (enN a c l h k).2 ↔ 0 ≤ n ∧ ∀ j, j < k → waF (a j) (c j) (l j) (h j) * d ≤ n * waD (a j) (c j)
  | 0 => by
    show 0 * d ≤ n * 1 ↔ _
    rw [Int.zero_mul, Int.mul_one]
    exact ⟨fun p => ⟨p, fun j hj => absurd hj (by omega)⟩, fun p => p.1⟩
  | k + 1 => by
    show upN _ _ _ _ * d ≤ n * upD _ _ _ _ ↔ _
    rw [up_iff (en_pos a c l h k) (waD_pos _ _) hd, en_iff a c l h hd k]
    refine ⟨fun p => ⟨p.1.1, fun j hj => ?_⟩, fun p => ⟨⟨p.1, fun j hj => p.2 j (by omega)⟩, p.2 k (by omega)⟩⟩
    by_cases e : j < k
    · exact p.1.2 j e
    · obtain rfl : j = k := by omega
      exact p.2
theorem lv_iff (a c l h : Nat → Int) {n d : Int} (hd : 0 < d) : ∀ k, n * (lvN a c l h k).2 ≤ (lvN a c l h k).1 * d ↔ n ≤ d ∧ ∀ j, j < k → n * waD (a j) (c j) ≤ waL (a j) (c j) (l j) (h j) * d
  | 0 => by
    show n * 1 ≤ 1 * d ↔ _
    rw [Int.one_mul, Int.mul_one]
    exact ⟨fun p => ⟨p, fun j hj => absurd hj (by omega)⟩, fun p => p.1⟩
  | k + 1 => by
    show n * dnD _ _ _ _ ≤ dnN _ _ _ _ * d ↔ _
    rw [dn_iff (lv_pos a c l h k) (waD_pos _ _) hd, lv_iff a c l h hd k]
    refine ⟨fun p => ⟨p.1.1, fun j hj => ?_⟩, fun p => ⟨⟨p.1, fun j hj => p.2 j (by omega)⟩, p.2 k (by omega)⟩⟩
    by_cases e : j < k
    · exact p.1.2 j e
    · obtain rfl : j = k := by omega
      exact p.2
/-- The way enters no later than it leaves. -/
def tgB (a c l h : Nat → Int) : Bool := decide ((enN a c l h 3).1 * (lvN a c l h 3).2 ≤ (lvN a c l h 3).1 * (enN a c l h 3).2)
/-- A way meets a box: at some fraction it is between along each axis. -/
def mets (a c l h : Nat → Int) : Prop := ∃ n d : Int, 0 < d ∧ 0 ≤ n ∧ n ≤ d ∧ ∀ j, j < 3 → btw (a j) (c j) (l j) (h j) n d
theorem tg_iff (a c l h : Nat → Int) : tgB a c l h = true ↔ ∃ n d : Int, 0 < d ∧ 0 ≤ n ∧ n ≤ d ∧ ∀ j, j < 3 → waF (a j) (c j) (l j) (h j) * d ≤ n * waD (a j) (c j) ∧ n * waD (a j) (c j) ≤ waL (a j) (c j) (l j) (h j) * d := by
  unfold tgB
  rw [decide_eq_true_iff]
  constructor
  · intro p
    have e := (en_iff a c l h (en_pos a c l h 3) 3).1 (Int.le_refl ((enN a c l h 3).1 * (enN a c l h 3).2))
    have q := (lv_iff a c l h (en_pos a c l h 3) 3).1 p
    exact ⟨_, _, en_pos a c l h 3, e.1, q.1, fun j hj => ⟨e.2 j hj, q.2 j hj⟩⟩
  · rintro ⟨n, d, hd, h0, h1, b⟩
    have e := (en_iff a c l h hd 3).2 ⟨h0, fun j hj => (b j hj).1⟩
    have q := (lv_iff a c l h hd 3).2 ⟨h1, fun j hj => (b j hj).2⟩
    exact qf_trans (c := n) (d := d) hd (Int.le_of_lt (en_pos a c l h 3)) (Int.le_of_lt (lv_pos a c l h 3)) e q
/-- The program's answer: the way's own box reaches the box, and it enters no later than it leaves. -/
def mtP (a c l h : Nat → Int) : Bool := (le3 (min (a 0) (c 0)) (min (a 1) (c 1)) (min (a 2) (c 2)) (h 0) (h 1) (h 2) && le3 (l 0) (l 1) (l 2) (max (a 0) (c 0)) (max (a 1) (c 1)) (max (a 2) (c 2))) && tgB a c l h
theorem three {P : Nat → Prop} : (∀ j, j < 3 → P j) ↔ P 0 ∧ P 1 ∧ P 2 := by
  refine ⟨fun h => ⟨h 0 (by omega), h 1 (by omega), h 2 (by omega)⟩, fun h j hj => ?_⟩
  match j, hj with
  | 0, _ => exact h.1
  | 1, _ => exact h.2.1
  | 2, _ => exact h.2.2
theorem mtP_iff (a c l h : Nat → Int) : mtP a c l h = true ↔ mets a c l h := by
  unfold mtP mets
  rw [Bool.and_eq_true, Bool.and_eq_true, le3_iff, le3_iff, tg_iff]
  constructor
  · rintro ⟨⟨r, u⟩, n, d, hd, h0, h1, b⟩
    refine ⟨n, d, hd, h0, h1, fun j hj => (wa_iff hd h0 h1).2 ⟨?_, b j hj⟩⟩
    exact (three (P := fun j => rch (a j) (c j) (l j) (h j))).2 ⟨⟨r.1, u.1⟩, ⟨r.2.1, u.2.1⟩, ⟨r.2.2, u.2.2⟩⟩ j hj
  · rintro ⟨n, d, hd, h0, h1, b⟩
    have r := (three (P := fun j => rch (a j) (c j) (l j) (h j))).1 (fun j hj => ((wa_iff hd h0 h1).1 (b j hj)).1)
    exact ⟨⟨⟨r.1.1, r.2.1.1, r.2.2.1⟩, ⟨r.1.2, r.2.1.2, r.2.2.2⟩⟩, n, d, hd, h0, h1, fun j hj => ((wa_iff hd h0 h1).1 (b j hj)).2⟩
/-- The reference's answer: where nothing moves along an axis it is between, and it enters no later than it leaves. -/
def xaB (a c l h : Int) : Bool := if c - a = 0 then decide (l ≤ a ∧ a ≤ h) else true
def mtR (a c l h : Nat → Int) : Bool := (xaB (a 0) (c 0) (l 0) (h 0) && (xaB (a 1) (c 1) (l 1) (h 1) && xaB (a 2) (c 2) (l 2) (h 2))) && tgB a c l h
theorem xa_iff {a c l h n d : Int} (hd : 0 < d) (h0 : 0 ≤ n) (h1 : n ≤ d) (b : waF a c l h * d ≤ n * waD a c ∧ n * waD a c ≤ waL a c l h * d) : xaB a c l h = true ↔ rch a c l h := by
  unfold xaB
  split
  · rw [decide_eq_true_iff]; unfold rch; omega
  · rename_i z
    refine ⟨fun _ => ?_, fun _ => rfl⟩
    refine btw_rch hd h0 h1 ?_
    unfold waF waD waL at b
    unfold btw
    by_cases k : c - a < 0
    · rw [if_pos k, if_pos k, if_pos k] at b
      have e1 : -(h - a) * d = a * d - h * d := by grind
      have e2 : -(l - a) * d = a * d - l * d := by grind
      have e3 : n * -(c - a) = -(n * (c - a)) := by grind
      omega
    · rw [if_neg k, if_neg k, if_neg k, if_neg z, if_neg z, if_neg z] at b
      have e1 : (h - a) * d = h * d - a * d := by grind
      have e2 : (l - a) * d = l * d - a * d := by grind
      omega
theorem mtR_eq (a c l h : Nat → Int) : mtR a c l h = mtP a c l h := by
  rw [Bool.eq_iff_iff]
  unfold mtR mtP
  rw [Bool.and_eq_true, Bool.and_eq_true, Bool.and_eq_true, Bool.and_eq_true, Bool.and_eq_true, le3_iff, le3_iff]
  refine and_congr_left fun t => ?_
  obtain ⟨n, d, hd, h0, h1, b⟩ := (tg_iff a c l h).1 t
  rw [xa_iff hd h0 h1 (b 0 (by omega)), xa_iff hd h0 h1 (b 1 (by omega)), xa_iff hd h0 h1 (b 2 (by omega))]
  unfold rch
  exact ⟨fun p => ⟨⟨p.1.1, p.2.1.1, p.2.2.1⟩, ⟨p.1.2, p.2.1.2, p.2.2.2⟩⟩, fun p => ⟨⟨p.1.1, p.2.1⟩, ⟨p.1.2.1, p.2.2.1⟩, ⟨p.1.2.2, p.2.2.2⟩⟩⟩
/-- Both ways are one. -/
theorem mets_back {a c l h : Nat → Int} (m : mets a c l h) : mets c a l h := by
  obtain ⟨n, d, hd, h0, h1, b⟩ := m
  refine ⟨d - n, d, hd, by omega, by omega, fun j hj => ?_⟩
  have q := b j hj
  have e : c j * d + (d - n) * (a j - c j) = a j * d + n * (c j - a j) := by grind
  unfold btw at *
  omega
theorem mtP_back (a c l h : Nat → Int) : mtP c a l h = mtP a c l h := by
  rw [Bool.eq_iff_iff, mtP_iff, mtP_iff]
  exact ⟨mets_back, mets_back⟩
/-- What meets a box meets a greater one. -/
theorem mets_more {a c l h u v : Nat → Int} (hl : ∀ j, j < 3 → u j ≤ l j) (hh : ∀ j, j < 3 → h j ≤ v j) (m : mets a c l h) : mets a c u v := by
  obtain ⟨n, d, hd, h0, h1, b⟩ := m
  refine ⟨n, d, hd, h0, h1, fun j hj => ?_⟩
  have q := b j hj
  have p1 := Int.mul_le_mul_of_nonneg_right (hl j hj) (show 0 ≤ d by omega)
  have p2 := Int.mul_le_mul_of_nonneg_right (hh j hj) (show 0 ≤ d by omega)
  unfold btw at *
  omega
/-- A way whose end is in the box meets it. -/
theorem mets_end {a c l h : Nat → Int} (k : ∀ j, j < 3 → l j ≤ a j ∧ a j ≤ h j) : mets a c l h := by
  refine ⟨0, 1, by decide, by decide, by decide, fun j hj => ?_⟩
  have := k j hj
  unfold btw
  omega
/-- What stays on one side does not meet. -/
theorem mets_rch {a c l h : Nat → Int} (m : mets a c l h) (j : Nat) (hj : j < 3) : min (a j) (c j) ≤ h j ∧ l j ≤ max (a j) (c j) := by
  obtain ⟨n, d, hd, h0, h1, b⟩ := m
  exact btw_rch hd h0 h1 (b j hj)
end Go.Proofs.Ytfghjfgdjlkooaa
