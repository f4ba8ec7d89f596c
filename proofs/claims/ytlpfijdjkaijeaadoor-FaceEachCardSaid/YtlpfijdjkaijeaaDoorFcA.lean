/-
  Package face: Place; the reference's Place and whole. (gen/FcA.py)
-/
import Derived.Test.YtlpfijdjkaijeaaDoorFcPure
import Derived.Test.YtlpfijdjkaijeaaDoorScF
import Derived.Test.YtlpfijdjkaijeaaDoorScRE
namespace Go.Proofs.YtlpfijdjkaijeaaDoor
open Go.RowKit

theorem whole_range (l : List UInt8) (h : (wholeS l).2 = 0) : -9999999 ≤ (wholeS l).1 ∧ (wholeS l).1 ≤ 9999999 := by
  obtain ⟨h1, h2, -⟩ := whole_parse l (wholeS l).1 (by rw [← h])
  exact ⟨h1, h2⟩
theorem whole_two (l : List UInt8) : (wholeS l).2 = 0 ∨ wholeS l = (0, 6) := by
  have key : ∀ bl t, (wholeD bl t).2 = 0 ∨ wholeD bl t = (0, 6) := by
    intro bl t
    unfold wholeD
    split
    · exact .inr rfl
    · exact .inl rfl
  cases l with
  | nil => exact key _ _
  | cons b t =>
    show (if b.toNat = 45 then wholeD true t else wholeD false (b :: t)).2 = 0 ∨ (if b.toNat = 45 then wholeD true t else wholeD false (b :: t)) = (0, 6)
    split
    · exact key _ _
    · exact key _ _
theorem place_bad {l : List UInt8} {m : Int} (h : ¬ (wholeS l).2 = 0) : placeS l m = (0, 6) := if_pos h
theorem place_up {l : List UInt8} {m : Int} (h : (wholeS l).2 = 0) (h1 : 1 ≤ (wholeS l).1) (h2 : (wholeS l).1 ≤ m) : placeS l m = ((wholeS l).1 - 1, 0) := by
  unfold placeS; rw [if_neg (by omega), if_pos ⟨h1, h2⟩]
theorem place_down {l : List UInt8} {m : Int} (h : (wholeS l).2 = 0) (h1 : (wholeS l).1 ≤ -1) (h2 : -(wholeS l).1 ≤ m) : placeS l m = (m + (wholeS l).1, 0) := by
  unfold placeS; rw [if_neg (by omega), if_neg (by omega), if_pos ⟨h1, h2⟩]
theorem place_far {l : List UInt8} {m : Int} (h : (wholeS l).2 = 0) (h1 : ¬ (1 ≤ (wholeS l).1 ∧ (wholeS l).1 ≤ m)) (h2 : ¬ ((wholeS l).1 ≤ -1 ∧ -(wholeS l).1 ≤ m)) : placeS l m = (0, 7) := by
  unfold placeS; rw [if_neg (by omega), if_neg h1, if_neg h2]
/-- A place is one among many, or none and why. -/
theorem place_in (l : List UInt8) (m : Int) : ((placeS l m).2 = 0 ∧ 0 ≤ (placeS l m).1 ∧ (placeS l m).1 < m) ∨ (((placeS l m).2 = 6 ∨ (placeS l m).2 = 7) ∧ (placeS l m).1 = 0) := by
  by_cases h : (wholeS l).2 = 0
  · by_cases h1 : 1 ≤ (wholeS l).1 ∧ (wholeS l).1 ≤ m
    · rw [place_up h h1.1 h1.2]; left; exact ⟨rfl, by dsimp only; omega, by dsimp only; omega⟩
    · by_cases h2 : (wholeS l).1 ≤ -1 ∧ -(wholeS l).1 ≤ m
      · rw [place_down h h2.1 h2.2]; left; exact ⟨rfl, by dsimp only; omega, by dsimp only; omega⟩
      · rw [place_far h h1 h2]; right; exact ⟨.inr rfl, rfl⟩
  · rw [place_bad h]; right; exact ⟨.inl rfl, rfl⟩

set_option maxRecDepth 100000 in
set_option maxHeartbeats 1000000 in
theorem place_any (s : ByteArray) (m : Int) (w : World) (b0 : -9223372036854775808 ≤ m ∧ m ≤ 9223372036854775807) :
    Calls Tryd.prog 11 #[.string s, .int .i64 m] w fun e w' => e = retW (placeS s.data.toList m) ∧ Below w.heap.size w w' := by
  have HB := Lib.hid (Below.refl w.heap.size w)
  have C := Lib.hid (fun W => whole_any s W)
  have R := whole_range s.data.toList
  have R6 := whole_two s.data.toList
  have Z0 := @place_bad s.data.toList m
  have Z1 := @place_up s.data.toList m
  have Z2 := @place_down s.data.toList m
  have Z3 := @place_far s.data.toList m
  generalize placeS s.data.toList m = z at *
  generalize wholeS s.data.toList = p at *
  obtain ⟨n, x⟩ := p
  unfold retW at C
  dsimp only at *
  by_cases h0 : x = 0
  · subst h0
    have R := R rfl
    obtain ⟨r1, r2⟩ := R
    clear R6
    replace Z1 := Z1 rfl
    replace Z2 := Z2 rfl
    replace Z3 := Z3 rfl
    by_cases hm : m < 0
    · have Z := Lib.hid (Z3 (by omega) (by omega))
      clear Z0 Z1 Z2 Z3
      have m1 : m < 0 := by omega
      have m1' : decide (m < 0) = true := decide_eq_true m1
      go_enter Tryd.func11, Tryd.ntmps11
      go_wp2_with fail
      (((with_reducible refine (C.out _).mono ?_); rintro e w1 ⟨rfl, hb1⟩); replace HB := Lib.hid (HB.out.trans (hb1.mono HB.out.size)); clear hb1)
      go_wp2_with fail
      go_ret2
      exact ⟨by rw [Z.out]; rfl, HB.out⟩
    · have m1' : decide (m < 0) = false := decide_eq_false hm
      by_cases hn : n < 0
      · have n1' : decide (n < 0) = true := decide_eq_true hn
        have q1 : IntKind.i64.wrap (n - 1) = n - 1 := by rw [IntKind.wrap_i64]; omega
        have q2 : IntKind.i64.wrap (m + n) = m + n := by rw [IntKind.wrap_i64]; omega
        by_cases hp : m + n < 0
        · have Z := Lib.hid (Z3 (by omega) (by omega))
          clear Z0 Z1 Z2 Z3
          have p1' : decide (m + n < 0) = true := decide_eq_true hp
          go_enter Tryd.func11, Tryd.ntmps11
          go_wp2_with fail
          (((with_reducible refine (C.out _).mono ?_); rintro e w1 ⟨rfl, hb1⟩); replace HB := Lib.hid (HB.out.trans (hb1.mono HB.out.size)); clear hb1)
          go_wp2_with fail
          go_ret2
          exact ⟨by rw [Z.out]; rfl, HB.out⟩
        · have Z := Lib.hid (Z2 (by omega) (by omega))
          clear Z0 Z1 Z2 Z3
          have p1' : decide (m + n < 0) = false := decide_eq_false hp
          have p2 : ¬ m ≤ m + n := by omega
          have p2' : decide (m ≤ m + n) = false := decide_eq_false p2
          go_enter Tryd.func11, Tryd.ntmps11
          go_wp2_with fail
          (((with_reducible refine (C.out _).mono ?_); rintro e w1 ⟨rfl, hb1⟩); replace HB := Lib.hid (HB.out.trans (hb1.mono HB.out.size)); clear hb1)
          go_wp2_with fail
          go_ret2
          exact ⟨by rw [Z.out]; rfl, HB.out⟩
      · have n1' : decide (n < 0) = false := decide_eq_false hn
        have q1 : IntKind.i64.wrap (n - 1) = n - 1 := by rw [IntKind.wrap_i64]; omega
        by_cases hz : n - 1 < 0
        · have Z := Lib.hid (Z3 (by omega) (by omega))
          clear Z0 Z1 Z2 Z3
          have p1' : decide (n - 1 < 0) = true := decide_eq_true hz
          go_enter Tryd.func11, Tryd.ntmps11
          go_wp2_with fail
          (((with_reducible refine (C.out _).mono ?_); rintro e w1 ⟨rfl, hb1⟩); replace HB := Lib.hid (HB.out.trans (hb1.mono HB.out.size)); clear hb1)
          go_wp2_with fail
          go_ret2
          exact ⟨by rw [Z.out]; rfl, HB.out⟩
        · have p1' : decide (n - 1 < 0) = false := decide_eq_false hz
          by_cases hp : m ≤ n - 1
          · have Z := Lib.hid (Z3 (by omega) (by omega))
            clear Z0 Z1 Z2 Z3
            have p2' : decide (m ≤ n - 1) = true := decide_eq_true hp
            go_enter Tryd.func11, Tryd.ntmps11
            go_wp2_with fail
            (((with_reducible refine (C.out _).mono ?_); rintro e w1 ⟨rfl, hb1⟩); replace HB := Lib.hid (HB.out.trans (hb1.mono HB.out.size)); clear hb1)
            go_wp2_with fail
            go_ret2
            exact ⟨by rw [Z.out]; rfl, HB.out⟩
          · have Z := Lib.hid (Z1 (by omega) (by omega))
            clear Z0 Z1 Z2 Z3
            have p2' : decide (m ≤ n - 1) = false := decide_eq_false hp
            go_enter Tryd.func11, Tryd.ntmps11
            go_wp2_with fail
            (((with_reducible refine (C.out _).mono ?_); rintro e w1 ⟨rfl, hb1⟩); replace HB := Lib.hid (HB.out.trans (hb1.mono HB.out.size)); clear hb1)
            go_wp2_with fail
            go_ret2
            exact ⟨by rw [Z.out]; rfl, HB.out⟩
  · obtain ⟨rfl, rfl⟩ : n = 0 ∧ x = 6 := by rcases R6 with q | q; exact absurd q h0; exact ⟨congrArg Prod.fst q, congrArg Prod.snd q⟩
    have Z := Lib.hid (Z0 h0)
    clear Z0 Z1 Z2 Z3 R R6
    go_enter Tryd.func11, Tryd.ntmps11
    go_wp2_with fail
    (((with_reducible refine (C.out _).mono ?_); rintro e w1 ⟨rfl, hb1⟩); replace HB := Lib.hid (HB.out.trans (hb1.mono HB.out.size)); clear hb1)
    go_wp2_with fail
    go_ret2
    exact ⟨by rw [Z.out]; rfl, HB.out⟩
set_option maxRecDepth 100000 in
set_option maxHeartbeats 1000000 in
theorem rplace_any (s : ByteArray) (m : Int) (w : World) (b0 : -9223372036854775808 ≤ m ∧ m ≤ 9223372036854775807) (hs : s.size ≤ 100) :
    Calls Tryd.prog 12 #[.string s, .int .i64 m] w fun e w' => e = retW (placeS s.data.toList m) ∧ Below w.heap.size w w' := by
  have HB := Lib.hid (Below.refl w.heap.size w)
  have C := Lib.hid (fun W => rwhole_any s W hs)
  have R := whole_range s.data.toList
  have R6 := whole_two s.data.toList
  have Z0 := @place_bad s.data.toList m
  have Z1 := @place_up s.data.toList m
  have Z2 := @place_down s.data.toList m
  have Z3 := @place_far s.data.toList m
  generalize placeS s.data.toList m = z at *
  generalize wholeS s.data.toList = p at *
  obtain ⟨n, x⟩ := p
  unfold retW at C
  dsimp only at *
  by_cases h0 : x = 0
  · subst h0
    have R := R rfl
    obtain ⟨r1, r2⟩ := R
    clear R6
    replace Z1 := Z1 rfl
    replace Z2 := Z2 rfl
    replace Z3 := Z3 rfl
    by_cases hn : 1 ≤ n
    · have n1' : decide (1 ≤ n) = true := decide_eq_true hn
      have n2 : ¬ n ≤ -1 := by omega
      have n2' : decide (n ≤ -1) = false := decide_eq_false n2
      have q1 : IntKind.i64.wrap (n - 1) = n - 1 := by rw [IntKind.wrap_i64]; omega
      by_cases hp : n ≤ m
      · have Z := Lib.hid (Z1 (by omega) (by omega))
        clear Z0 Z1 Z2 Z3
        have p1' : decide (n ≤ m) = true := decide_eq_true hp
        go_enter Tryd.func12, Tryd.ntmps12
        go_wp2_with fail
        (((with_reducible refine (C.out _).mono ?_); rintro e w1 ⟨rfl, hb1⟩); replace HB := Lib.hid (HB.out.trans (hb1.mono HB.out.size)); clear hb1)
        go_wp2_with fail
        go_ret2
        exact ⟨by rw [Z.out]; rfl, HB.out⟩
      · have Z := Lib.hid (Z3 (by omega) (by omega))
        clear Z0 Z1 Z2 Z3
        have p1' : decide (n ≤ m) = false := decide_eq_false hp
        go_enter Tryd.func12, Tryd.ntmps12
        go_wp2_with fail
        (((with_reducible refine (C.out _).mono ?_); rintro e w1 ⟨rfl, hb1⟩); replace HB := Lib.hid (HB.out.trans (hb1.mono HB.out.size)); clear hb1)
        go_wp2_with fail
        go_ret2
        exact ⟨by rw [Z.out]; rfl, HB.out⟩
    · have n1' : decide (1 ≤ n) = false := decide_eq_false hn
      by_cases hk : n ≤ -1
      · have n2' : decide (n ≤ -1) = true := decide_eq_true hk
        have q1 : IntKind.i64.wrap (-n) = -n := by rw [IntKind.wrap_i64]; omega
        by_cases hp : -n ≤ m
        · have Z := Lib.hid (Z2 (by omega) (by omega))
          clear Z0 Z1 Z2 Z3
          have q2 : IntKind.i64.wrap (m + n) = m + n := by rw [IntKind.wrap_i64]; omega
          have p1' : decide (-n ≤ m) = true := decide_eq_true hp
          go_enter Tryd.func12, Tryd.ntmps12
          go_wp2_with fail
          (((with_reducible refine (C.out _).mono ?_); rintro e w1 ⟨rfl, hb1⟩); replace HB := Lib.hid (HB.out.trans (hb1.mono HB.out.size)); clear hb1)
          go_wp2_with fail
          go_ret2
          exact ⟨by rw [Z.out]; rfl, HB.out⟩
        · have Z := Lib.hid (Z3 (by omega) (by omega))
          clear Z0 Z1 Z2 Z3
          have p1' : decide (-n ≤ m) = false := decide_eq_false hp
          go_enter Tryd.func12, Tryd.ntmps12
          go_wp2_with fail
          (((with_reducible refine (C.out _).mono ?_); rintro e w1 ⟨rfl, hb1⟩); replace HB := Lib.hid (HB.out.trans (hb1.mono HB.out.size)); clear hb1)
          go_wp2_with fail
          go_ret2
          exact ⟨by rw [Z.out]; rfl, HB.out⟩
      · have n2' : decide (n ≤ -1) = false := decide_eq_false hk
        have Z := Lib.hid (Z3 (by omega) (by omega))
        clear Z0 Z1 Z2 Z3
        go_enter Tryd.func12, Tryd.ntmps12
        go_wp2_with fail
        (((with_reducible refine (C.out _).mono ?_); rintro e w1 ⟨rfl, hb1⟩); replace HB := Lib.hid (HB.out.trans (hb1.mono HB.out.size)); clear hb1)
        go_wp2_with fail
        go_ret2
        exact ⟨by rw [Z.out]; rfl, HB.out⟩
  · obtain ⟨rfl, rfl⟩ : n = 0 ∧ x = 6 := by rcases R6 with q | q; exact absurd q h0; exact ⟨congrArg Prod.fst q, congrArg Prod.snd q⟩
    have Z := Lib.hid (Z0 h0)
    clear Z0 Z1 Z2 Z3 R R6
    go_enter Tryd.func12, Tryd.ntmps12
    go_wp2_with fail
    (((with_reducible refine (C.out _).mono ?_); rintro e w1 ⟨rfl, hb1⟩); replace HB := Lib.hid (HB.out.trans (hb1.mono HB.out.size)); clear hb1)
    go_wp2_with fail
    go_ret2
    exact ⟨by rw [Z.out]; rfl, HB.out⟩
theorem rword_any (s : ByteArray) (w : World) (hs : s.size ≤ 100) :
    Calls Tryd.prog 24 #[.string s] w fun e w' => e = .returned (.bool (wOK s.data.toList)) ∧ Below w.heap.size w w' := by
  have HB := Lib.hid (Below.refl w.heap.size w)
  have C := Lib.hid (fun W => rwhole_any s W hs)
  unfold wOK
  generalize wholeS s.data.toList = p at *
  obtain ⟨n, x⟩ := p
  unfold retW at C
  dsimp only at *
  by_cases h0 : x = 0
  · subst h0
    go_enter Tryd.func24, Tryd.ntmps24
    go_wp2_with fail
    (((with_reducible refine (C.out _).mono ?_); rintro e w1 ⟨rfl, hb1⟩); replace HB := Lib.hid (HB.out.trans (hb1.mono HB.out.size)); clear hb1)
    go_wp2_with fail
    go_ret
    exact ⟨rfl, HB.out⟩
  · have x1 : (x == 0) = false := by simp [h0]
    have x2 : decide (x = 0) = false := decide_eq_false h0
    rw [x2]
    go_enter Tryd.func24, Tryd.ntmps24
    go_wp2_with fail
    (((with_reducible refine (C.out _).mono ?_); rintro e w1 ⟨rfl, hb1⟩); replace HB := Lib.hid (HB.out.trans (hb1.mono HB.out.size)); clear hb1)
    go_wp2_with fail
    go_ret
    exact ⟨rfl, HB.out⟩
end Go.Proofs.YtlpfijdjkaijeaaDoor
