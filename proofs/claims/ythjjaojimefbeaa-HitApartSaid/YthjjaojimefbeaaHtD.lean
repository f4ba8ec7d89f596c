/-
  Contracts of package hit: First. (gen/HtD.py)
-/
import Derived.Test.YthjjaojimefbeaaHtC
import Derived.Test.YthjjaojimefbeaaOpenK
import Derived.OwnWalk
namespace Go.Proofs.Ythjjaojimefbeaa
open Go.RowKit

/-- Of a row: whether all of triangle i and the way is small, and whether it is hit. -/
def okF (a1 a2 a3 b1 b2 b3 : Int) (F : Nat → Nat → Int) (i : Nat) : Bool := (s3 a1 a2 a3 && s3 b1 b2 b3 && s3 (F i 0) (F i 1) (F i 2) && s3 (F i 3) (F i 4) (F i 5) && s3 (F i 6) (F i 7) (F i 8))
def htF (a1 a2 a3 b1 b2 b3 : Int) (F : Nat → Nat → Int) (i : Nat) : Bool := htB a1 a2 a3 b1 b2 b3 (F i 0) (F i 1) (F i 2) (F i 3) (F i 4) (F i 5) (F i 6) (F i 7) (F i 8)
/-- Behind k of a row: whether one is hit, the place of the first one, whether all are small. -/
def fiF (h : Nat → Bool) : Nat → Bool
  | 0 => false
  | k + 1 => fiF h k || h k
def fiP (h : Nat → Bool) : Nat → Nat
  | 0 => 0
  | k + 1 => if h k && !fiF h k then k else fiP h k
def fiG (o : Nat → Bool) : Nat → Bool
  | 0 => true
  | k + 1 => fiG o k && o k
def fiV (g : Bool) (p : Nat) : Int := if g then (p : Int) else 0
theorem fiG_no {o : Nat → Bool} {k n : Nat} (hk : k < n) (h : o k = false) : fiG o n = false := by
  induction n with
  | zero => omega
  | succ m ih =>
    show (fiG o m && o m) = false
    by_cases e : k = m
    · subst e; rw [h, Bool.and_false]
    · rw [ih (by omega), Bool.false_and]
theorem fiG_all {o : Nat → Bool} {n : Nat} (h : ∀ j, j < n → o j = true) : fiG o n = true := by
  induction n with
  | zero => rfl
  | succ m ih => show (fiG o m && o m) = true; rw [ih (fun j hj => h j (by omega)), h m (by omega)]; rfl
theorem fiG_each {o : Nat → Bool} {n : Nat} (h : fiG o n = true) : ∀ j, j < n → o j = true := by
  intro j hj
  cases e : o j with
  | true => rfl
  | false => rw [fiG_no hj e] at h; cases h
theorem fiP_take {h : Nat → Bool} {k : Nat} (a : h k = true) (b : fiF h k = false) : fiP h (k + 1) = k := by show (if _ then _ else _) = _; rw [a, b]; rfl
theorem fiP_keep {h : Nat → Bool} {k : Nat} (a : h k = false ∨ fiF h k = true) : fiP h (k + 1) = fiP h k := by
  show (if _ then _ else _) = _
  rcases a with a | a <;> rw [a] <;> simp
theorem fiP_bd (h : Nat → Bool) (k : Nat) : fiP h k ≤ k := by
  induction k with
  | zero => exact Nat.le_refl _
  | succ m ih => show (if _ then m else fiP h m) ≤ _; split <;> omega
theorem fiV_no (p : Nat) : fiV false p = 0 := rfl
theorem fiV_yes (p : Nat) : fiV true p = (p : Int) := rfl
set_option maxRecDepth 100000 in
set_option maxHeartbeats 8000000 in
theorem first_any (a1 a2 a3 b1 b2 b3 : Int) (A : Option Addr) (n c : Nat) (F : Nat → Nat → Int) (w : World) (hr : RowK w A n 9 F) (hn : n ≤ 9223372036854775806) :
    Calls Try.prog 13 #[.agg #[.int .i64 a1, .int .i64 a2, .int .i64 a3], .agg #[.int .i64 b1, .int .i64 b2, .int .i64 b3], .slice A n c] w fun e w' => e = .returned (.tuple #[.int .i64 (fiV (fiG (okF a1 a2 a3 b1 b2 b3 F) n) (fiP (htF a1 a2 a3 b1 b2 b3 F) n)), .bool (fiG (okF a1 a2 a3 b1 b2 b3 F) n && fiF (htF a1 a2 a3 b1 b2 b3 F) n), .int .i64 (rE (fiG (okF a1 a2 a3 b1 b2 b3 F) n))]) ∧ Below w.heap.size w w' := by
  have HB := Lib.hid (Below.refl w.heap.size w)
  have R := Lib.hid hr
  have CA := Lib.hid (fun k W => hit_any a1 a2 a3 b1 b2 b3 (F k 0) (F k 1) (F k 2) (F k 3) (F k 4) (F k 5) (F k 6) (F k 7) (F k 8) (okF a1 a2 a3 b1 b2 b3 F k) rfl W)
  simp only [show ∀ k, htB a1 a2 a3 b1 b2 b3 (F k 0) (F k 1) (F k 2) (F k 3) (F k 4) (F k 5) (F k 6) (F k 7) (F k 8) = htF a1 a2 a3 b1 b2 b3 F k from fun _ => rfl] at CA
  generalize hok : okF a1 a2 a3 b1 b2 b3 F = o at *
  generalize hht : htF a1 a2 a3 b1 b2 b3 F = h at *
  clear hr hok hht
  go_enter Try.func13, Try.ntmps13
  go_upto_region 1 with fail
  have hba := below_new1 w (.cells #[.int .i64 a1, .int .i64 a2, .int .i64 a3] 23)
  have za : (w.alloc (.cells #[.int .i64 a1, .int .i64 a2, .int .i64 a3] 23)).heap.size = w.heap.size + 1 := by simp
  have HB := Lib.hid hba
  have ka := Lib.hid (Lok.new w 23 #[.int .i64 a1, .int .i64 a2, .int .i64 a3])
  clear hba
  generalize w.alloc (.cells #[.int .i64 a1, .int .i64 a2, .int .i64 a3] 23) = Va at *
  have hbb := below_new1 Va (.cells #[.int .i64 b1, .int .i64 b2, .int .i64 b3] 23)
  replace ka := Lib.hid (ka.out.keep hbb)
  have zb : (Va.alloc (.cells #[.int .i64 b1, .int .i64 b2, .int .i64 b3] 23)).heap.size = Va.heap.size + 1 := by simp
  replace HB := Lib.hid (HB.out.trans (hbb.mono HB.out.size))
  have kb := Lib.hid (Lok.new Va 23 #[.int .i64 b1, .int .i64 b2, .int .i64 b3])
  clear hbb
  generalize Va.alloc (.cells #[.int .i64 b1, .int .i64 b2, .int .i64 b3] 23) = Vb at *
  rw [za] at kb
  clear za zb
  have R2 := Lib.hid (R.out.keep HB.out)
  have HB0 := HB
  have ka0 := ka
  have kb0 := kb
  clear R HB ka kb
  go_wp2_with fail
  go_loopw [9, 10, 17] (fun p f i wr => ∃ k : Nat, p = .int .i64 (fiP h k : Nat) ∧ f = .bool (fiF h k) ∧ i = .int .i64 k ∧ k ≤ n ∧ (∀ j, j < k → o j = true) ∧ Below Vb.heap.size Vb wr) (fun _ _ i _ => n - (intOf i).toNat)
  case atStart => exact ⟨0, rfl, rfl, rfl, Nat.zero_le _, fun j hj => absurd hj (by omega), Below.refl _ _⟩
  case round =>
    obtain ⟨k, rfl, rfl, rfl, hk, hO0, hB⟩ := hrel
    have HO := Lib.hid hO0
    clear hO0
    by_cases hlt : k < n
    · obtain ⟨b, off, rfl, hbl, hc⟩ := (R2.out.keep hB).at hlt
      have c0 := hc k hlt 0 (by decide)
      have c1 := hc k hlt 1 (by decide)
      have c2 := hc k hlt 2 (by decide)
      have c3 := hc k hlt 3 (by decide)
      have c4 := hc k hlt 4 (by decide)
      have c5 := hc k hlt 5 (by decide)
      have c6 := hc k hlt 6 (by decide)
      have c7 := hc k hlt 7 (by decide)
      have c8 := hc k hlt 8 (by decide)
      rw [Nat.add_zero] at c0
      rw [← Nat.add_assoc] at c1 c2 c3 c4 c5 c6 c7 c8
      have C := Lib.hid (CA.out k)
      generalize F k 0 = x0 at *
      generalize F k 1 = x1 at *
      generalize F k 2 = x2 at *
      generalize F k 3 = x3 at *
      generalize F k 4 = x4 at *
      generalize F k 5 = x5 at *
      generalize F k 6 = x6 at *
      generalize F k 7 = x7 at *
      generalize F k 8 = x8 at *
      clear hc
      have i0 : (0 : Int) ≤ (k : Int) := by omega
      have i1 : (k : Int) < (n : Int) := by omega
      have i2 : ((k : Int)).toNat = k := by omega
      go_upto_region 5 with fail
      have B0 := Lib.hid hB
      have HB := Lib.hid (HB0.out.trans (hB.mono HB0.out.size))
      have ka := Lib.hid (ka0.out.keep hB)
      have kb := Lib.hid (kb0.out.keep hB)
      clear hB c0 c1 c2 c3 c4 c5 c6 c7 c8
      have hbx := below_new1 wr (.cells #[.int .i64 x0, .int .i64 x1, .int .i64 x2, .int .i64 x3, .int .i64 x4, .int .i64 x5, .int .i64 x6, .int .i64 x7, .int .i64 x8] 24)
      replace B0 := Lib.hid (B0.out.trans (hbx.mono B0.out.size))
      replace HB := Lib.hid (HB.out.trans (hbx.mono HB.out.size))
      replace ka := Lib.hid (ka.out.keep hbx)
      replace kb := Lib.hid (kb.out.keep hbx)
      have kx := Lib.hid (Lok.new wr 24 #[.int .i64 x0, .int .i64 x1, .int .i64 x2, .int .i64 x3, .int .i64 x4, .int .i64 x5, .int .i64 x6, .int .i64 x7, .int .i64 x8])
      clear hbx
      generalize wr.alloc (.cells #[.int .i64 x0, .int .i64 x1, .int .i64 x2, .int .i64 x3, .int .i64 x4, .int .i64 x5, .int .i64 x6, .int .i64 x7, .int .i64 x8] 24) = Vx at *
      generalize wr.heap.size = gx at *
      have a0 := ka.out.cell (i := 0) rfl
      have a1 := ka.out.cell (i := 1) rfl
      have a2 := ka.out.cell (i := 2) rfl
      have b0 := kb.out.cell (i := 0) rfl
      have b1 := kb.out.cell (i := 1) rfl
      have b2 := kb.out.cell (i := 2) rfl
      have x0 := kx.out.cell (i := 0) rfl
      have x1 := kx.out.cell (i := 1) rfl
      have x2 := kx.out.cell (i := 2) rfl
      have x3 := kx.out.cell (i := 3) rfl
      have x4 := kx.out.cell (i := 4) rfl
      have x5 := kx.out.cell (i := 5) rfl
      have x6 := kx.out.cell (i := 6) rfl
      have x7 := kx.out.cell (i := 7) rfl
      have x8 := kx.out.cell (i := 8) rfl
      go_wp2_with fail
      clear a0 a1 a2 b0 b1 b2 x0 x1 x2 x3 x4 x5 x6 x7 x8
      ((with_reducible refine (C.out _).mono ?_); rintro e w1 ⟨rfl, hb1⟩)
      replace HB := Lib.hid (HB.out.trans (hb1.mono HB.out.size))
      replace B0 := Lib.hid (B0.out.trans (hb1.mono B0.out.size))
      clear hb1 ka kb kx C
      cases ho : o k with
      | false =>
        have hg := Lib.hid (fiG_no hlt ho)
        rw [hV_no, show rE false = 5 from rfl]
        clear ho HO
        go_wp2
        go_ret3
        exact ⟨by rw [hg.out]; rfl, HB.out⟩
      | true =>
        have HO2 := Lib.hid (fun j (hj : j < k + 1) => show o j = true by
          by_cases e : j = k
          · rw [e]; exact ho
          · exact HO.out j (by omega))
        clear HO ho
        rw [hV_yes, show rE true = 0 from rfl]
        cases hh : h k with
        | false =>
          have e1 := Lib.hid (fiP_keep (h := h) (k := k) (.inl hh))
          have e2 := Lib.hid (show fiF h (k + 1) = fiF h k by show (fiF h k || h k) = _; rw [hh, Bool.or_false])
          clear hh
          go_wp2
          go_roundw
          case rel => exact ⟨k + 1, by rw [e1.out], by rw [e2.out], by go_num, hlt, HO2.out, B0.out⟩
          case measure => simp [intOf]; omega
        | true =>
          have e2 := Lib.hid (show fiF h (k + 1) = true by show (fiF h k || h k) = _; rw [hh, Bool.or_true])
          cases hf : fiF h k with
          | true =>
            have e1 := Lib.hid (fiP_keep (h := h) (k := k) (.inr hf))
            clear hh hf
            go_wp2
            go_roundw
            case rel => exact ⟨k + 1, by rw [e1.out], by rw [e2.out], by go_num, hlt, HO2.out, B0.out⟩
            case measure => simp [intOf]; omega
          | false =>
            have e1 := Lib.hid (fiP_take hh hf)
            clear hh hf
            go_wp2
            go_roundw
            case rel => exact ⟨k + 1, by rw [e1.out], by rw [e2.out], by go_num, hlt, HO2.out, B0.out⟩
            case measure => simp [intOf]; omega
    · obtain rfl : k = n := by omega
      have hg := Lib.hid (fiG_all HO.out)
      have HB := Lib.hid (HB0.out.trans (hB.mono HB0.out.size))
      clear hB HO
      go_wp2
      go_ret3
      exact ⟨by rw [hg.out, fiV_yes, Bool.true_and]; rfl, HB.out⟩
end Go.Proofs.Ythjjaojimefbeaa
