/-
  The reference limewashref12: First. (gen/HtI.py)
-/
import Derived.Test.YthjjaojimefbeaaHtH
import Derived.Test.YthjjaojimefbeaaHtD
namespace Go.Proofs.Ythjjaojimefbeaa
open Go.RowKit

/-- The place of the first one that is hit, -1 if there is none. -/
def fiA (h : Nat → Bool) (k : Nat) : Int := if fiF h k then (fiP h k : Int) else -1
theorem fiA_bd (h : Nat → Bool) (k : Nat) : -1 ≤ fiA h k ∧ fiA h k ≤ k := by
  have := fiP_bd h k
  unfold fiA; split <;> omega
theorem fiA_neg (h : Nat → Bool) (k : Nat) : decide (fiA h k < 0) = !fiF h k := by
  unfold fiA
  cases fiF h k with
  | true => exact decide_eq_false (by rw [if_pos rfl]; omega)
  | false => exact decide_eq_true (by rw [if_neg (by decide)]; omega)
theorem fiA_nn (h : Nat → Bool) (k : Nat) : decide (0 ≤ fiA h k) = fiF h k := by
  unfold fiA
  cases fiF h k with
  | true => exact decide_eq_true (by rw [if_pos rfl]; omega)
  | false => exact decide_eq_false (by rw [if_neg (by decide)]; omega)
theorem fiP_none {h : Nat → Bool} : ∀ {k : Nat}, fiF h k = false → fiP h k = 0
  | 0, _ => rfl
  | k + 1, e => by
    have e' : (fiF h k || h k) = false := e
    rw [Bool.or_eq_false_iff] at e'
    rw [fiP_keep (.inl e'.2), fiP_none e'.1]
theorem fiA_max (h : Nat → Bool) (k : Nat) : max (fiA h k) 0 = (fiP h k : Int) := by
  unfold fiA
  cases e : fiF h k with
  | true => rw [if_pos rfl]; omega
  | false => rw [if_neg (by decide), fiP_none e]; rfl
theorem fiA_keep {h : Nat → Bool} {k : Nat} (e : h k = false ∨ fiF h k = true) : fiA h (k + 1) = fiA h k := by
  unfold fiA
  rw [fiP_keep e, show fiF h (k + 1) = fiF h k from by show (fiF h k || h k) = _; rcases e with e | e <;> rw [e] <;> simp]
theorem fiA_take {h : Nat → Bool} {k : Nat} (e : h k = true) (f : fiF h k = false) : fiA h (k + 1) = k := by
  unfold fiA
  rw [fiP_take e f, show fiF h (k + 1) = true from by show (fiF h k || h k) = _; rw [e, Bool.or_true], if_pos rfl]
set_option maxRecDepth 100000 in
set_option maxHeartbeats 8000000 in
theorem rfirst_any (a1 a2 a3 b1 b2 b3 : Int) (A : Option Addr) (n c : Nat) (F : Nat → Nat → Int) (w : World) (hr : RowK w A n 9 F) (hn : n ≤ 9223372036854775806) :
    Calls Try.prog 14 #[.agg #[.int .i64 a1, .int .i64 a2, .int .i64 a3], .agg #[.int .i64 b1, .int .i64 b2, .int .i64 b3], .slice A n c] w fun e w' => e = .returned (.tuple #[.int .i64 (fiV (fiG (okF a1 a2 a3 b1 b2 b3 F) n) (fiP (htF a1 a2 a3 b1 b2 b3 F) n)), .bool (fiG (okF a1 a2 a3 b1 b2 b3 F) n && fiF (htF a1 a2 a3 b1 b2 b3 F) n), .int .i64 (rE (fiG (okF a1 a2 a3 b1 b2 b3 F) n))]) ∧ Below w.heap.size w w' := by
  have HB := Lib.hid (Below.refl w.heap.size w)
  have R := Lib.hid hr
  have CA := Lib.hid (fun k W => rhit_any a1 a2 a3 b1 b2 b3 (F k 0) (F k 1) (F k 2) (F k 3) (F k 4) (F k 5) (F k 6) (F k 7) (F k 8) (okF a1 a2 a3 b1 b2 b3 F k) rfl W)
  simp only [show ∀ k, htB a1 a2 a3 b1 b2 b3 (F k 0) (F k 1) (F k 2) (F k 3) (F k 4) (F k 5) (F k 6) (F k 7) (F k 8) = htF a1 a2 a3 b1 b2 b3 F k from fun _ => rfl] at CA
  generalize hok : okF a1 a2 a3 b1 b2 b3 F = o at *
  generalize hht : htF a1 a2 a3 b1 b2 b3 F = h at *
  clear hr hok hht
  go_enter Try.func14, Try.ntmps14
  go_upto_region 1 with fail
  have hba := below_new1 w (.cells #[.int .i64 a1, .int .i64 a2, .int .i64 a3] 23)
  have za : (w.alloc (.cells #[.int .i64 a1, .int .i64 a2, .int .i64 a3] 23)).heap.size = w.heap.size + 1 := by simp
  have HB := Lib.hid hba
  have ka := Lib.hid (Lok.new w 23 #[.int .i64 a1, .int .i64 a2, .int .i64 a3])
  clear hba
  generalize w.alloc (.cells #[.int .i64 a1, .int .i64 a2, .int .i64 a3] 23) = Va at *
  have hbb := below_new1 Va (.cells #[.int .i64 b1, .int .i64 b2, .int .i64 b3] 23)
  replace ka := Lib.hid (ka.out.keep hbb)
  have zb : (Va.alloc (.cells #[.int .i64 b1, .int .i64 b2, .int .i64 b3] 23)).heap.size = Va.heap.size + 1 := by simp
  replace HB := Lib.hid (HB.out.trans (hbb.mono HB.out.size))
  have kb := Lib.hid (Lok.new Va 23 #[.int .i64 b1, .int .i64 b2, .int .i64 b3])
  clear hbb
  generalize Va.alloc (.cells #[.int .i64 b1, .int .i64 b2, .int .i64 b3] 23) = Vb at *
  rw [za] at kb
  clear za zb
  have R2 := Lib.hid (R.out.keep HB.out)
  have HB0 := HB
  have ka0 := ka
  have kb0 := kb
  clear R HB ka kb
  go_wp2_with fail
  go_loopw [9, 10] (fun p i wr => ∃ k : Nat, p = .int .i64 (fiA h k) ∧ i = .int .i64 k ∧ k ≤ n ∧ (∀ j, j < k → o j = true) ∧ Below Vb.heap.size Vb wr) (fun _ i _ => n - (intOf i).toNat)
  case atStart => exact ⟨0, rfl, rfl, Nat.zero_le _, fun j hj => absurd hj (by omega), Below.refl _ _⟩
  case round =>
    obtain ⟨k, rfl, rfl, hk, hO0, hB⟩ := hrel
    have HO := Lib.hid hO0
    clear hO0
    have HB := Lib.hid (HB0.out.trans (hB.mono HB0.out.size))
    have ka := Lib.hid (ka0.out.keep hB)
    have kb := Lib.hid (kb0.out.keep hB)
    by_cases hlt : k < n
    · obtain ⟨b, off, rfl, hbl, hc⟩ := (R2.out.keep hB).at hlt
      have B0 := Lib.hid hB
      clear hB
      have c0 := hc k hlt 0 (by decide)
      have c1 := hc k hlt 1 (by decide)
      have c2 := hc k hlt 2 (by decide)
      have c3 := hc k hlt 3 (by decide)
      have c4 := hc k hlt 4 (by decide)
      have c5 := hc k hlt 5 (by decide)
      have c6 := hc k hlt 6 (by decide)
      have c7 := hc k hlt 7 (by decide)
      have c8 := hc k hlt 8 (by decide)
      rw [Nat.add_zero] at c0
      rw [← Nat.add_assoc] at c1 c2 c3 c4 c5 c6 c7 c8
      have C := Lib.hid (CA.out k)
      generalize F k 0 = x0 at *
      generalize F k 1 = x1 at *
      generalize F k 2 = x2 at *
      generalize F k 3 = x3 at *
      generalize F k 4 = x4 at *
      generalize F k 5 = x5 at *
      generalize F k 6 = x6 at *
      generalize F k 7 = x7 at *
      generalize F k 8 = x8 at *
      clear hc
      have i0 : (0 : Int) ≤ (k : Int) := by omega
      have i1 : (k : Int) < (n : Int) := by omega
      have i2 : ((k : Int)).toNat = k := by omega
      go_upto_region 5 with fail
      have y0 : ∀ D : Of (PastV wr), _ := fun D => keepc (show Below wr.heap.size wr D.world from D.holds) c0
      have y1 : ∀ D : Of (PastV wr), _ := fun D => keepc (show Below wr.heap.size wr D.world from D.holds) c1
      have y2 : ∀ D : Of (PastV wr), _ := fun D => keepc (show Below wr.heap.size wr D.world from D.holds) c2
      have y3 : ∀ D : Of (PastV wr), _ := fun D => keepc (show Below wr.heap.size wr D.world from D.holds) c3
      have y4 : ∀ D : Of (PastV wr), _ := fun D => keepc (show Below wr.heap.size wr D.world from D.holds) c4
      have y5 : ∀ D : Of (PastV wr), _ := fun D => keepc (show Below wr.heap.size wr D.world from D.holds) c5
      have y6 : ∀ D : Of (PastV wr), _ := fun D => keepc (show Below wr.heap.size wr D.world from D.holds) c6
      have y7 : ∀ D : Of (PastV wr), _ := fun D => keepc (show Below wr.heap.size wr D.world from D.holds) c7
      have y8 : ∀ D : Of (PastV wr), _ := fun D => keepc (show Below wr.heap.size wr D.world from D.holds) c8
      clear c0 c1 c2 c3 c4 c5 c6 c7 c8
      have qa0 : ∀ D : Of (PastV wr), _ := fun D => (ka.out.keep (show Below wr.heap.size wr D.world from D.holds)).cell (i := 0) rfl
      have qa1 : ∀ D : Of (PastV wr), _ := fun D => (ka.out.keep (show Below wr.heap.size wr D.world from D.holds)).cell (i := 1) rfl
      have qa2 : ∀ D : Of (PastV wr), _ := fun D => (ka.out.keep (show Below wr.heap.size wr D.world from D.holds)).cell (i := 2) rfl
      have qb0 : ∀ D : Of (PastV wr), _ := fun D => (kb.out.keep (show Below wr.heap.size wr D.world from D.holds)).cell (i := 0) rfl
      have qb1 : ∀ D : Of (PastV wr), _ := fun D => (kb.out.keep (show Below wr.heap.size wr D.world from D.holds)).cell (i := 1) rfl
      have qb2 : ∀ D : Of (PastV wr), _ := fun D => (kb.out.keep (show Below wr.heap.size wr D.world from D.holds)).cell (i := 2) rfl
      have ST := Lib.hid (pastV_stays wr)
      have ne : Nonempty (Of (PastV wr)) := ⟨⟨wr, Below.refl _ _⟩⟩
      refine wp_region_class (S := PastV wr) (by kernel_rfl) (by kernel_rfl) (Below.refl _ _).drew ?_
      repeat (go_big_quiet_step (first | (go_at_call 10; first | (with_reducible exact class_call ST.out _ (C.out _)))))
      refine wpQuiet_nil ?_
      rintro _ ⟨D, rfl⟩
      have hD : Below wr.heap.size wr D.world := D.holds
      have B2 := Lib.hid (B0.out.trans (hD.mono B0.out.size))
      replace HB := Lib.hid (HB.out.trans (hD.mono HB.out.size))
      replace ka := Lib.hid (ka.out.keep hD)
      replace kb := Lib.hid (kb.out.keep hD)
      generalize D.world = v1 at *
      clear qa0 qa1 qa2 qb0 qb1 qb2 ne ST hD
      clear ka kb B0 C y0 y1 y2 y3 y4 y5 y6 y7 y8
      cases ho : o k with
      | false =>
        have hg := Lib.hid (fiG_no hlt ho)
        rw [hV_no, show rE false = 5 from rfl]
        clear ho HO
        go_wp2
        go_ret3
        exact ⟨by rw [hg.out]; rfl, HB.out⟩
      | true =>
        have HO2 := Lib.hid (fun j (hj : j < k + 1) => show o j = true by
          by_cases e : j = k
          · rw [e]; exact ho
          · exact HO.out j (by omega))
        clear HO ho
        rw [hV_yes, show rE true = 0 from rfl]
        have fn := fiA_neg h k
        cases hh : h k with
        | false =>
          have e1 := Lib.hid (fiA_keep (h := h) (k := k) (.inl hh))
          clear hh fn
          generalize fiA h k = at0 at *
          go_wp2
          go_roundw
          case rel => exact ⟨k + 1, by rw [e1.out], by go_num, hlt, HO2.out, B2.out⟩
          case measure => simp [intOf]; omega
        | true =>
          cases hf : fiF h k with
          | true =>
            have e1 := Lib.hid (fiA_keep (h := h) (k := k) (.inr hf))
            rw [hf, Bool.not_true] at fn
            clear hh hf
            generalize fiA h k = at0 at *
            go_wp2
            go_roundw
            case rel => exact ⟨k + 1, by rw [e1.out], by go_num, hlt, HO2.out, B2.out⟩
            case measure => simp [intOf]; omega
          | false =>
            have e1 := Lib.hid (fiA_take hh hf)
            rw [hf, Bool.not_false] at fn
            clear hh hf
            generalize fiA h k = at0 at *
            go_wp2
            go_roundw
            case rel => exact ⟨k + 1, by rw [e1.out], by go_num, hlt, HO2.out, B2.out⟩
            case measure => simp [intOf]; omega
    · obtain rfl : k = n := by omega
      have hg := Lib.hid (fiG_all HO.out)
      have f1 := Lib.hid (fiA_max h k)
      have f2 := Lib.hid (fiA_nn h k)
      clear hB HO ka kb
      generalize fiA h k = at0 at *
      go_wp2
      go_ret3
      exact ⟨by rw [hg.out, fiV_yes, Bool.true_and, ← f1.out, ← f2.out]; rfl, HB.out⟩
end Go.Proofs.Ythjjaojimefbeaa
