/-
  The law HitFirst, walked. (gen/HtO.py)
-/
import Derived.Test.YthjjaojimefbeaaHtK
namespace Go.Proofs.Ythjjaojimefbeaa
open Go.RowKit

theorem ff_none {h : Nat → Bool} {n : Nat} (e : fiF h n = false) : ∀ i, i < n → h i = false := by
  induction n with
  | zero => intro i hi; omega
  | succ m ih =>
    have e' : (fiF h m || h m) = false := e
    rw [Bool.or_eq_false_iff] at e'
    intro i hi
    by_cases q : i = m
    · rw [q]; exact e'.2
    · exact ih e'.1 i (by omega)
theorem fp_zero {h : Nat → Bool} {n : Nat} (e : fiF h n = false) : fiP h n = 0 := by
  induction n with
  | zero => rfl
  | succ m ih =>
    have e' : (fiF h m || h m) = false := e
    rw [Bool.or_eq_false_iff] at e'
    rw [fiP_keep (.inl e'.2), ih e'.1]
theorem ff_some {h : Nat → Bool} {n : Nat} (e : fiF h n = true) : fiP h n < n ∧ h (fiP h n) = true ∧ ∀ i, i < fiP h n → h i = false := by
  induction n with
  | zero => cases e
  | succ m ih =>
    cases f : fiF h m with
    | true =>
      obtain ⟨p, q, r⟩ := ih f
      rw [fiP_keep (.inr f)]
      exact ⟨by omega, q, r⟩
    | false =>
      have e' : (fiF h m || h m) = true := e
      rw [f, Bool.false_or] at e'
      rw [fiP_take e' f]
      exact ⟨by omega, e', ff_none f⟩
set_option maxRecDepth 100000 in
set_option maxHeartbeats 4000000 in
theorem law_first_long (a1 a2 a3 b1 b2 b3 : Int) (A : Option Addr) (n c : Nat) (w : World) (hn : 30 < n) (hl : n ≤ 9223372036854775807) :
    Calls Try.prog 7 #[.agg #[.int .i64 a1, .int .i64 a2, .int .i64 a3], .agg #[.int .i64 b1, .int .i64 b2, .int .i64 b3], .slice A n c] w fun e' w' => e' = .returned (.bool true) ∧ Below w.heap.size w w' := by
  have HB := Lib.hid (Below.refl w.heap.size w)
  have d1 : decide (30 < (n : Int)) = true := decide_eq_true (by omega)
  go_enter Try.func7, Try.ntmps7
  go_upto_region 1 with fail
  have hba := below_new1 w (.cells #[.int .i64 a1, .int .i64 a2, .int .i64 a3] 23)
  have za : (w.alloc (.cells #[.int .i64 a1, .int .i64 a2, .int .i64 a3] 23)).heap.size = w.heap.size + 1 := by simp
  have HB := Lib.hid hba
  have ka := Lib.hid (Lok.new w 23 #[.int .i64 a1, .int .i64 a2, .int .i64 a3])
  clear hba
  generalize w.alloc (.cells #[.int .i64 a1, .int .i64 a2, .int .i64 a3] 23) = Va at *
  have hbb := below_new1 Va (.cells #[.int .i64 b1, .int .i64 b2, .int .i64 b3] 23)
  replace ka := Lib.hid (ka.out.keep hbb)
  have zb : (Va.alloc (.cells #[.int .i64 b1, .int .i64 b2, .int .i64 b3] 23)).heap.size = Va.heap.size + 1 := by simp
  replace HB := Lib.hid (HB.out.trans (hbb.mono HB.out.size))
  have kb := Lib.hid (Lok.new Va 23 #[.int .i64 b1, .int .i64 b2, .int .i64 b3])
  clear hbb
  generalize Va.alloc (.cells #[.int .i64 b1, .int .i64 b2, .int .i64 b3] 23) = Vb at *
  rw [za] at kb
  clear za zb
  clear ka kb
  go_wp2
  go_ret
  exact ⟨rfl, HB.out⟩
set_option maxRecDepth 100000 in
set_option maxHeartbeats 16000000 in
theorem law_first_short (a1 a2 a3 b1 b2 b3 : Int) (A : Option Addr) (n c : Nat) (F : Nat → Nat → Int) (w : World) (hr : RowK w A n 9 F) (hn : n ≤ 30) :
    Calls Try.prog 7 #[.agg #[.int .i64 a1, .int .i64 a2, .int .i64 a3], .agg #[.int .i64 b1, .int .i64 b2, .int .i64 b3], .slice A n c] w fun e' w' => e' = .returned (.bool true) ∧ Below w.heap.size w w' := by
  have HB := Lib.hid (Below.refl w.heap.size w)
  have d1 : decide (30 < (n : Int)) = false := decide_eq_false (by omega)
  have R := Lib.hid hr
  have C1 := Lib.hid (fun W hr => first_any a1 a2 a3 b1 b2 b3 A n c F W hr (by omega))
  have S := Lib.hid (fun W => struck_any W)
  have CA := Lib.hid (fun k W => hit_any a1 a2 a3 b1 b2 b3 (F k 0) (F k 1) (F k 2) (F k 3) (F k 4) (F k 5) (F k 6) (F k 7) (F k 8) (okF a1 a2 a3 b1 b2 b3 F k) rfl W)
  simp only [show ∀ k, htB a1 a2 a3 b1 b2 b3 (F k 0) (F k 1) (F k 2) (F k 3) (F k 4) (F k 5) (F k 6) (F k 7) (F k 8) = htF a1 a2 a3 b1 b2 b3 F k from fun _ => rfl] at CA
  generalize hok : okF a1 a2 a3 b1 b2 b3 F = o at *
  generalize hht : htF a1 a2 a3 b1 b2 b3 F = h at *
  clear hr hok hht
  cases hg : fiG o n with
  | false =>
    rw [hg, fiV_no, Bool.false_and, show rE false = 5 from rfl] at C1
    clear hg CA
    go_enter Try.func7, Try.ntmps7
    go_upto_region 1 with fail
    have hba := below_new1 w (.cells #[.int .i64 a1, .int .i64 a2, .int .i64 a3] 23)
    have za : (w.alloc (.cells #[.int .i64 a1, .int .i64 a2, .int .i64 a3] 23)).heap.size = w.heap.size + 1 := by simp
    have HB := Lib.hid hba
    have ka := Lib.hid (Lok.new w 23 #[.int .i64 a1, .int .i64 a2, .int .i64 a3])
    clear hba
    generalize w.alloc (.cells #[.int .i64 a1, .int .i64 a2, .int .i64 a3] 23) = Va at *
    have hbb := below_new1 Va (.cells #[.int .i64 b1, .int .i64 b2, .int .i64 b3] 23)
    replace ka := Lib.hid (ka.out.keep hbb)
    have zb : (Va.alloc (.cells #[.int .i64 b1, .int .i64 b2, .int .i64 b3] 23)).heap.size = Va.heap.size + 1 := by simp
    replace HB := Lib.hid (HB.out.trans (hbb.mono HB.out.size))
    have kb := Lib.hid (Lok.new Va 23 #[.int .i64 b1, .int .i64 b2, .int .i64 b3])
    clear hbb
    generalize Va.alloc (.cells #[.int .i64 b1, .int .i64 b2, .int .i64 b3] 23) = Vb at *
    rw [za] at kb
    clear za zb
    replace R := Lib.hid (R.out.keep HB.out)
    have a0 := ka.out.cell (i := 0) rfl
    have a1 := ka.out.cell (i := 1) rfl
    have a2 := ka.out.cell (i := 2) rfl
    have b0 := kb.out.cell (i := 0) rfl
    have b1 := kb.out.cell (i := 1) rfl
    have b2 := kb.out.cell (i := 2) rfl
    go_wp2_with fail
    clear a0 a1 a2 b0 b1 b2
    (((with_reducible refine (C1.out _ R.out).mono ?_); rintro e w1 ⟨rfl, hb1⟩); replace HB := Lib.hid (HB.out.trans (hb1.mono HB.out.size)); replace ka := Lib.hid (ka.out.keep hb1); replace kb := Lib.hid (kb.out.keep hb1); replace R := Lib.hid (R.out.keep hb1); clear hb1)
    clear C1
    clear ka kb R
    go_wp2_with fail
    (((with_reducible refine (S.out _).mono ?_); rintro e w2 ⟨rfl, hb2⟩); replace HB := Lib.hid (HB.out.trans (hb2.mono HB.out.size)); clear hb2)
    go_wp2
    go_ret
    exact ⟨rfl, HB.out⟩
  | true =>
    have HG := Lib.hid (fiG_each hg)
    rw [hg, fiV_yes, Bool.true_and, show rE true = 0 from rfl] at C1
    clear hg
    have pb := fiP_bd h n
    have q1 : decide ((fiP h n : Int) < 0) = false := decide_eq_false (by omega)
    cases hf : fiF h n with
    | false =>
      rw [hf, fp_zero hf] at C1
      have NO := Lib.hid (ff_none hf)
      clear hf pb q1
      have q1 : decide ((0 : Int) < 0) = false := rfl
      go_enter Try.func7, Try.ntmps7
      go_upto_region 1 with fail
      have hba := below_new1 w (.cells #[.int .i64 a1, .int .i64 a2, .int .i64 a3] 23)
      have za : (w.alloc (.cells #[.int .i64 a1, .int .i64 a2, .int .i64 a3] 23)).heap.size = w.heap.size + 1 := by simp
      have HB := Lib.hid hba
      have ka := Lib.hid (Lok.new w 23 #[.int .i64 a1, .int .i64 a2, .int .i64 a3])
      clear hba
      generalize w.alloc (.cells #[.int .i64 a1, .int .i64 a2, .int .i64 a3] 23) = Va at *
      have hbb := below_new1 Va (.cells #[.int .i64 b1, .int .i64 b2, .int .i64 b3] 23)
      replace ka := Lib.hid (ka.out.keep hbb)
      have zb : (Va.alloc (.cells #[.int .i64 b1, .int .i64 b2, .int .i64 b3] 23)).heap.size = Va.heap.size + 1 := by simp
      replace HB := Lib.hid (HB.out.trans (hbb.mono HB.out.size))
      have kb := Lib.hid (Lok.new Va 23 #[.int .i64 b1, .int .i64 b2, .int .i64 b3])
      clear hbb
      generalize Va.alloc (.cells #[.int .i64 b1, .int .i64 b2, .int .i64 b3] 23) = Vb at *
      rw [za] at kb
      clear za zb
      replace R := Lib.hid (R.out.keep HB.out)
      have a0 := ka.out.cell (i := 0) rfl
      have a1 := ka.out.cell (i := 1) rfl
      have a2 := ka.out.cell (i := 2) rfl
      have b0 := kb.out.cell (i := 0) rfl
      have b1 := kb.out.cell (i := 1) rfl
      have b2 := kb.out.cell (i := 2) rfl
      go_wp2_with fail
      clear a0 a1 a2 b0 b1 b2
      (((with_reducible refine (C1.out _ R.out).mono ?_); rintro e w1 ⟨rfl, hb1⟩); replace HB := Lib.hid (HB.out.trans (hb1.mono HB.out.size)); replace ka := Lib.hid (ka.out.keep hb1); replace kb := Lib.hid (kb.out.keep hb1); replace R := Lib.hid (R.out.keep hb1); clear hb1)
      clear C1
      have R2 := R
      have HB0 := HB
      have ka0 := ka
      have kb0 := kb
      clear R HB ka kb
      go_wp2_with fail
      clear q1
      go_loopw [10] (fun i wr => ∃ k : Nat, i = .int .i64 k ∧ k ≤ n ∧ Below w1.heap.size w1 wr) (fun i _ => n - (intOf i).toNat)
      case atStart => exact ⟨0, rfl, Nat.zero_le _, Below.refl _ _⟩
      case round =>
        obtain ⟨k, rfl, hk, hB⟩ := hrel
        have HB := Lib.hid (HB0.out.trans (hB.mono HB0.out.size))
        have ka := Lib.hid (ka0.out.keep hB)
        have kb := Lib.hid (kb0.out.keep hB)
        by_cases hlt : k < n
        · obtain ⟨b, off, rfl, hbl, hc⟩ := (R2.out.keep hB).at hlt
          have B0 := Lib.hid hB
          clear hB
          have c0 := hc k hlt 0 (by decide)
          have c1 := hc k hlt 1 (by decide)
          have c2 := hc k hlt 2 (by decide)
          have c3 := hc k hlt 3 (by decide)
          have c4 := hc k hlt 4 (by decide)
          have c5 := hc k hlt 5 (by decide)
          have c6 := hc k hlt 6 (by decide)
          have c7 := hc k hlt 7 (by decide)
          have c8 := hc k hlt 8 (by decide)
          rw [Nat.add_zero] at c0
          rw [← Nat.add_assoc] at c1 c2 c3 c4 c5 c6 c7 c8
          have C := Lib.hid (CA.out k)
          rw [HG.out k hlt, hV_yes, show rE true = 0 from rfl] at C
          generalize F k 0 = x0 at *
          generalize F k 1 = x1 at *
          generalize F k 2 = x2 at *
          generalize F k 3 = x3 at *
          generalize F k 4 = x4 at *
          generalize F k 5 = x5 at *
          generalize F k 6 = x6 at *
          generalize F k 7 = x7 at *
          generalize F k 8 = x8 at *
          clear hc
          have i0 : (0 : Int) ≤ (k : Int) := by omega
          have i1 : (k : Int) < (n : Int) := by omega
          have i2 : ((k : Int)).toNat = k := by omega
          go_upto_region 11 with fail
          have y0 : ∀ D : Of (PastV wr), _ := fun D => keepc (show Below wr.heap.size wr D.world from D.holds) c0
          have y1 : ∀ D : Of (PastV wr), _ := fun D => keepc (show Below wr.heap.size wr D.world from D.holds) c1
          have y2 : ∀ D : Of (PastV wr), _ := fun D => keepc (show Below wr.heap.size wr D.world from D.holds) c2
          have y3 : ∀ D : Of (PastV wr), _ := fun D => keepc (show Below wr.heap.size wr D.world from D.holds) c3
          have y4 : ∀ D : Of (PastV wr), _ := fun D => keepc (show Below wr.heap.size wr D.world from D.holds) c4
          have y5 : ∀ D : Of (PastV wr), _ := fun D => keepc (show Below wr.heap.size wr D.world from D.holds) c5
          have y6 : ∀ D : Of (PastV wr), _ := fun D => keepc (show Below wr.heap.size wr D.world from D.holds) c6
          have y7 : ∀ D : Of (PastV wr), _ := fun D => keepc (show Below wr.heap.size wr D.world from D.holds) c7
          have y8 : ∀ D : Of (PastV wr), _ := fun D => keepc (show Below wr.heap.size wr D.world from D.holds) c8
          clear c0 c1 c2 c3 c4 c5 c6 c7 c8
          have qa0 : ∀ D : Of (PastV wr), _ := fun D => (ka.out.keep (show Below wr.heap.size wr D.world from D.holds)).cell (i := 0) rfl
          have qa1 : ∀ D : Of (PastV wr), _ := fun D => (ka.out.keep (show Below wr.heap.size wr D.world from D.holds)).cell (i := 1) rfl
          have qa2 : ∀ D : Of (PastV wr), _ := fun D => (ka.out.keep (show Below wr.heap.size wr D.world from D.holds)).cell (i := 2) rfl
          have qb0 : ∀ D : Of (PastV wr), _ := fun D => (kb.out.keep (show Below wr.heap.size wr D.world from D.holds)).cell (i := 0) rfl
          have qb1 : ∀ D : Of (PastV wr), _ := fun D => (kb.out.keep (show Below wr.heap.size wr D.world from D.holds)).cell (i := 1) rfl
          have qb2 : ∀ D : Of (PastV wr), _ := fun D => (kb.out.keep (show Below wr.heap.size wr D.world from D.holds)).cell (i := 2) rfl
          have ST := Lib.hid (pastV_stays wr)
          have ne : Nonempty (Of (PastV wr)) := ⟨⟨wr, Below.refl _ _⟩⟩
          refine wp_region_class (S := PastV wr) (by kernel_rfl) (by kernel_rfl) (Below.refl _ _).drew ?_
          repeat (go_big_quiet_step (first | (go_at_call 9; first | (with_reducible exact class_call ST.out _ (C.out _)))))
          refine wpQuiet_nil ?_
          rintro _ ⟨D, rfl⟩
          have hD : Below wr.heap.size wr D.world := D.holds
          have B2 := Lib.hid (B0.out.trans (hD.mono B0.out.size))
          replace HB := Lib.hid (HB.out.trans (hD.mono HB.out.size))
          replace ka := Lib.hid (ka.out.keep hD)
          replace kb := Lib.hid (kb.out.keep hD)
          generalize D.world = v1 at *
          clear qa0 qa1 qa2 qb0 qb1 qb2 ne ST hD
          clear ka kb B0 C y0 y1 y2 y3 y4 y5 y6 y7 y8
          rw [NO.out k hlt]
          go_wp2
          go_roundw
          case rel => exact ⟨k + 1, by go_num, hlt, B2.out⟩
          case measure => simp [intOf]; omega
        · obtain rfl : k = n := by omega
          clear hB ka kb CA HG
          go_wp2_with fail
          (((with_reducible refine (S.out _).mono ?_); rintro e w2 ⟨rfl, hb2⟩); replace HB := Lib.hid (HB.out.trans (hb2.mono HB.out.size)); clear hb2)
          clear S
          go_wp2
          go_ret
          exact ⟨rfl, HB.out⟩
    | true =>
      rw [hf] at C1
      obtain ⟨pl, yes, no⟩ := ff_some hf
      have NO := Lib.hid no
      have YES := Lib.hid yes
      have q2 : decide ((n : Int) ≤ (fiP h n : Int)) = false := decide_eq_false (by omega)
      clear hf no yes pb
      generalize fiP h n = p at *
      go_enter Try.func7, Try.ntmps7
      go_upto_region 1 with fail
      have hba := below_new1 w (.cells #[.int .i64 a1, .int .i64 a2, .int .i64 a3] 23)
      have za : (w.alloc (.cells #[.int .i64 a1, .int .i64 a2, .int .i64 a3] 23)).heap.size = w.heap.size + 1 := by simp
      have HB := Lib.hid hba
      have ka := Lib.hid (Lok.new w 23 #[.int .i64 a1, .int .i64 a2, .int .i64 a3])
      clear hba
      generalize w.alloc (.cells #[.int .i64 a1, .int .i64 a2, .int .i64 a3] 23) = Va at *
      have hbb := below_new1 Va (.cells #[.int .i64 b1, .int .i64 b2, .int .i64 b3] 23)
      replace ka := Lib.hid (ka.out.keep hbb)
      have zb : (Va.alloc (.cells #[.int .i64 b1, .int .i64 b2, .int .i64 b3] 23)).heap.size = Va.heap.size + 1 := by simp
      replace HB := Lib.hid (HB.out.trans (hbb.mono HB.out.size))
      have kb := Lib.hid (Lok.new Va 23 #[.int .i64 b1, .int .i64 b2, .int .i64 b3])
      clear hbb
      generalize Va.alloc (.cells #[.int .i64 b1, .int .i64 b2, .int .i64 b3] 23) = Vb at *
      rw [za] at kb
      clear za zb
      replace R := Lib.hid (R.out.keep HB.out)
      have a0 := ka.out.cell (i := 0) rfl
      have a1 := ka.out.cell (i := 1) rfl
      have a2 := ka.out.cell (i := 2) rfl
      have b0 := kb.out.cell (i := 0) rfl
      have b1 := kb.out.cell (i := 1) rfl
      have b2 := kb.out.cell (i := 2) rfl
      go_wp2_with fail
      clear a0 a1 a2 b0 b1 b2
      (((with_reducible refine (C1.out _ R.out).mono ?_); rintro e w1 ⟨rfl, hb1⟩); replace HB := Lib.hid (HB.out.trans (hb1.mono HB.out.size)); replace ka := Lib.hid (ka.out.keep hb1); replace kb := Lib.hid (kb.out.keep hb1); replace R := Lib.hid (R.out.keep hb1); clear hb1)
      clear C1
      have R2 := R
      have HB0 := HB
      have ka0 := ka
      have kb0 := kb
      clear R HB ka kb
      go_wp2_with fail
      clear q1 q2
      go_loopw [10] (fun i wr => ∃ k : Nat, i = .int .i64 k ∧ k ≤ n ∧ Below w1.heap.size w1 wr) (fun i _ => n - (intOf i).toNat)
      case atStart => exact ⟨0, rfl, Nat.zero_le _, Below.refl _ _⟩
      case round =>
        obtain ⟨k, rfl, hk, hB⟩ := hrel
        have HB := Lib.hid (HB0.out.trans (hB.mono HB0.out.size))
        have ka := Lib.hid (ka0.out.keep hB)
        have kb := Lib.hid (kb0.out.keep hB)
        by_cases hlt : k < n
        · obtain ⟨b, off, rfl, hbl, hc⟩ := (R2.out.keep hB).at hlt
          have B0 := Lib.hid hB
          clear hB
          have c0 := hc k hlt 0 (by decide)
          have c1 := hc k hlt 1 (by decide)
          have c2 := hc k hlt 2 (by decide)
          have c3 := hc k hlt 3 (by decide)
          have c4 := hc k hlt 4 (by decide)
          have c5 := hc k hlt 5 (by decide)
          have c6 := hc k hlt 6 (by decide)
          have c7 := hc k hlt 7 (by decide)
          have c8 := hc k hlt 8 (by decide)
          rw [Nat.add_zero] at c0
          rw [← Nat.add_assoc] at c1 c2 c3 c4 c5 c6 c7 c8
          have C := Lib.hid (CA.out k)
          rw [HG.out k hlt, hV_yes, show rE true = 0 from rfl] at C
          generalize F k 0 = x0 at *
          generalize F k 1 = x1 at *
          generalize F k 2 = x2 at *
          generalize F k 3 = x3 at *
          generalize F k 4 = x4 at *
          generalize F k 5 = x5 at *
          generalize F k 6 = x6 at *
          generalize F k 7 = x7 at *
          generalize F k 8 = x8 at *
          clear hc
          have i0 : (0 : Int) ≤ (k : Int) := by omega
          have i1 : (k : Int) < (n : Int) := by omega
          have i2 : ((k : Int)).toNat = k := by omega
          go_upto_region 11 with fail
          have y0 : ∀ D : Of (PastV wr), _ := fun D => keepc (show Below wr.heap.size wr D.world from D.holds) c0
          have y1 : ∀ D : Of (PastV wr), _ := fun D => keepc (show Below wr.heap.size wr D.world from D.holds) c1
          have y2 : ∀ D : Of (PastV wr), _ := fun D => keepc (show Below wr.heap.size wr D.world from D.holds) c2
          have y3 : ∀ D : Of (PastV wr), _ := fun D => keepc (show Below wr.heap.size wr D.world from D.holds) c3
          have y4 : ∀ D : Of (PastV wr), _ := fun D => keepc (show Below wr.heap.size wr D.world from D.holds) c4
          have y5 : ∀ D : Of (PastV wr), _ := fun D => keepc (show Below wr.heap.size wr D.world from D.holds) c5
          have y6 : ∀ D : Of (PastV wr), _ := fun D => keepc (show Below wr.heap.size wr D.world from D.holds) c6
          have y7 : ∀ D : Of (PastV wr), _ := fun D => keepc (show Below wr.heap.size wr D.world from D.holds) c7
          have y8 : ∀ D : Of (PastV wr), _ := fun D => keepc (show Below wr.heap.size wr D.world from D.holds) c8
          clear c0 c1 c2 c3 c4 c5 c6 c7 c8
          have qa0 : ∀ D : Of (PastV wr), _ := fun D => (ka.out.keep (show Below wr.heap.size wr D.world from D.holds)).cell (i := 0) rfl
          have qa1 : ∀ D : Of (PastV wr), _ := fun D => (ka.out.keep (show Below wr.heap.size wr D.world from D.holds)).cell (i := 1) rfl
          have qa2 : ∀ D : Of (PastV wr), _ := fun D => (ka.out.keep (show Below wr.heap.size wr D.world from D.holds)).cell (i := 2) rfl
          have qb0 : ∀ D : Of (PastV wr), _ := fun D => (kb.out.keep (show Below wr.heap.size wr D.world from D.holds)).cell (i := 0) rfl
          have qb1 : ∀ D : Of (PastV wr), _ := fun D => (kb.out.keep (show Below wr.heap.size wr D.world from D.holds)).cell (i := 1) rfl
          have qb2 : ∀ D : Of (PastV wr), _ := fun D => (kb.out.keep (show Below wr.heap.size wr D.world from D.holds)).cell (i := 2) rfl
          have ST := Lib.hid (pastV_stays wr)
          have ne : Nonempty (Of (PastV wr)) := ⟨⟨wr, Below.refl _ _⟩⟩
          refine wp_region_class (S := PastV wr) (by kernel_rfl) (by kernel_rfl) (Below.refl _ _).drew ?_
          repeat (go_big_quiet_step (first | (go_at_call 9; first | (with_reducible exact class_call ST.out _ (C.out _)))))
          refine wpQuiet_nil ?_
          rintro _ ⟨D, rfl⟩
          have hD : Below wr.heap.size wr D.world := D.holds
          have B2 := Lib.hid (B0.out.trans (hD.mono B0.out.size))
          replace HB := Lib.hid (HB.out.trans (hD.mono HB.out.size))
          replace ka := Lib.hid (ka.out.keep hD)
          replace kb := Lib.hid (kb.out.keep hD)
          generalize D.world = v1 at *
          clear qa0 qa1 qa2 qb0 qb1 qb2 ne ST hD
          clear ka kb B0 C y0 y1 y2 y3 y4 y5 y6 y7 y8
          have hno := NO.out k
          have hyes := YES.out
          by_cases hkp : k = p
          · subst hkp
            rw [hyes]
            have z1 : ((k : Int) == (k : Int)) = true := by simp
            have z2 : decide ((k : Int) < (k : Int)) = false := decide_eq_false (by omega)
            clear hno hyes
            go_wp2
            go_roundw
            case rel => exact ⟨k + 1, by go_num, hlt, B2.out⟩
            case measure => simp [intOf]; omega
          · have z1 : ((k : Int) == (p : Int)) = false := beq_no (by omega)
            cases hx : h k with
            | false =>
              clear hno hyes hx
              go_wp2
              go_roundw
              case rel => exact ⟨k + 1, by go_num, hlt, B2.out⟩
              case measure => simp [intOf]; omega
            | true =>
              have hge : p ≤ k := by
                rcases Nat.lt_or_ge k p with q | q
                · rw [hno q] at hx; cases hx
                · exact q
              have z2 : decide ((k : Int) < (p : Int)) = false := decide_eq_false (by omega)
              have z3 : decide (k < p) = false := decide_eq_false (by omega)
              clear hno hyes hx
              go_wp2
              go_roundw
              case rel => exact ⟨k + 1, by go_num, hlt, B2.out⟩
              case measure => simp [intOf]; omega
        · obtain rfl : k = n := by omega
          clear hB ka kb CA HG
          go_wp2_with fail
          (((with_reducible refine (S.out _).mono ?_); rintro e w2 ⟨rfl, hb2⟩); replace HB := Lib.hid (HB.out.trans (hb2.mono HB.out.size)); clear hb2)
          clear S
          go_wp2
          go_ret
          exact ⟨rfl, HB.out⟩
theorem law_first (a1 a2 a3 b1 b2 b3 : Int) (A : Option Addr) (n c : Nat) (F : Nat → Nat → Int) (w : World) (hr : RowK w A n 9 F) (hn : n ≤ 9223372036854775807) :
    Calls Try.prog 7 #[.agg #[.int .i64 a1, .int .i64 a2, .int .i64 a3], .agg #[.int .i64 b1, .int .i64 b2, .int .i64 b3], .slice A n c] w fun e' w' => e' = .returned (.bool true) ∧ Below w.heap.size w w' := by
  by_cases h : n ≤ 30
  · exact law_first_short a1 a2 a3 b1 b2 b3 A n c F w hr h
  · exact law_first_long a1 a2 a3 b1 b2 b3 A n c w (by omega) hn
end Go.Proofs.Ythjjaojimefbeaa
