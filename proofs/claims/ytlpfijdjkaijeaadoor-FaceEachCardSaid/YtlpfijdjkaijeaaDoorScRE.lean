/-
  The reference of layer 5: Whole. (gen/ScRE.py)
-/
import Derived.Test.YtlpfijdjkaijeaaDoorRDi
import Derived.Test.YtlpfijdjkaijeaaDoorScF
namespace Go.Proofs.YtlpfijdjkaijeaaDoor
open Go.RowKit

theorem cut_list (s : ByteArray) (_ : 0 < s.size) : (s.extract 1 s.size).data.toList = s.data.toList.drop 1 ∧ (s.extract 1 s.size).size = s.size - 1 := by
  have hl : s.data.toList.length = s.size := Array.length_toList
  have e : (s.extract 1 s.size).data.toList = s.data.toList.drop 1 := by
    have h1 : (s.extract 1 s.size).data.toList = (s.data.toList.drop 1).take (s.size - 1) := by
      rw [ByteArray.data_extract, Array.toList_extract]
    rw [h1, List.take_of_length_le (by rw [List.length_drop, hl]; exact Nat.le_refl _)]
  refine ⟨e, ?_⟩
  have h2 : (s.extract 1 s.size).data.toList.length = (s.extract 1 s.size).size := Array.length_toList
  rw [← h2, e, List.length_drop, hl]
theorem whole_cut (s : ByteArray) (h : 0 < s.size) (h45 : (s[0]'h).toNat = 45) : wholeS s.data.toList = wholeD true (s.data.toList.drop 1) := by
  have e := rest_at s 0 h
  rw [List.drop_zero] at e
  rw [e]
  show (if (s[0]'h).toNat = 45 then _ else _) = _
  rw [if_pos h45]; rfl
theorem whole_plain (s : ByteArray) (h : 0 < s.size) (h45 : ¬ (s[0]'h).toNat = 45) : wholeS s.data.toList = wholeD false s.data.toList := by
  have e := rest_at s 0 h
  rw [List.drop_zero] at e
  rw [e]
  show (if (s[0]'h).toNat = 45 then _ else _) = _
  rw [if_neg h45]
theorem whole_none (s : ByteArray) (h : s.size = 0) : wholeS s.data.toList = (0, 6) := by
  have : s.data.toList = [] := List.length_eq_zero_iff.1 (by simpa using h)
  rw [this]; rfl
theorem whole_bad4 (bl : Bool) (t : ByteArray) (i : Nat) (hi : i < t.size) (hD : ¬ (48 ≤ (t[i]'hi).toNat ∧ (t[i]'hi).toNat ≤ 57)) : wholeD bl t.data.toList = (0, 6) := by
  refine wholeD_bad bl _ (.inr (.inr (.inr (fun q => hD ((isD_iff _).1 (List.all_eq_true.1 q _ ?_))))))
  exact List.mem_of_mem_drop (i := i) (by rw [rest_at t i hi]; simp)

set_option maxRecDepth 100000 in
set_option maxHeartbeats 4000000 in
theorem rwhole_minus (s : ByteArray) (w : World) (hz : 0 < s.size) (h45 : (s[0]'hz).toNat = 45) (hm : s.size ≤ 100) :
    Calls Tryd.prog 26 #[.string s] w fun e w' => e = retW (wholeS s.data.toList) ∧ Below w.heap.size w w' := by
  have HB := Lib.hid (Below.refl w.heap.size w)
  have hz1 : (0 : Int) < s.size := by omega
  have hz2 : decide ((0 : Int) < s.size) = true := decide_eq_true hz1
  have HS := whole_cut s hz h45
  obtain ⟨c1, c2⟩ := cut_list s hz
  rw [← c1] at HS
  have q1 : (((s[0]'hz).toNat : Int) == 45) = true := by rw [beq_iff_eq]; omega
  obtain ⟨x0, hx0⟩ : ∃ x, (s[0]'hz).toNat = x := ⟨_, rfl⟩
  rw [hx0] at q1
  clear h45 c1
  go_enter Tryd.func26, Tryd.ntmps26
  go_upto_region 5 with fail
  generalize s.extract 1 s.size = t at *
  have HL : Hid (t.data.toList.length = t.size) := Lib.hid (by simp)
  replace HS := Lib.hid HS
  clear hx0 q1 hz1 hz2
  by_cases h0 : t.size = 0
  · have W := Lib.hid (wholeD_bad true t.data.toList (.inl (by rw [HL.out]; exact h0)))
    have l1 : (t.size : Int) < 1 := by omega
    go_wp2_with fail
    go_ret2
    exact ⟨by rw [HS.out, W.out]; rfl, HB.out⟩
  · have l1 : ¬ (t.size : Int) < 1 := by omega
    have l1' : decide ((t.size : Int) < 1) = false := decide_eq_false l1
    by_cases h7 : 7 < t.size
    · have W := Lib.hid (wholeD_bad true t.data.toList (.inr (.inl (by rw [HL.out]; exact h7))))
      have l2 : (7 : Int) < t.size := by omega
      go_wp2_with fail
      go_ret2
      exact ⟨by rw [HS.out, W.out]; rfl, HB.out⟩
    · have l2 : ¬ (7 : Int) < t.size := by omega
      have l2' : decide ((7 : Int) < t.size) = false := decide_eq_false l2
      have g0 : 0 < t.size := by omega
      have hh := head_at t g0
      obtain ⟨y0, hy0⟩ : ∃ y, (t[0]'g0).toNat = y := ⟨_, rfl⟩
      rw [hy0] at hh
      have hy1 : y0 < 256 := by rw [← hy0]; exact (t[0]'g0).toNat_lt
      by_cases h48 : y0 = 48
      · rw [decide_eq_true h48] at hh
        have q3 : ((y0 : Int) == 48) = true := by rw [beq_iff_eq]; omega
        clear h48
        have W := Lib.hid (wholeD_bad true t.data.toList (.inr (.inr (.inl ⟨hh, .inl rfl⟩))))
        clear hh
        by_cases h1 : 1 < t.size
        · have q4 : (1 : Int) < t.size := by omega
          have q5 : decide ((1 : Int) < t.size) = true := decide_eq_true q4
          go_wp2_with fail
          go_ret2
          exact ⟨by rw [HS.out, W.out]; rfl, HB.out⟩
        · have q4 : ¬ (1 : Int) < t.size := by omega
          have q5 : decide ((1 : Int) < t.size) = false := decide_eq_false q4
          go_wp2_with fail
          go_ret2
          exact ⟨by rw [HS.out, W.out]; rfl, HB.out⟩
      · rw [decide_eq_false h48] at hh
        have q3 : ((y0 : Int) == 48) = false := by rw [beq_eq_false_iff_ne]; omega
        have HH : Hid (¬ (headZ t.data.toList = true ∧ (true = true ∨ 1 < t.data.toList.length))) := Lib.hid (by rw [hh]; simp)
        clear hh h48
        go_wp2_with fail
        go_loopw [6, 7] (fun nv ix wr => ∃ (i n : Nat), ix = .int .i64 i ∧ nv = .int .i64 n ∧ n = valD (t.data.toList.take i) ∧ i ≤ t.size ∧ (∀ b ∈ t.data.toList.take i, isD b = true) ∧ Below w.heap.size w wr) (fun _ ix _ => t.size - (intOf ix).toNat)
        case atStart => exact ⟨0, 0, rfl, rfl, rfl, Nat.zero_le _, fun b hb => (by simp at hb), HB.out⟩
        case round =>
          obtain ⟨i, n, rfl, rfl, hv, hi7, ha, hB⟩ := hrel
          replace HB := Lib.hid hB
          have hn9 : n ≤ 9999999 := by
            have v1 := valD_lt _ ha
            have v2 : (t.data.toList.take i).length ≤ 7 := by rw [List.length_take]; omega
            have v3 : 10 ^ (t.data.toList.take i).length ≤ 10 ^ 7 := Nat.pow_le_pow_right (by decide) v2
            omega
          have A := Lib.hid ha
          have V := Lib.hid hv
          clear hB ha hv
          by_cases hi : i < t.size
          · have i0 : (0 : Int) ≤ (i : Int) := by omega
            have i1 : (i : Int) < t.size := by omega
            have hn := (t[i]'hi).toNat_lt
            have T := Lib.hid (take_snoc t i hi)
            obtain ⟨y, hx⟩ : ∃ y, (t[i]'hi).toNat = y := ⟨_, rfl⟩
            have BE := Lib.hid hx
            rw [hx] at hn
            have C := Lib.hid (fun W => rdigit_any (y : Int) W)
            by_cases hD : 48 ≤ y ∧ y ≤ 57
            · have dg : decide ((48 : Int) ≤ (y : Int) ∧ (y : Int) ≤ 57) = true := decide_eq_true (by omega)
              rw [dg] at C
              have e1 : IntKind.i64.wrap (y : Int) = (y : Int) := by rw [IntKind.wrap_i64]; omega
              have e2 : IntKind.i64.wrap (10 * (n : Int)) = 10 * (n : Int) := by rw [IntKind.wrap_i64]; omega
              have e3 : IntKind.i64.wrap (10 * (n : Int) + y) = 10 * (n : Int) + y := by rw [IntKind.wrap_i64]; omega
              have e4 : IntKind.i64.wrap (10 * (n : Int) + y - 48) = 10 * (n : Int) + y - 48 := by rw [IntKind.wrap_i64]; omega
              have E : Hid ((10 * (n : Int) + y - 48) = ((10 * n + (y - 48) : Nat) : Int)) := Lib.hid (by omega)
              have ID := Lib.hid hD
              clear dg hD
              go_wp2_with fail
              (((with_reducible refine (C.out _).mono ?_); rintro e w2 ⟨rfl, hb2⟩); replace HB := Lib.hid (HB.out.trans (hb2.mono HB.out.size)); clear hb2)
              go_wp2_with fail
              go_roundw
              case rel => exact ⟨i + 1, 10 * n + (y - 48), by go_num, by rw [E.out], by rw [T.out, valD_snoc, ← V.out, BE.out], hi, (by
                rw [T.out]
                intro x hx
                rcases List.mem_append.1 hx with hx | hx
                · exact A.out x hx
                · rw [List.mem_singleton] at hx; subst hx; exact (isD_iff _).2 (by rw [BE.out]; exact ID.out)), HB.out⟩
              case measure => simp [intOf]; omega
            · have dg : decide ((48 : Int) ≤ (y : Int) ∧ (y : Int) ≤ 57) = false := decide_eq_false (by omega)
              rw [dg] at C
              have W := Lib.hid (whole_bad4 true t i hi (by rw [BE.out]; exact hD))
              clear dg hD
              go_wp2_with fail
              (((with_reducible refine (C.out _).mono ?_); rintro e w2 ⟨rfl, hb2⟩); replace HB := Lib.hid (HB.out.trans (hb2.mono HB.out.size)); clear hb2)
              go_wp2_with fail
              go_ret2
              exact ⟨by rw [HS.out, W.out]; rfl, HB.out⟩
          · have i1 : ¬ (i : Int) < t.size := by omega
            have et : t.data.toList.take i = t.data.toList := List.take_of_length_le (by rw [HL.out]; omega)
            have W := Lib.hid (wholeD_ok true t.data.toList (by
              have ha := A.out
              rw [et] at ha
              rw [not_or, not_or, not_or]
              exact ⟨by rw [HL.out]; omega, by rw [HL.out]; omega, (by first | exact HH.out | (have q := HH.out; simpa using q)), fun q => q (List.all_eq_true.2 ha)⟩))
            have V2 := V.out
            rw [et] at V2
            rw [← V2] at W
            have w1 : IntKind.i64.wrap (-(n : Int)) = -(n : Int) := by rw [IntKind.wrap_i64]; omega
            clear et V2 hi hi7
            go_wp2_with fail
            go_ret2
            exact ⟨by rw [HS.out, W.out]; rfl, HB.out⟩
set_option maxRecDepth 100000 in
set_option maxHeartbeats 4000000 in
theorem rwhole_plain (s : ByteArray) (w : World) (hz : 0 < s.size) (h45 : ¬ (s[0]'hz).toNat = 45) (hm : s.size ≤ 100) :
    Calls Tryd.prog 26 #[.string s] w fun e w' => e = retW (wholeS s.data.toList) ∧ Below w.heap.size w w' := by
  have HB := Lib.hid (Below.refl w.heap.size w)
  have hz1 : (0 : Int) < s.size := by omega
  have hz2 : decide ((0 : Int) < s.size) = true := decide_eq_true hz1
  have HS := Lib.hid (whole_plain s hz h45)
  have q1 : (((s[0]'hz).toNat : Int) == 45) = false := by rw [beq_eq_false_iff_ne]; omega
  obtain ⟨x0, hx0⟩ : ∃ x, (s[0]'hz).toNat = x := ⟨_, rfl⟩
  rw [hx0] at q1
  clear h45
  go_enter Tryd.func26, Tryd.ntmps26
  go_upto_region 5 with fail
  have HL : Hid (s.data.toList.length = s.size) := Lib.hid (by simp)
  clear hx0 q1 hz1 hz2
  by_cases h0 : s.size = 0
  · have W := Lib.hid (wholeD_bad false s.data.toList (.inl (by rw [HL.out]; exact h0)))
    have l1 : (s.size : Int) < 1 := by omega
    go_wp2_with fail
    go_ret2
    exact ⟨by rw [HS.out, W.out]; rfl, HB.out⟩
  · have l1 : ¬ (s.size : Int) < 1 := by omega
    have l1' : decide ((s.size : Int) < 1) = false := decide_eq_false l1
    by_cases h7 : 7 < s.size
    · have W := Lib.hid (wholeD_bad false s.data.toList (.inr (.inl (by rw [HL.out]; exact h7))))
      have l2 : (7 : Int) < s.size := by omega
      go_wp2_with fail
      go_ret2
      exact ⟨by rw [HS.out, W.out]; rfl, HB.out⟩
    · have l2 : ¬ (7 : Int) < s.size := by omega
      have l2' : decide ((7 : Int) < s.size) = false := decide_eq_false l2
      have g0 : 0 < s.size := by omega
      have hh := head_at s g0
      obtain ⟨y0, hy0⟩ : ∃ y, (s[0]'g0).toNat = y := ⟨_, rfl⟩
      rw [hy0] at hh
      have hy1 : y0 < 256 := by rw [← hy0]; exact (s[0]'g0).toNat_lt
      by_cases h48 : y0 = 48
      · rw [decide_eq_true h48] at hh
        have q3 : ((y0 : Int) == 48) = true := by rw [beq_iff_eq]; omega
        clear h48
        by_cases h1 : 1 < s.size
        · have W := Lib.hid (wholeD_bad false s.data.toList (.inr (.inr (.inl ⟨hh, .inr (by rw [HL.out]; exact h1)⟩))))
          have q4 : (1 : Int) < s.size := by omega
          have q5 : decide ((1 : Int) < s.size) = true := decide_eq_true q4
          clear hh
          go_wp2_with fail
          go_ret2
          exact ⟨by rw [HS.out, W.out]; rfl, HB.out⟩
        · have HH : Hid (¬ (headZ s.data.toList = true ∧ (false = true ∨ 1 < s.data.toList.length))) := Lib.hid (by rw [HL.out]; simp; omega)
          have q4 : ¬ (1 : Int) < s.size := by omega
          have q5 : decide ((1 : Int) < s.size) = false := decide_eq_false q4
          clear hh
          go_wp2_with fail
          go_loopw [6, 7] (fun nv ix wr => ∃ (i n : Nat), ix = .int .i64 i ∧ nv = .int .i64 n ∧ n = valD (s.data.toList.take i) ∧ i ≤ s.size ∧ (∀ b ∈ s.data.toList.take i, isD b = true) ∧ Below w.heap.size w wr) (fun _ ix _ => s.size - (intOf ix).toNat)
          case atStart => exact ⟨0, 0, rfl, rfl, rfl, Nat.zero_le _, fun b hb => (by simp at hb), HB.out⟩
          case round =>
            obtain ⟨i, n, rfl, rfl, hv, hi7, ha, hB⟩ := hrel
            replace HB := Lib.hid hB
            have hn9 : n ≤ 9999999 := by
              have v1 := valD_lt _ ha
              have v2 : (s.data.toList.take i).length ≤ 7 := by rw [List.length_take]; omega
              have v3 : 10 ^ (s.data.toList.take i).length ≤ 10 ^ 7 := Nat.pow_le_pow_right (by decide) v2
              omega
            have A := Lib.hid ha
            have V := Lib.hid hv
            clear hB ha hv
            by_cases hi : i < s.size
            · have i0 : (0 : Int) ≤ (i : Int) := by omega
              have i1 : (i : Int) < s.size := by omega
              have hn := (s[i]'hi).toNat_lt
              have T := Lib.hid (take_snoc s i hi)
              obtain ⟨y, hx⟩ : ∃ y, (s[i]'hi).toNat = y := ⟨_, rfl⟩
              have BE := Lib.hid hx
              rw [hx] at hn
              have C := Lib.hid (fun W => rdigit_any (y : Int) W)
              by_cases hD : 48 ≤ y ∧ y ≤ 57
              · have dg : decide ((48 : Int) ≤ (y : Int) ∧ (y : Int) ≤ 57) = true := decide_eq_true (by omega)
                rw [dg] at C
                have e1 : IntKind.i64.wrap (y : Int) = (y : Int) := by rw [IntKind.wrap_i64]; omega
                have e2 : IntKind.i64.wrap (10 * (n : Int)) = 10 * (n : Int) := by rw [IntKind.wrap_i64]; omega
                have e3 : IntKind.i64.wrap (10 * (n : Int) + y) = 10 * (n : Int) + y := by rw [IntKind.wrap_i64]; omega
                have e4 : IntKind.i64.wrap (10 * (n : Int) + y - 48) = 10 * (n : Int) + y - 48 := by rw [IntKind.wrap_i64]; omega
                have E : Hid ((10 * (n : Int) + y - 48) = ((10 * n + (y - 48) : Nat) : Int)) := Lib.hid (by omega)
                have ID := Lib.hid hD
                clear dg hD
                go_wp2_with fail
                (((with_reducible refine (C.out _).mono ?_); rintro e w2 ⟨rfl, hb2⟩); replace HB := Lib.hid (HB.out.trans (hb2.mono HB.out.size)); clear hb2)
                go_wp2_with fail
                go_roundw
                case rel => exact ⟨i + 1, 10 * n + (y - 48), by go_num, by rw [E.out], by rw [T.out, valD_snoc, ← V.out, BE.out], hi, (by
                  rw [T.out]
                  intro x hx
                  rcases List.mem_append.1 hx with hx | hx
                  · exact A.out x hx
                  · rw [List.mem_singleton] at hx; subst hx; exact (isD_iff _).2 (by rw [BE.out]; exact ID.out)), HB.out⟩
                case measure => simp [intOf]; omega
              · have dg : decide ((48 : Int) ≤ (y : Int) ∧ (y : Int) ≤ 57) = false := decide_eq_false (by omega)
                rw [dg] at C
                have W := Lib.hid (whole_bad4 false s i hi (by rw [BE.out]; exact hD))
                clear dg hD
                go_wp2_with fail
                (((with_reducible refine (C.out _).mono ?_); rintro e w2 ⟨rfl, hb2⟩); replace HB := Lib.hid (HB.out.trans (hb2.mono HB.out.size)); clear hb2)
                go_wp2_with fail
                go_ret2
                exact ⟨by rw [HS.out, W.out]; rfl, HB.out⟩
            · have i1 : ¬ (i : Int) < s.size := by omega
              have et : s.data.toList.take i = s.data.toList := List.take_of_length_le (by rw [HL.out]; omega)
              have W := Lib.hid (wholeD_ok false s.data.toList (by
                have ha := A.out
                rw [et] at ha
                rw [not_or, not_or, not_or]
                exact ⟨by rw [HL.out]; omega, by rw [HL.out]; omega, (by first | exact HH.out | (have q := HH.out; simpa using q)), fun q => q (List.all_eq_true.2 ha)⟩))
              have V2 := V.out
              rw [et] at V2
              rw [← V2] at W
              have w1 : IntKind.i64.wrap (-(n : Int)) = -(n : Int) := by rw [IntKind.wrap_i64]; omega
              clear et V2 hi hi7
              go_wp2_with fail
              go_ret2
              exact ⟨by rw [HS.out, W.out]; rfl, HB.out⟩
      · rw [decide_eq_false h48] at hh
        have q3 : ((y0 : Int) == 48) = false := by rw [beq_eq_false_iff_ne]; omega
        have HH : Hid (¬ (headZ s.data.toList = true ∧ (false = true ∨ 1 < s.data.toList.length))) := Lib.hid (by rw [hh]; simp)
        clear hh h48
        go_wp2_with fail
        go_loopw [6, 7] (fun nv ix wr => ∃ (i n : Nat), ix = .int .i64 i ∧ nv = .int .i64 n ∧ n = valD (s.data.toList.take i) ∧ i ≤ s.size ∧ (∀ b ∈ s.data.toList.take i, isD b = true) ∧ Below w.heap.size w wr) (fun _ ix _ => s.size - (intOf ix).toNat)
        case atStart => exact ⟨0, 0, rfl, rfl, rfl, Nat.zero_le _, fun b hb => (by simp at hb), HB.out⟩
        case round =>
          obtain ⟨i, n, rfl, rfl, hv, hi7, ha, hB⟩ := hrel
          replace HB := Lib.hid hB
          have hn9 : n ≤ 9999999 := by
            have v1 := valD_lt _ ha
            have v2 : (s.data.toList.take i).length ≤ 7 := by rw [List.length_take]; omega
            have v3 : 10 ^ (s.data.toList.take i).length ≤ 10 ^ 7 := Nat.pow_le_pow_right (by decide) v2
            omega
          have A := Lib.hid ha
          have V := Lib.hid hv
          clear hB ha hv
          by_cases hi : i < s.size
          · have i0 : (0 : Int) ≤ (i : Int) := by omega
            have i1 : (i : Int) < s.size := by omega
            have hn := (s[i]'hi).toNat_lt
            have T := Lib.hid (take_snoc s i hi)
            obtain ⟨y, hx⟩ : ∃ y, (s[i]'hi).toNat = y := ⟨_, rfl⟩
            have BE := Lib.hid hx
            rw [hx] at hn
            have C := Lib.hid (fun W => rdigit_any (y : Int) W)
            by_cases hD : 48 ≤ y ∧ y ≤ 57
            · have dg : decide ((48 : Int) ≤ (y : Int) ∧ (y : Int) ≤ 57) = true := decide_eq_true (by omega)
              rw [dg] at C
              have e1 : IntKind.i64.wrap (y : Int) = (y : Int) := by rw [IntKind.wrap_i64]; omega
              have e2 : IntKind.i64.wrap (10 * (n : Int)) = 10 * (n : Int) := by rw [IntKind.wrap_i64]; omega
              have e3 : IntKind.i64.wrap (10 * (n : Int) + y) = 10 * (n : Int) + y := by rw [IntKind.wrap_i64]; omega
              have e4 : IntKind.i64.wrap (10 * (n : Int) + y - 48) = 10 * (n : Int) + y - 48 := by rw [IntKind.wrap_i64]; omega
              have E : Hid ((10 * (n : Int) + y - 48) = ((10 * n + (y - 48) : Nat) : Int)) := Lib.hid (by omega)
              have ID := Lib.hid hD
              clear dg hD
              go_wp2_with fail
              (((with_reducible refine (C.out _).mono ?_); rintro e w2 ⟨rfl, hb2⟩); replace HB := Lib.hid (HB.out.trans (hb2.mono HB.out.size)); clear hb2)
              go_wp2_with fail
              go_roundw
              case rel => exact ⟨i + 1, 10 * n + (y - 48), by go_num, by rw [E.out], by rw [T.out, valD_snoc, ← V.out, BE.out], hi, (by
                rw [T.out]
                intro x hx
                rcases List.mem_append.1 hx with hx | hx
                · exact A.out x hx
                · rw [List.mem_singleton] at hx; subst hx; exact (isD_iff _).2 (by rw [BE.out]; exact ID.out)), HB.out⟩
              case measure => simp [intOf]; omega
            · have dg : decide ((48 : Int) ≤ (y : Int) ∧ (y : Int) ≤ 57) = false := decide_eq_false (by omega)
              rw [dg] at C
              have W := Lib.hid (whole_bad4 false s i hi (by rw [BE.out]; exact hD))
              clear dg hD
              go_wp2_with fail
              (((with_reducible refine (C.out _).mono ?_); rintro e w2 ⟨rfl, hb2⟩); replace HB := Lib.hid (HB.out.trans (hb2.mono HB.out.size)); clear hb2)
              go_wp2_with fail
              go_ret2
              exact ⟨by rw [HS.out, W.out]; rfl, HB.out⟩
          · have i1 : ¬ (i : Int) < s.size := by omega
            have et : s.data.toList.take i = s.data.toList := List.take_of_length_le (by rw [HL.out]; omega)
            have W := Lib.hid (wholeD_ok false s.data.toList (by
              have ha := A.out
              rw [et] at ha
              rw [not_or, not_or, not_or]
              exact ⟨by rw [HL.out]; omega, by rw [HL.out]; omega, (by first | exact HH.out | (have q := HH.out; simpa using q)), fun q => q (List.all_eq_true.2 ha)⟩))
            have V2 := V.out
            rw [et] at V2
            rw [← V2] at W
            have w1 : IntKind.i64.wrap (-(n : Int)) = -(n : Int) := by rw [IntKind.wrap_i64]; omega
            clear et V2 hi hi7
            go_wp2_with fail
            go_ret2
            exact ⟨by rw [HS.out, W.out]; rfl, HB.out⟩
theorem rwhole_none (s : ByteArray) (w : World) (h : s.size = 0) :
    Calls Tryd.prog 26 #[.string s] w fun e w' => e = retW (wholeS s.data.toList) ∧ Below w.heap.size w w' := by
  have HS := Lib.hid (whole_none s h)
  have hz1 : ¬ (0 : Int) < s.size := by omega
  have hz2 : decide ((0 : Int) < s.size) = false := decide_eq_false hz1
  have l1 : (s.size : Int) < 1 := by omega
  go_enter Tryd.func26, Tryd.ntmps26
  go_wp2_with fail
  go_ret2
  exact ⟨by rw [HS.out]; rfl, Below.refl _ _⟩
theorem rwhole_any (s : ByteArray) (w : World) (hm : s.size ≤ 100) :
    Calls Tryd.prog 26 #[.string s] w fun e w' => e = retW (wholeS s.data.toList) ∧ Below w.heap.size w w' := by
  by_cases h : s.size = 0
  · exact rwhole_none s w h
  · have hz : 0 < s.size := by omega
    by_cases h45 : (s[0]'hz).toNat = 45
    · exact rwhole_minus s w hz h45 hm
    · exact rwhole_plain s w hz h45 hm
end Go.Proofs.YtlpfijdjkaijeaaDoor
