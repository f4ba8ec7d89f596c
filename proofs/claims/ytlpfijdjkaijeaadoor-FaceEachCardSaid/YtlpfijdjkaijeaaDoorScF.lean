/-
  Package scan: Whole.
-/
import Derived.Test.YtlpfijdjkaijeaaDoorScA
import Derived.Test.YtlpfijdjkaijeaaDoorItS
namespace Go.Proofs.YtlpfijdjkaijeaaDoor
open Go.RowKit

/-- A sign cut off: what is left, and what it tells. -/
theorem cut_any (s : ByteArray) : ∃ (d : ByteArray) (bl : Bool), wholeS s.data.toList = wholeD bl d.data.toList ∧ d.size ≤ s.size ∧ ∀ w : World,
    Calls Tryd.prog 32 #[.string s, .string ⟨#[45]⟩] w fun e w' => e = .returned (.tuple #[.string d, .bool bl]) ∧ Below w.heap.size w w' := by
  refine ⟨⟨(Lib.trimPrefix s.data.toList [45]).toArray⟩, Lib.hasPrefix s.data.toList [45], ?_, ?_, fun w => ?_⟩
  · show wholeS _ = wholeD _ (Lib.trimPrefix s.data.toList [45])
    unfold Lib.trimPrefix Lib.hasPrefix
    match s.data.toList with
    | [] => rfl
    | b :: t =>
      show (if b.toNat = 45 then _ else _) = _
      by_cases h : b.toNat = 45
      · obtain rfl : b = 45 := UInt8.toNat_inj.1 h
        rw [if_pos h]; rfl
      · have h' : ¬ (45 : UInt8) = b := fun e => h (by rw [← e]; rfl)
        rw [if_neg h]
        have e : ([45] : List UInt8).isPrefixOf (b :: t) = false := by simp [List.isPrefixOf, h']
        rw [e]; rfl
  · simp only [ByteArray.size, List.size_toArray]
    unfold Lib.trimPrefix
    split <;> simp
  · exact (Tryd.strings_CutPrefix s ⟨#[45]⟩ w).mono fun e w' ⟨he, hw⟩ => ⟨he, hw ▸ Below.refl _ _⟩

def retW (p : Int × Int) : Ending := .returned (.tuple #[.int .i64 p.1, .int .i64 p.2])
theorem wholeD_bad (bl : Bool) (t : List UInt8) (h : t.length = 0 ∨ 7 < t.length ∨ (headZ t = true ∧ (bl = true ∨ 1 < t.length)) ∨ ¬ (t.all isD = true)) : wholeD bl t = (0, 6) := if_pos h
theorem wholeD_ok (bl : Bool) (t : List UInt8) (h : ¬ (t.length = 0 ∨ 7 < t.length ∨ (headZ t = true ∧ (bl = true ∨ 1 < t.length)) ∨ ¬ (t.all isD = true))) : wholeD bl t = (if bl = true then -((valD t : Nat) : Int) else ((valD t : Nat) : Int), 0) := if_neg h
theorem take_snoc (d : ByteArray) (i : Nat) (h : i < d.size) : d.data.toList.take (i + 1) = d.data.toList.take i ++ [d[i]'h] := by
  have h' : i < d.data.toList.length := by simpa using h
  rw [List.take_succ_eq_append_getElem h']
  rfl
theorem head_at (d : ByteArray) (h : 0 < d.size) : headZ d.data.toList = decide ((d[0]'h).toNat = 48) := by
  have := rest_at d 0 h
  rw [List.drop_zero] at this
  rw [this]; rfl
set_option maxRecDepth 100000 in
set_option maxHeartbeats 4000000 in
theorem whole_any (s : ByteArray) (w : World) :
    Calls Tryd.prog 25 #[.string s] w fun e w' => e = retW (wholeS s.data.toList) ∧ Below w.heap.size w w' := by
  have HB := Lib.hid (Below.refl w.heap.size w)
  obtain ⟨d, bl, hs, hd, c⟩ := cut_any s
  rw [hs]
  have C := Lib.hid c
  clear c hs hd
  have hl : d.data.toList.length = d.size := by simp
  by_cases h0 : d.size = 0
  · have W := Lib.hid (wholeD_bad bl d.data.toList (.inl (by omega)))
    have q0 : ((d.size : Int) == 0) = true := by rw [beq_iff_eq]; omega
    clear hl
    go_enter Tryd.func25, Tryd.ntmps25
    go_wp2_with fail
    (((with_reducible refine (C.out _).mono ?_); rintro e w1 ⟨rfl, hb1⟩); replace HB := Lib.hid (HB.out.trans (hb1.mono HB.out.size)); clear hb1)
    go_wp2_with fail
    go_ret2
    exact ⟨by rw [W.out]; rfl, HB.out⟩
  · have q0 : ((d.size : Int) == 0) = false := by rw [beq_eq_false_iff_ne]; omega
    by_cases h7 : 7 < d.size
    · have W := Lib.hid (wholeD_bad bl d.data.toList (.inr (.inl (by omega))))
      have q1 : (7 : Int) < d.size := by omega
      clear hl
      go_enter Tryd.func25, Tryd.ntmps25
      go_wp2_with fail
      (((with_reducible refine (C.out _).mono ?_); rintro e w1 ⟨rfl, hb1⟩); replace HB := Lib.hid (HB.out.trans (hb1.mono HB.out.size)); clear hb1)
      go_wp2_with fail
      go_ret2
      exact ⟨by rw [W.out]; rfl, HB.out⟩
    · have q1 : ¬ (7 : Int) < d.size := by omega
      have q1' : decide ((7 : Int) < d.size) = false := decide_eq_false q1
      have q2 : (0 : Nat) < d.size := by omega
      have hh := head_at d q2
      have HL := Lib.hid hl
      by_cases h48 : (d[0]'q2).toNat = 48
      · rw [decide_eq_true h48] at hh
        have q3 : (((d[0]'q2).toNat : Int) == 48) = true := by rw [beq_iff_eq]; omega
        cases bl with
        | true =>
          have W := Lib.hid (wholeD_bad true d.data.toList (.inr (.inr (.inl ⟨hh, .inl rfl⟩))))
          clear hl hh
          go_enter Tryd.func25, Tryd.ntmps25
          go_wp2_with fail
          (((with_reducible refine (C.out _).mono ?_); rintro e w1 ⟨rfl, hb1⟩); replace HB := Lib.hid (HB.out.trans (hb1.mono HB.out.size)); clear hb1)
          go_wp2_with fail
          go_ret2
          exact ⟨by rw [W.out]; rfl, HB.out⟩
        | false =>
          by_cases h1 : 1 < d.size
          · have W := Lib.hid (wholeD_bad false d.data.toList (.inr (.inr (.inl ⟨hh, .inr (by omega)⟩))))
            have q4 : (1 : Int) < d.size := by omega
            have q5 : decide ((1 : Int) < d.size) = true := decide_eq_true q4
            clear hl hh
            go_enter Tryd.func25, Tryd.ntmps25
            go_wp2_with fail
            (((with_reducible refine (C.out _).mono ?_); rintro e w1 ⟨rfl, hb1⟩); replace HB := Lib.hid (HB.out.trans (hb1.mono HB.out.size)); clear hb1)
            go_wp2_with fail
            go_ret2
            exact ⟨by rw [W.out]; rfl, HB.out⟩
          · have HH : Hid (¬ (headZ d.data.toList = true ∧ (false = true ∨ 1 < d.data.toList.length))) := Lib.hid (by rw [hl]; simp; omega)
            have q4 : ¬ (1 : Int) < d.size := by omega
            have q5 : decide ((1 : Int) < d.size) = false := decide_eq_false q4
            clear hl hh
            go_enter Tryd.func25, Tryd.ntmps25
            go_wp2_with fail
            (((with_reducible refine (C.out _).mono ?_); rintro e w1 ⟨rfl, hb1⟩); replace HB := Lib.hid (HB.out.trans (hb1.mono HB.out.size)); clear hb1)
            go_wp2_with fail
            have ki := Lib.hid (ItAt.new w1 d)
            have HZ := Lib.hid HB.out.size
            replace HB := Lib.hid (HB.out.trans (((Below.refl w1.heap.size w1).alloc (Nat.le_refl _) (.stringIter d 0)).mono HB.out.size))
            change Hid (Below w.heap.size w (w1.iter d 0)) at HB
            generalize w1.iter d 0 = Vi at *
            generalize w1.heap.size = k at *
            go_loopw [6] (fun x wr => ∃ (i n : Nat), x = .int .i64 n ∧ n = valD (d.data.toList.take i) ∧ i ≤ d.size ∧ (∀ b ∈ d.data.toList.take i, isD b = true) ∧ ItAt wr k d i ∧ Below w.heap.size w wr) (fun _ wr => d.size - wr.iterPos k)
            case atStart => exact ⟨0, 0, rfl, rfl, Nat.zero_le _, fun b hb => (by simp at hb), ki.out, HB.out⟩
            case round =>
              obtain ⟨i, n, rfl, hv, hi7, ha, k3, hB⟩ := hrel
              clear ki HB
              have hn9 : n ≤ 9999999 := by
                have v1 := valD_lt _ ha
                have v2 : (d.data.toList.take i).length ≤ 7 := by rw [List.length_take]; omega
                have v3 : 10 ^ (d.data.toList.take i).length ≤ 10 ^ 7 := Nat.pow_le_pow_right (by decide) v2
                omega
              by_cases hi : i < d.size
              · obtain ⟨r, wd, hd, r1, r2, r3⟩ := rune_of d i hi
                have hnx := next_at k3 hi hd
                obtain ⟨j, hj⟩ : ∃ j, i + wd = j := ⟨_, rfl⟩
                have HJ : Hid (wd = 1 → i + 1 = j) := Lib.hid (fun z => by omega)
                obtain ⟨z, hz⟩ : ∃ z : Int, (r : Int) = z := ⟨_, rfl⟩
                rw [hj, hz] at hnx
                clear hj hd
                have C := Lib.hid (fun W => isDigit_any z W)
                have HB := Lib.hid (Lib.below_iterAt hB HZ.out d j)
                have K3 := Lib.hid (k3.next j)
                have HI := Lib.hid k3.pos
                have A := Lib.hid ha
                have V := Lib.hid hv
                clear hB k3 ha hv
                have hn := (d[i]'hi).toNat_lt
                have T := Lib.hid (take_snoc d i hi)
                obtain ⟨b, hb⟩ : ∃ b, d[i]'hi = b := ⟨_, rfl⟩
                have HB2 := Lib.hid hb
                rw [hb] at r1 r2 hn T
                have hz1 : b.toNat < 128 → z = (b.toNat : Int) ∧ wd = 1 := fun q => ⟨by have := (r1 q).1; omega, (r1 q).2⟩
                have hz2 : 128 ≤ b.toNat → 128 ≤ z := fun q => by have := r2 q; omega
                have hz3 : 0 ≤ z ∧ z ≤ 2147483647 := by omega
                have HM : Hid (b ∈ d.data.toList) := Lib.hid (by
                  have := rest_at d i hi
                  rw [hb] at this
                  exact List.mem_of_mem_drop (i := i) (by rw [this]; simp))
                clear r1 r2 r3 hz hb
                by_cases hD : 48 ≤ b.toNat ∧ b.toNat ≤ 57
                · obtain ⟨hzz, hwd⟩ := hz1 (by omega)
                  have dg : decide ((48 : Int) ≤ z ∧ z ≤ 57) = true := decide_eq_true (by omega)
                  rw [dg] at C
                  obtain ⟨e, he⟩ : ∃ e : Int, z - 48 = e := ⟨_, rfl⟩
                  have e1 : IntKind.i32.wrap e = e := by rw [IntKind.wrap_i32]; omega
                  have e2 : IntKind.i64.wrap e = e := by rw [IntKind.wrap_i64]; omega
                  have e3 : IntKind.i64.wrap (10 * (n : Int)) = 10 * (n : Int) := by rw [IntKind.wrap_i64]; omega
                  have e4 : IntKind.i64.wrap (10 * (n : Int) + e) = 10 * (n : Int) + e := by rw [IntKind.wrap_i64]; omega
                  have E : Hid ((10 * (n : Int) + e) = ((10 * n + (b.toNat - 48) : Nat) : Int)) := Lib.hid (by omega)
                  clear hzz hz1 hz2 hz3 dg
                  go_wp2_with fail
                  (((with_reducible refine (C.out _).mono ?_); rintro e w2 ⟨rfl, hb2⟩); replace HB := Lib.hid (HB.out.trans (hb2.mono HB.out.size)); replace K3 := Lib.hid (K3.out.keep hb2); clear hb2)
                  go_wp2_with fail
                  go_roundw
                  case rel => exact ⟨i + 1, 10 * n + (b.toNat - 48), by rw [E.out], by rw [T.out, valD_snoc, ← V.out], hi, (by
                    rw [T.out]
                    intro x hx
                    rcases List.mem_append.1 hx with hx | hx
                    · exact A.out x hx
                    · rw [List.mem_singleton] at hx; subst hx; exact (isD_iff _).2 hD), (by rw [HJ.out hwd]; exact K3.out), HB.out⟩
                  case measure =>
                    have e := K3.out.pos
                    rw [HI.out, e, ← HJ.out hwd]; omega
                · have dg : decide ((48 : Int) ≤ z ∧ z ≤ 57) = false := decide_eq_false (by omega)
                  rw [dg] at C
                  have W := Lib.hid (wholeD_bad false d.data.toList (.inr (.inr (.inr (fun q => absurd ((isD_iff b).1 (List.all_eq_true.1 q b HM.out)) hD)))))
                  clear dg hz1 hz2 hz3 hD
                  go_wp2_with fail
                  (((with_reducible refine (C.out _).mono ?_); rintro e w2 ⟨rfl, hb2⟩); replace HB := Lib.hid (HB.out.trans (hb2.mono HB.out.size)); replace K3 := Lib.hid (K3.out.keep hb2); clear hb2)
                  go_wp2_with fail
                  go_ret2
                  exact ⟨by rw [W.out]; rfl, HB.out⟩
              · have hnx := next_end k3 hi
                have et : d.data.toList.take i = d.data.toList := List.take_of_length_le (by rw [HL.out]; omega)
                rw [et] at hv ha
                have W := Lib.hid (wholeD_ok false d.data.toList (by
                  rw [not_or, not_or, not_or]
                  exact ⟨by rw [HL.out]; omega, by rw [HL.out]; omega, HH.out, fun q => q (List.all_eq_true.2 ha)⟩))
                rw [← hv] at W
                have HB := Lib.hid hB
                clear hB hv ha et k3 hi hi7
                go_wp2_with fail
                go_ret2
                exact ⟨by rw [W.out]; rfl, HB.out⟩
      · rw [decide_eq_false h48] at hh
        have q3 : (((d[0]'q2).toNat : Int) == 48) = false := by rw [beq_eq_false_iff_ne]; omega
        have HH : Hid (¬ (headZ d.data.toList = true ∧ (bl = true ∨ 1 < d.data.toList.length))) := Lib.hid (by rw [hh]; simp)
        clear hl hh
        go_enter Tryd.func25, Tryd.ntmps25
        go_wp2_with fail
        (((with_reducible refine (C.out _).mono ?_); rintro e w1 ⟨rfl, hb1⟩); replace HB := Lib.hid (HB.out.trans (hb1.mono HB.out.size)); clear hb1)
        go_wp2_with fail
        have ki := Lib.hid (ItAt.new w1 d)
        have HZ := Lib.hid HB.out.size
        replace HB := Lib.hid (HB.out.trans (((Below.refl w1.heap.size w1).alloc (Nat.le_refl _) (.stringIter d 0)).mono HB.out.size))
        change Hid (Below w.heap.size w (w1.iter d 0)) at HB
        generalize w1.iter d 0 = Vi at *
        generalize w1.heap.size = k at *
        go_loopw [6] (fun x wr => ∃ (i n : Nat), x = .int .i64 n ∧ n = valD (d.data.toList.take i) ∧ i ≤ d.size ∧ (∀ b ∈ d.data.toList.take i, isD b = true) ∧ ItAt wr k d i ∧ Below w.heap.size w wr) (fun _ wr => d.size - wr.iterPos k)
        case atStart => exact ⟨0, 0, rfl, rfl, Nat.zero_le _, fun b hb => (by simp at hb), ki.out, HB.out⟩
        case round =>
          obtain ⟨i, n, rfl, hv, hi7, ha, k3, hB⟩ := hrel
          clear ki HB
          have hn9 : n ≤ 9999999 := by
            have v1 := valD_lt _ ha
            have v2 : (d.data.toList.take i).length ≤ 7 := by rw [List.length_take]; omega
            have v3 : 10 ^ (d.data.toList.take i).length ≤ 10 ^ 7 := Nat.pow_le_pow_right (by decide) v2
            omega
          by_cases hi : i < d.size
          · obtain ⟨r, wd, hd, r1, r2, r3⟩ := rune_of d i hi
            have hnx := next_at k3 hi hd
            obtain ⟨j, hj⟩ : ∃ j, i + wd = j := ⟨_, rfl⟩
            have HJ : Hid (wd = 1 → i + 1 = j) := Lib.hid (fun z => by omega)
            obtain ⟨z, hz⟩ : ∃ z : Int, (r : Int) = z := ⟨_, rfl⟩
            rw [hj, hz] at hnx
            clear hj hd
            have C := Lib.hid (fun W => isDigit_any z W)
            have HB := Lib.hid (Lib.below_iterAt hB HZ.out d j)
            have K3 := Lib.hid (k3.next j)
            have HI := Lib.hid k3.pos
            have A := Lib.hid ha
            have V := Lib.hid hv
            clear hB k3 ha hv
            have hn := (d[i]'hi).toNat_lt
            have T := Lib.hid (take_snoc d i hi)
            obtain ⟨b, hb⟩ : ∃ b, d[i]'hi = b := ⟨_, rfl⟩
            have HB2 := Lib.hid hb
            rw [hb] at r1 r2 hn T
            have hz1 : b.toNat < 128 → z = (b.toNat : Int) ∧ wd = 1 := fun q => ⟨by have := (r1 q).1; omega, (r1 q).2⟩
            have hz2 : 128 ≤ b.toNat → 128 ≤ z := fun q => by have := r2 q; omega
            have hz3 : 0 ≤ z ∧ z ≤ 2147483647 := by omega
            have HM : Hid (b ∈ d.data.toList) := Lib.hid (by
              have := rest_at d i hi
              rw [hb] at this
              exact List.mem_of_mem_drop (i := i) (by rw [this]; simp))
            clear r1 r2 r3 hz hb
            by_cases hD : 48 ≤ b.toNat ∧ b.toNat ≤ 57
            · obtain ⟨hzz, hwd⟩ := hz1 (by omega)
              have dg : decide ((48 : Int) ≤ z ∧ z ≤ 57) = true := decide_eq_true (by omega)
              rw [dg] at C
              obtain ⟨e, he⟩ : ∃ e : Int, z - 48 = e := ⟨_, rfl⟩
              have e1 : IntKind.i32.wrap e = e := by rw [IntKind.wrap_i32]; omega
              have e2 : IntKind.i64.wrap e = e := by rw [IntKind.wrap_i64]; omega
              have e3 : IntKind.i64.wrap (10 * (n : Int)) = 10 * (n : Int) := by rw [IntKind.wrap_i64]; omega
              have e4 : IntKind.i64.wrap (10 * (n : Int) + e) = 10 * (n : Int) + e := by rw [IntKind.wrap_i64]; omega
              have E : Hid ((10 * (n : Int) + e) = ((10 * n + (b.toNat - 48) : Nat) : Int)) := Lib.hid (by omega)
              clear hzz hz1 hz2 hz3 dg
              go_wp2_with fail
              (((with_reducible refine (C.out _).mono ?_); rintro e w2 ⟨rfl, hb2⟩); replace HB := Lib.hid (HB.out.trans (hb2.mono HB.out.size)); replace K3 := Lib.hid (K3.out.keep hb2); clear hb2)
              go_wp2_with fail
              go_roundw
              case rel => exact ⟨i + 1, 10 * n + (b.toNat - 48), by rw [E.out], by rw [T.out, valD_snoc, ← V.out], hi, (by
                rw [T.out]
                intro x hx
                rcases List.mem_append.1 hx with hx | hx
                · exact A.out x hx
                · rw [List.mem_singleton] at hx; subst hx; exact (isD_iff _).2 hD), (by rw [HJ.out hwd]; exact K3.out), HB.out⟩
              case measure =>
                have e := K3.out.pos
                rw [HI.out, e, ← HJ.out hwd]; omega
            · have dg : decide ((48 : Int) ≤ z ∧ z ≤ 57) = false := decide_eq_false (by omega)
              rw [dg] at C
              have W := Lib.hid (wholeD_bad bl d.data.toList (.inr (.inr (.inr (fun q => absurd ((isD_iff b).1 (List.all_eq_true.1 q b HM.out)) hD)))))
              clear dg hz1 hz2 hz3 hD
              go_wp2_with fail
              (((with_reducible refine (C.out _).mono ?_); rintro e w2 ⟨rfl, hb2⟩); replace HB := Lib.hid (HB.out.trans (hb2.mono HB.out.size)); replace K3 := Lib.hid (K3.out.keep hb2); clear hb2)
              go_wp2_with fail
              go_ret2
              exact ⟨by rw [W.out]; rfl, HB.out⟩
          · have hnx := next_end k3 hi
            have et : d.data.toList.take i = d.data.toList := List.take_of_length_le (by rw [HL.out]; omega)
            rw [et] at hv ha
            have W := Lib.hid (wholeD_ok bl d.data.toList (by
              rw [not_or, not_or, not_or]
              exact ⟨by rw [HL.out]; omega, by rw [HL.out]; omega, HH.out, fun q => q (List.all_eq_true.2 ha)⟩))
            rw [← hv] at W
            have HB := Lib.hid hB
            clear hB hv ha et k3 hi hi7
            have e5 : IntKind.i64.wrap (-(n : Int)) = -(n : Int) := by rw [IntKind.wrap_i64]; omega
            cases bl with
            | false =>
              go_wp2_with fail
              go_ret2
              exact ⟨by rw [W.out]; rfl, HB.out⟩
            | true =>
              go_wp2_with fail
              go_ret2
              exact ⟨by rw [W.out]; rfl, HB.out⟩
end Go.Proofs.YtlpfijdjkaijeaaDoor
