/-
  The reference of layer 5: Digits, Print.
-/
import Derived.Test.YtehfmapbodjppaaDoorScRP
import Derived.Test.YtehfmapbodjppaaDoorScE
namespace Go.Proofs.YtehfmapbodjppaaDoor
open Go.RowKit

theorem conv_dig (d : Nat) (hd : d ≤ 9) (W : World) : (convert 37 9 (.slice (some ⟨W.heap.size, 0, none⟩) 1 1)).run Tryd.prog (W.alloc (.cells #[.int .u8 (48 + (d : Int))] 5)) = .ok (.string ⟨#[UInt8.ofNat (48 + d)]⟩) (W.alloc (.cells #[.int .u8 (48 + (d : Int))] 5)) := by
  have hv := run_convert_bytes_back (P := Tryd.prog) (W.alloc (.cells #[.int .u8 (48 + (d : Int))] 5)) 37 9 5 ⟨W.heap.size, 0, none⟩ 1 [UInt8.ofNat (48 + d)] Tryd.underlying37 Tryd.underlying5 Tryd.underlying9 (fun j hj => by
    obtain rfl : j = 0 := by simpa using hj
    simp [Addr.add]
    omega)
  simp only [List.length_singleton] at hv
  exact hv
theorem dig_facts (m d : Nat) (h : m % 10 = d) : d ≤ 9 ∧ (m : Int).tmod 10 = (d : Int) ∧ IntKind.i64.wrap (d : Int) = (d : Int) ∧ IntKind.i64.wrap (48 + (d : Int)) = 48 + (d : Int) ∧ IntKind.u8.wrap (48 + (d : Int)) = 48 + (d : Int) := by
  refine ⟨by omega, ?_, ?_, ?_, ?_⟩
  · rw [Int.tmod_eq_emod_of_nonneg (by omega)]; omega
  · rw [IntKind.wrap_i64]; omega
  · rw [IntKind.wrap_i64]; omega
  · rw [IntKind.wrap_u8]; omega
theorem len_size {l : List UInt8} {k : Nat} (h : l.length ≤ k) : (⟨l.toArray⟩ : ByteArray).size ≤ k := by simpa only [ByteArray.size, List.size_toArray] using h
set_option maxRecDepth 100000 in
set_option maxHeartbeats 1000000 in
theorem digits_any (n : Nat) (w : World) (h : n ≤ 1000000) :
    Calls Tryd.prog 27 #[.int .i64 n] w fun e w' => e = .returned (.string ⟨(Lib.decDigits n).toArray⟩) ∧ Below w.heap.size w w' := by
  have HB := Lib.hid (Below.refl w.heap.size w)
  have LN : Hid ((Lib.decDigits n).length ≤ 7) := Lib.hid (by rw [Lib.decDigits_length]; exact nDig_le 7 _ (by decide) (by simp only [show (10 : Nat) ^ 7 = 10000000 from rfl]; omega))
  have PA := pre_all n
  obtain ⟨d, hd⟩ : ∃ d, n % 10 = d := ⟨_, rfl⟩
  rw [hd] at PA
  replace PA := Lib.hid PA
  obtain ⟨d9, a2, a3, a4, a5⟩ := dig_facts n d hd
  have hv := conv_dig d d9 w
  obtain ⟨B, hB⟩ : ∃ B : ByteArray, (⟨#[UInt8.ofNat (48 + d)]⟩ : ByteArray) = B := ⟨_, rfl⟩
  rw [hB] at hv
  replace hB := Lib.hid hB
  clear hd
  go_enter Tryd.func27, Tryd.ntmps27
  go_wp2_with fail
  clear hv
  have hbn := below_new1 w (.cells #[.int .u8 (48 + (d : Int))] 5)
  replace HB := Lib.hid (HB.out.trans (hbn.mono HB.out.size))
  clear hbn
  generalize w.alloc (.cells #[.int .u8 (48 + (d : Int))] 5) = V0 at *
  clear a2 a3 a4 a5
  go_loopw [0, 3] (fun x v wr => ∃ (m : Nat) (O : List UInt8), x = .int .i64 m ∧ m ≤ 1000000 ∧ Lib.decDigits n = preD m ++ O ∧ v = .string ⟨O.toArray⟩ ∧ Below w.heap.size w wr) (fun x _ _ => (intOf x).toNat)
  case atStart => exact ⟨n, [UInt8.ofNat (48 + d)], rfl, h, PA.out, by rw [← hB.out], HB.out⟩
  case round =>
    obtain ⟨m, O, rfl, hm, hO, rfl, hB'⟩ := hrel
    replace HB := Lib.hid hB'
    have LO : O.length ≤ 7 := by have := LN.out; rw [hO, List.length_append] at this; omega
    have HO := Lib.hid hO
    clear hB' hO PA hB d9
    by_cases h10 : m < 10
    · have c1 : ¬ (10 : Int) ≤ (m : Int) := by omega
      have E := Lib.hid (pre_end m h10)
      go_wp2_with fail
      go_ret
      exact ⟨by rw [HO.out, E.out]; rfl, HB.out⟩
    · have c1 : (10 : Int) ≤ (m : Int) := by omega
      have E := pre_step m h10
      have q1 : (m : Int).tdiv 10 = ((m / 10 : Nat) : Int) := by rw [Int.tdiv_eq_ediv_of_nonneg (by omega)]; omega
      have q2 : IntKind.i64.wrap ((m / 10 : Nat) : Int) = ((m / 10 : Nat) : Int) := by rw [IntKind.wrap_i64]; omega
      have q3 : m / 10 < m := by omega
      have q4 : m / 10 ≤ 1000000 := by omega
      generalize m / 10 = q at *
      obtain ⟨t, ht⟩ : ∃ t, q % 10 = t := ⟨_, rfl⟩
      rw [ht] at E
      replace E := Lib.hid E
      obtain ⟨t9, a2, a3, a4, a5⟩ := dig_facts q t ht
      have hv := conv_dig t t9 wr
      obtain ⟨B2, hB2⟩ : ∃ B : ByteArray, (⟨#[UInt8.ofNat (48 + t)]⟩ : ByteArray) = B := ⟨_, rfl⟩
      rw [hB2] at hv
      have l1 : B2.size ≤ 1 := by rw [← hB2]; exact Nat.le_refl _
      have hB3 : Hid (B2 ++ ⟨O.toArray⟩ = ⟨([UInt8.ofNat (48 + t)] ++ O).toArray⟩) := Lib.hid (by rw [← str_add, ← hB2])
      obtain ⟨S, hS⟩ : ∃ S : ByteArray, (⟨O.toArray⟩ : ByteArray) = S := ⟨_, rfl⟩
      have l2 : S.size ≤ 7 := by rw [← hS]; exact len_size LO
      rw [hS] at hB3 ⊢
      clear ht hB2 hS
      go_wp2_with fail
      clear hv
      have hbn := below_new1 wr (.cells #[.int .u8 (48 + (t : Int))] 5)
      replace HB := Lib.hid (HB.out.trans (hbn.mono HB.out.size))
      clear hbn
      go_roundw
      case rel => exact ⟨q, [UInt8.ofNat (48 + t)] ++ O, rfl, q4, by rw [HO.out, E.out, List.append_assoc], by rw [hB3.out], HB.out⟩
      case measure => simp [intOf]; omega

theorem printS_len (n : Int) (h : -1048576 ≤ n ∧ n ≤ 1048576) : (printS n).length ≤ 30 := by
  obtain ⟨c, t, e1, -, e2, -⟩ := printU_scan false n.natAbs
  have e2 := e2 (by omega)
  unfold printS
  rw [e1]
  split
  · simp only [List.length_cons]; omega
  · simp only [List.length_cons]; omega
set_option maxRecDepth 100000 in
set_option maxHeartbeats 4000000 in
theorem rprint_any (n : Int) (w : World) :
    Calls Tryd.prog 14 #[.int .i64 n] w fun e w' => e = retT (printA n) ∧ Below w.heap.size w w' := by
  have HB := Lib.hid (Below.refl w.heap.size w)
  by_cases h : -1048576 ≤ n ∧ n ≤ 1048576
  · have hA : printA n = (printS n, 0) := by unfold printA; rw [if_pos h]
    rw [hA]
    clear hA
    by_cases hn : n < 0
    · have e : (n.natAbs : Int) = -n := by omega
      have C1 := Lib.hid (fun W => digits_any (n.natAbs / 256) W (by omega))
      have LN := Lib.hid (printS_len n h)
      have PS0 : Hid (printS n = [45] ++ (Lib.decDigits (n.natAbs / 256) ++ (if n.natAbs % 256 = 0 then [] else 46 :: fracF 8 (n.natAbs % 256)))) := Lib.hid (by unfold printS printU; rw [if_pos hn]; rfl)
      have a1 : (-n : Int).tdiv 256 = ((n.natAbs / 256 : Nat) : Int) := by rw [← e, Int.tdiv_eq_ediv_of_nonneg (by omega)]; omega
      have a2 : (-n : Int).tmod 256 = ((n.natAbs % 256 : Nat) : Int) := by rw [← e, Int.tmod_eq_emod_of_nonneg (by omega)]; omega
      have a3 : IntKind.i64.wrap ((n.natAbs / 256 : Nat) : Int) = ((n.natAbs / 256 : Nat) : Int) := by rw [IntKind.wrap_i64]; omega
      have a4 : IntKind.i64.wrap ((n.natAbs % 256 : Nat) : Int) = ((n.natAbs % 256 : Nat) : Int) := by rw [IntKind.wrap_i64]; omega
      have a5 : IntKind.i64.wrap (-n) = -n := by rw [IntKind.wrap_i64]; omega
      have LD : (Lib.decDigits (n.natAbs / 256)).length ≤ 7 := by rw [Lib.decDigits_length]; exact nDig_le 7 _ (by decide) (by simp only [show (10 : Nat) ^ 7 = 10000000 from rfl]; omega)
      have hr : n.natAbs % 256 < 256 := Nat.mod_lt _ (by decide)
      generalize n.natAbs / 256 = q at *
      generalize n.natAbs % 256 = r at *
      have h1 : ¬ n < -1048576 := by omega
      have h2 : ¬ 1048576 < n := by omega
      by_cases h0 : r = 0
      · subst h0
        obtain ⟨D, hD⟩ : ∃ S : ByteArray, (⟨(Lib.decDigits q).toArray⟩ : ByteArray) = S := ⟨_, rfl⟩
        have l2 : D.size ≤ 7 := by rw [← hD]; exact len_size LD
        have P0 : Hid (⟨#[45]⟩ ++ D = ⟨([45] ++ Lib.decDigits q).toArray⟩) := Lib.hid (by rw [← str_add, hD])
        have PS : Hid (printS n = ([45] ++ Lib.decDigits q) ++ fracF 8 0) := Lib.hid (by rw [PS0.out, if_pos rfl, frac_nought]; simp)
        rw [hD] at C1
        clear hD LD PS0 e
        go_enter Tryd.func14, Tryd.ntmps14
        go_wp2_with fail
        (((with_reducible refine (C1.out _).mono ?_); rintro e w1 ⟨rfl, hb1⟩); replace HB := Lib.hid (HB.out.trans (hb1.mono HB.out.size)); clear hb1)
        go_wp2_with fail
        go_loopw [4, 5] (fun v x wr => ∃ (O : List UInt8) (r : Nat), v = .string ⟨O.toArray⟩ ∧ x = .int .i64 r ∧ r < 256 ∧ printS n = O ++ fracF 8 r ∧ Below w.heap.size w wr) (fun _ x _ => (fracF 8 (intOf x).toNat).length)
        case atStart => exact ⟨[45] ++ Lib.decDigits q, 0, by rw [← P0.out], rfl, hr, PS.out, HB.out⟩
        case round =>
          clear P0 PS hr
          obtain ⟨O, r, rfl, rfl, hr, hO, hB⟩ := hrel
          replace HB := Lib.hid hB
          have LO : O.length ≤ 30 := by have := LN.out; rw [hO, List.length_append] at this; omega
          have HO := Lib.hid hO
          clear hB hO
          by_cases h0 : r = 0
          · subst h0
            go_wp2_with fail
            go_ret2
            exact ⟨by rw [HO.out, frac_nought, List.append_nil]; rfl, HB.out⟩
          · have c1 : (0 : Int) < (r : Int) := by omega
            have c2 : 0 < r := by omega
            obtain ⟨f1, f2⟩ := frac_step r hr h0
            have C2 := Lib.hid (fun W => digits_any (10 * r / 256) W (by omega))
            have LD : (Lib.decDigits (10 * r / 256)).length ≤ 1 := by rw [Lib.decDigits_one (by omega)]; exact Nat.le_refl _
            have q0 : IntKind.i64.wrap (10 * (r : Int)) = 10 * (r : Int) := by rw [IntKind.wrap_i64]; omega
            have q1 : (10 * (r : Int)).tdiv 256 = ((10 * r / 256 : Nat) : Int) := by rw [Int.tdiv_eq_ediv_of_nonneg (by omega)]; omega
            have q2 : IntKind.i64.wrap ((10 * r / 256 : Nat) : Int) = ((10 * r / 256 : Nat) : Int) := by rw [IntKind.wrap_i64]; omega
            have q3 : (10 * (r : Int)).tmod 256 = ((10 * r % 256 : Nat) : Int) := by rw [Int.tmod_eq_emod_of_nonneg (by omega)]; omega
            have q4 : IntKind.i64.wrap ((10 * r % 256 : Nat) : Int) = ((10 * r % 256 : Nat) : Int) := by rw [IntKind.wrap_i64]; omega
            have q5 : 10 * r % 256 < 256 := Nat.mod_lt _ (by decide)
            generalize 10 * r / 256 = q at *
            generalize 10 * r % 256 = t at *
            have F1 := Lib.hid f1
            have F2 := Lib.hid f2
            have SA : Hid ((⟨O.toArray⟩ : ByteArray) ++ ⟨(Lib.decDigits q).toArray⟩ = ⟨(O ++ Lib.decDigits q).toArray⟩) := Lib.hid (str_add _ _)
            obtain ⟨S, hS⟩ : ∃ S : ByteArray, (⟨O.toArray⟩ : ByteArray) = S := ⟨_, rfl⟩
            obtain ⟨D, hD⟩ : ∃ S : ByteArray, (⟨(Lib.decDigits q).toArray⟩ : ByteArray) = S := ⟨_, rfl⟩
            have l1 : S.size ≤ 30 := by rw [← hS]; exact len_size LO
            have l2 : D.size ≤ 1 := by rw [← hD]; exact len_size LD
            rw [hD] at C2
            rw [hS] at SA ⊢
            rw [hD] at SA
            clear hS hD LO LD f1 f2
            go_wp2_with fail
            (((with_reducible refine (C2.out _).mono ?_); rintro e w2 ⟨rfl, hb2⟩); replace HB := Lib.hid (HB.out.trans (hb2.mono HB.out.size)); clear hb2)
            go_wp2_with fail
            go_roundw
            case rel => exact ⟨O ++ Lib.decDigits q, t, by rw [SA.out], rfl, q5, by rw [HO.out, F1.out, List.append_assoc], HB.out⟩
            case measure => simp [intOf]; exact F2.out
      · have c1 : (0 : Int) < (r : Int) := by omega
        have c2 : 0 < r := by omega
        obtain ⟨D, hD⟩ : ∃ S : ByteArray, (⟨(Lib.decDigits q).toArray⟩ : ByteArray) = S := ⟨_, rfl⟩
        have l2 : D.size ≤ 7 := by rw [← hD]; exact len_size LD
        have P0 : Hid (⟨#[45]⟩ ++ D ++ ⟨#[46]⟩ = ⟨([45] ++ Lib.decDigits q ++ [46]).toArray⟩) := Lib.hid (by rw [← str_add, ← str_add, hD])
        have PS : Hid (printS n = ([45] ++ Lib.decDigits q ++ [46]) ++ fracF 8 r) := Lib.hid (by rw [PS0.out, if_neg h0]; simp)
        rw [hD] at C1
        clear hD LD PS0 e
        go_enter Tryd.func14, Tryd.ntmps14
        go_wp2_with fail
        (((with_reducible refine (C1.out _).mono ?_); rintro e w1 ⟨rfl, hb1⟩); replace HB := Lib.hid (HB.out.trans (hb1.mono HB.out.size)); clear hb1)
        go_wp2_with fail
        go_loopw [4, 5] (fun v x wr => ∃ (O : List UInt8) (r : Nat), v = .string ⟨O.toArray⟩ ∧ x = .int .i64 r ∧ r < 256 ∧ printS n = O ++ fracF 8 r ∧ Below w.heap.size w wr) (fun _ x _ => (fracF 8 (intOf x).toNat).length)
        case atStart => exact ⟨[45] ++ Lib.decDigits q ++ [46], r, by rw [← P0.out], rfl, hr, PS.out, HB.out⟩
        case round =>
          clear P0 PS hr
          obtain ⟨O, r, rfl, rfl, hr, hO, hB⟩ := hrel
          replace HB := Lib.hid hB
          have LO : O.length ≤ 30 := by have := LN.out; rw [hO, List.length_append] at this; omega
          have HO := Lib.hid hO
          clear hB hO
          by_cases h0 : r = 0
          · subst h0
            go_wp2_with fail
            go_ret2
            exact ⟨by rw [HO.out, frac_nought, List.append_nil]; rfl, HB.out⟩
          · have c1 : (0 : Int) < (r : Int) := by omega
            have c2 : 0 < r := by omega
            obtain ⟨f1, f2⟩ := frac_step r hr h0
            have C2 := Lib.hid (fun W => digits_any (10 * r / 256) W (by omega))
            have LD : (Lib.decDigits (10 * r / 256)).length ≤ 1 := by rw [Lib.decDigits_one (by omega)]; exact Nat.le_refl _
            have q0 : IntKind.i64.wrap (10 * (r : Int)) = 10 * (r : Int) := by rw [IntKind.wrap_i64]; omega
            have q1 : (10 * (r : Int)).tdiv 256 = ((10 * r / 256 : Nat) : Int) := by rw [Int.tdiv_eq_ediv_of_nonneg (by omega)]; omega
            have q2 : IntKind.i64.wrap ((10 * r / 256 : Nat) : Int) = ((10 * r / 256 : Nat) : Int) := by rw [IntKind.wrap_i64]; omega
            have q3 : (10 * (r : Int)).tmod 256 = ((10 * r % 256 : Nat) : Int) := by rw [Int.tmod_eq_emod_of_nonneg (by omega)]; omega
            have q4 : IntKind.i64.wrap ((10 * r % 256 : Nat) : Int) = ((10 * r % 256 : Nat) : Int) := by rw [IntKind.wrap_i64]; omega
            have q5 : 10 * r % 256 < 256 := Nat.mod_lt _ (by decide)
            generalize 10 * r / 256 = q at *
            generalize 10 * r % 256 = t at *
            have F1 := Lib.hid f1
            have F2 := Lib.hid f2
            have SA : Hid ((⟨O.toArray⟩ : ByteArray) ++ ⟨(Lib.decDigits q).toArray⟩ = ⟨(O ++ Lib.decDigits q).toArray⟩) := Lib.hid (str_add _ _)
            obtain ⟨S, hS⟩ : ∃ S : ByteArray, (⟨O.toArray⟩ : ByteArray) = S := ⟨_, rfl⟩
            obtain ⟨D, hD⟩ : ∃ S : ByteArray, (⟨(Lib.decDigits q).toArray⟩ : ByteArray) = S := ⟨_, rfl⟩
            have l1 : S.size ≤ 30 := by rw [← hS]; exact len_size LO
            have l2 : D.size ≤ 1 := by rw [← hD]; exact len_size LD
            rw [hD] at C2
            rw [hS] at SA ⊢
            rw [hD] at SA
            clear hS hD LO LD f1 f2
            go_wp2_with fail
            (((with_reducible refine (C2.out _).mono ?_); rintro e w2 ⟨rfl, hb2⟩); replace HB := Lib.hid (HB.out.trans (hb2.mono HB.out.size)); clear hb2)
            go_wp2_with fail
            go_roundw
            case rel => exact ⟨O ++ Lib.decDigits q, t, by rw [SA.out], rfl, q5, by rw [HO.out, F1.out, List.append_assoc], HB.out⟩
            case measure => simp [intOf]; exact F2.out
    · have e : (n.natAbs : Int) = n := by omega
      have C1 := Lib.hid (fun W => digits_any (n.natAbs / 256) W (by omega))
      have LN := Lib.hid (printS_len n h)
      have PS0 : Hid (printS n = [] ++ (Lib.decDigits (n.natAbs / 256) ++ (if n.natAbs % 256 = 0 then [] else 46 :: fracF 8 (n.natAbs % 256)))) := Lib.hid (by unfold printS printU; rw [if_neg hn]; rfl)
      have a1 : (n : Int).tdiv 256 = ((n.natAbs / 256 : Nat) : Int) := by rw [← e, Int.tdiv_eq_ediv_of_nonneg (by omega)]; omega
      have a2 : (n : Int).tmod 256 = ((n.natAbs % 256 : Nat) : Int) := by rw [← e, Int.tmod_eq_emod_of_nonneg (by omega)]; omega
      have a3 : IntKind.i64.wrap ((n.natAbs / 256 : Nat) : Int) = ((n.natAbs / 256 : Nat) : Int) := by rw [IntKind.wrap_i64]; omega
      have a4 : IntKind.i64.wrap ((n.natAbs % 256 : Nat) : Int) = ((n.natAbs % 256 : Nat) : Int) := by rw [IntKind.wrap_i64]; omega
      have a5 : IntKind.i64.wrap (n) = n := by rw [IntKind.wrap_i64]; omega
      have LD : (Lib.decDigits (n.natAbs / 256)).length ≤ 7 := by rw [Lib.decDigits_length]; exact nDig_le 7 _ (by decide) (by simp only [show (10 : Nat) ^ 7 = 10000000 from rfl]; omega)
      have hr : n.natAbs % 256 < 256 := Nat.mod_lt _ (by decide)
      generalize n.natAbs / 256 = q at *
      generalize n.natAbs % 256 = r at *
      have h1 : ¬ n < -1048576 := by omega
      have h2 : ¬ 1048576 < n := by omega
      by_cases h0 : r = 0
      · subst h0
        obtain ⟨D, hD⟩ : ∃ S : ByteArray, (⟨(Lib.decDigits q).toArray⟩ : ByteArray) = S := ⟨_, rfl⟩
        have l2 : D.size ≤ 7 := by rw [← hD]; exact len_size LD
        have P0 : Hid ((⟨#[]⟩ : ByteArray) ++ D = ⟨([] ++ Lib.decDigits q).toArray⟩) := Lib.hid (by rw [← str_add, hD])
        have PS : Hid (printS n = ([] ++ Lib.decDigits q) ++ fracF 8 0) := Lib.hid (by rw [PS0.out, if_pos rfl, frac_nought]; simp)
        rw [hD] at C1
        clear hD LD PS0 e
        go_enter Tryd.func14, Tryd.ntmps14
        go_wp2_with fail
        (((with_reducible refine (C1.out _).mono ?_); rintro e w1 ⟨rfl, hb1⟩); replace HB := Lib.hid (HB.out.trans (hb1.mono HB.out.size)); clear hb1)
        go_wp2_with fail
        go_loopw [4, 5] (fun v x wr => ∃ (O : List UInt8) (r : Nat), v = .string ⟨O.toArray⟩ ∧ x = .int .i64 r ∧ r < 256 ∧ printS n = O ++ fracF 8 r ∧ Below w.heap.size w wr) (fun _ x _ => (fracF 8 (intOf x).toNat).length)
        case atStart => exact ⟨[] ++ Lib.decDigits q, 0, by rw [← P0.out], rfl, hr, PS.out, HB.out⟩
        case round =>
          clear P0 PS hr
          obtain ⟨O, r, rfl, rfl, hr, hO, hB⟩ := hrel
          replace HB := Lib.hid hB
          have LO : O.length ≤ 30 := by have := LN.out; rw [hO, List.length_append] at this; omega
          have HO := Lib.hid hO
          clear hB hO
          by_cases h0 : r = 0
          · subst h0
            go_wp2_with fail
            go_ret2
            exact ⟨by rw [HO.out, frac_nought, List.append_nil]; rfl, HB.out⟩
          · have c1 : (0 : Int) < (r : Int) := by omega
            have c2 : 0 < r := by omega
            obtain ⟨f1, f2⟩ := frac_step r hr h0
            have C2 := Lib.hid (fun W => digits_any (10 * r / 256) W (by omega))
            have LD : (Lib.decDigits (10 * r / 256)).length ≤ 1 := by rw [Lib.decDigits_one (by omega)]; exact Nat.le_refl _
            have q0 : IntKind.i64.wrap (10 * (r : Int)) = 10 * (r : Int) := by rw [IntKind.wrap_i64]; omega
            have q1 : (10 * (r : Int)).tdiv 256 = ((10 * r / 256 : Nat) : Int) := by rw [Int.tdiv_eq_ediv_of_nonneg (by omega)]; omega
            have q2 : IntKind.i64.wrap ((10 * r / 256 : Nat) : Int) = ((10 * r / 256 : Nat) : Int) := by rw [IntKind.wrap_i64]; omega
            have q3 : (10 * (r : Int)).tmod 256 = ((10 * r % 256 : Nat) : Int) := by rw [Int.tmod_eq_emod_of_nonneg (by omega)]; omega
            have q4 : IntKind.i64.wrap ((10 * r % 256 : Nat) : Int) = ((10 * r % 256 : Nat) : Int) := by rw [IntKind.wrap_i64]; omega
            have q5 : 10 * r % 256 < 256 := Nat.mod_lt _ (by decide)
            generalize 10 * r / 256 = q at *
            generalize 10 * r % 256 = t at *
            have F1 := Lib.hid f1
            have F2 := Lib.hid f2
            have SA : Hid ((⟨O.toArray⟩ : ByteArray) ++ ⟨(Lib.decDigits q).toArray⟩ = ⟨(O ++ Lib.decDigits q).toArray⟩) := Lib.hid (str_add _ _)
            obtain ⟨S, hS⟩ : ∃ S : ByteArray, (⟨O.toArray⟩ : ByteArray) = S := ⟨_, rfl⟩
            obtain ⟨D, hD⟩ : ∃ S : ByteArray, (⟨(Lib.decDigits q).toArray⟩ : ByteArray) = S := ⟨_, rfl⟩
            have l1 : S.size ≤ 30 := by rw [← hS]; exact len_size LO
            have l2 : D.size ≤ 1 := by rw [← hD]; exact len_size LD
            rw [hD] at C2
            rw [hS] at SA ⊢
            rw [hD] at SA
            clear hS hD LO LD f1 f2
            go_wp2_with fail
            (((with_reducible refine (C2.out _).mono ?_); rintro e w2 ⟨rfl, hb2⟩); replace HB := Lib.hid (HB.out.trans (hb2.mono HB.out.size)); clear hb2)
            go_wp2_with fail
            go_roundw
            case rel => exact ⟨O ++ Lib.decDigits q, t, by rw [SA.out], rfl, q5, by rw [HO.out, F1.out, List.append_assoc], HB.out⟩
            case measure => simp [intOf]; exact F2.out
      · have c1 : (0 : Int) < (r : Int) := by omega
        have c2 : 0 < r := by omega
        obtain ⟨D, hD⟩ : ∃ S : ByteArray, (⟨(Lib.decDigits q).toArray⟩ : ByteArray) = S := ⟨_, rfl⟩
        have l2 : D.size ≤ 7 := by rw [← hD]; exact len_size LD
        have P0 : Hid ((⟨#[]⟩ : ByteArray) ++ D ++ ⟨#[46]⟩ = ⟨([] ++ Lib.decDigits q ++ [46]).toArray⟩) := Lib.hid (by rw [← str_add, ← str_add, hD])
        have PS : Hid (printS n = ([] ++ Lib.decDigits q ++ [46]) ++ fracF 8 r) := Lib.hid (by rw [PS0.out, if_neg h0]; simp)
        rw [hD] at C1
        clear hD LD PS0 e
        go_enter Tryd.func14, Tryd.ntmps14
        go_wp2_with fail
        (((with_reducible refine (C1.out _).mono ?_); rintro e w1 ⟨rfl, hb1⟩); replace HB := Lib.hid (HB.out.trans (hb1.mono HB.out.size)); clear hb1)
        go_wp2_with fail
        go_loopw [4, 5] (fun v x wr => ∃ (O : List UInt8) (r : Nat), v = .string ⟨O.toArray⟩ ∧ x = .int .i64 r ∧ r < 256 ∧ printS n = O ++ fracF 8 r ∧ Below w.heap.size w wr) (fun _ x _ => (fracF 8 (intOf x).toNat).length)
        case atStart => exact ⟨[] ++ Lib.decDigits q ++ [46], r, by rw [← P0.out], rfl, hr, PS.out, HB.out⟩
        case round =>
          clear P0 PS hr
          obtain ⟨O, r, rfl, rfl, hr, hO, hB⟩ := hrel
          replace HB := Lib.hid hB
          have LO : O.length ≤ 30 := by have := LN.out; rw [hO, List.length_append] at this; omega
          have HO := Lib.hid hO
          clear hB hO
          by_cases h0 : r = 0
          · subst h0
            go_wp2_with fail
            go_ret2
            exact ⟨by rw [HO.out, frac_nought, List.append_nil]; rfl, HB.out⟩
          · have c1 : (0 : Int) < (r : Int) := by omega
            have c2 : 0 < r := by omega
            obtain ⟨f1, f2⟩ := frac_step r hr h0
            have C2 := Lib.hid (fun W => digits_any (10 * r / 256) W (by omega))
            have LD : (Lib.decDigits (10 * r / 256)).length ≤ 1 := by rw [Lib.decDigits_one (by omega)]; exact Nat.le_refl _
            have q0 : IntKind.i64.wrap (10 * (r : Int)) = 10 * (r : Int) := by rw [IntKind.wrap_i64]; omega
            have q1 : (10 * (r : Int)).tdiv 256 = ((10 * r / 256 : Nat) : Int) := by rw [Int.tdiv_eq_ediv_of_nonneg (by omega)]; omega
            have q2 : IntKind.i64.wrap ((10 * r / 256 : Nat) : Int) = ((10 * r / 256 : Nat) : Int) := by rw [IntKind.wrap_i64]; omega
            have q3 : (10 * (r : Int)).tmod 256 = ((10 * r % 256 : Nat) : Int) := by rw [Int.tmod_eq_emod_of_nonneg (by omega)]; omega
            have q4 : IntKind.i64.wrap ((10 * r % 256 : Nat) : Int) = ((10 * r % 256 : Nat) : Int) := by rw [IntKind.wrap_i64]; omega
            have q5 : 10 * r % 256 < 256 := Nat.mod_lt _ (by decide)
            generalize 10 * r / 256 = q at *
            generalize 10 * r % 256 = t at *
            have F1 := Lib.hid f1
            have F2 := Lib.hid f2
            have SA : Hid ((⟨O.toArray⟩ : ByteArray) ++ ⟨(Lib.decDigits q).toArray⟩ = ⟨(O ++ Lib.decDigits q).toArray⟩) := Lib.hid (str_add _ _)
            obtain ⟨S, hS⟩ : ∃ S : ByteArray, (⟨O.toArray⟩ : ByteArray) = S := ⟨_, rfl⟩
            obtain ⟨D, hD⟩ : ∃ S : ByteArray, (⟨(Lib.decDigits q).toArray⟩ : ByteArray) = S := ⟨_, rfl⟩
            have l1 : S.size ≤ 30 := by rw [← hS]; exact len_size LO
            have l2 : D.size ≤ 1 := by rw [← hD]; exact len_size LD
            rw [hD] at C2
            rw [hS] at SA ⊢
            rw [hD] at SA
            clear hS hD LO LD f1 f2
            go_wp2_with fail
            (((with_reducible refine (C2.out _).mono ?_); rintro e w2 ⟨rfl, hb2⟩); replace HB := Lib.hid (HB.out.trans (hb2.mono HB.out.size)); clear hb2)
            go_wp2_with fail
            go_roundw
            case rel => exact ⟨O ++ Lib.decDigits q, t, by rw [SA.out], rfl, q5, by rw [HO.out, F1.out, List.append_assoc], HB.out⟩
            case measure => simp [intOf]; exact F2.out
  · have hA : printA n = ([], 5) := by unfold printA; rw [if_neg h]
    rw [hA]
    clear hA
    by_cases h0 : n < -1048576
    · clear h
      go_enter Tryd.func14, Tryd.ntmps14
      go_wp2_with fail
      go_ret2
      exact ⟨rfl, HB.out⟩
    · have h1 : 1048576 < n := by omega
      clear h
      go_enter Tryd.func14, Tryd.ntmps14
      go_wp2_with fail
      go_ret2
      exact ⟨rfl, HB.out⟩
end Go.Proofs.YtehfmapbodjppaaDoor
