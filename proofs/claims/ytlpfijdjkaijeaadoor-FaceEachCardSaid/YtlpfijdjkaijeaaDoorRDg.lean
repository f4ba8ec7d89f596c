/-
  The reference of layer 5: Digits.
-/
import Derived.Test.YtlpfijdjkaijeaaDoorRel
import Derived.Test.YtlpfijdjkaijeaaDoorPreD
import Derived.Test.YtlpfijdjkaijeaaDoorScE
namespace Go.Proofs.YtlpfijdjkaijeaaDoor
open Go.RowKit

theorem conv_dig (d : Nat) (hd : d ≤ 9) (W : World) : (convert 58 9 (.slice (some ⟨W.heap.size, 0, none⟩) 1 1)).run Tryd.prog (W.alloc (.cells #[.int .u8 (48 + (d : Int))] 5)) = .ok (.string ⟨#[UInt8.ofNat (48 + d)]⟩) (W.alloc (.cells #[.int .u8 (48 + (d : Int))] 5)) := by
  have hv := run_convert_bytes_back (P := Tryd.prog) (W.alloc (.cells #[.int .u8 (48 + (d : Int))] 5)) 58 9 5 ⟨W.heap.size, 0, none⟩ 1 [UInt8.ofNat (48 + d)] Tryd.underlying58 Tryd.underlying5 Tryd.underlying9 (fun j hj => by
    obtain rfl : j = 0 := by simpa using hj
    simp [Addr.add]
    omega)
  simp only [List.length_singleton] at hv
  exact hv
theorem dig_facts (m d : Nat) (h : m % 10 = d) : d ≤ 9 ∧ (m : Int).tmod 10 = (d : Int) ∧ IntKind.i64.wrap (d : Int) = (d : Int) ∧ IntKind.i64.wrap (48 + (d : Int)) = 48 + (d : Int) ∧ IntKind.u8.wrap (48 + (d : Int)) = 48 + (d : Int) := by
  refine ⟨by omega, ?_, ?_, ?_, ?_⟩
  · rw [Int.tmod_eq_emod_of_nonneg (by omega)]; omega
  · rw [IntKind.wrap_i64]; omega
  · rw [IntKind.wrap_i64]; omega
  · rw [IntKind.wrap_u8]; omega
theorem len_size {l : List UInt8} {k : Nat} (h : l.length ≤ k) : (⟨l.toArray⟩ : ByteArray).size ≤ k := by simpa only [ByteArray.size, List.size_toArray] using h
set_option maxRecDepth 100000 in
set_option maxHeartbeats 1000000 in
theorem digits_any (n : Nat) (w : World) (h : n ≤ 10000000) :
    Calls Tryd.prog 21 #[.int .i64 n] w fun e w' => e = .returned (.string ⟨(Lib.decDigits n).toArray⟩) ∧ Below w.heap.size w w' := by
  have HB := Lib.hid (Below.refl w.heap.size w)
  have LN : Hid ((Lib.decDigits n).length ≤ 8) := Lib.hid (by rw [Lib.decDigits_length]; exact nDig_le 8 _ (by decide) (by simp only [show (10 : Nat) ^ 8 = 100000000 from rfl]; omega))
  have PA := pre_all n
  obtain ⟨d, hd⟩ : ∃ d, n % 10 = d := ⟨_, rfl⟩
  rw [hd] at PA
  replace PA := Lib.hid PA
  obtain ⟨d9, a2, a3, a4, a5⟩ := dig_facts n d hd
  have hv := conv_dig d d9 w
  obtain ⟨B, hB⟩ : ∃ B : ByteArray, (⟨#[UInt8.ofNat (48 + d)]⟩ : ByteArray) = B := ⟨_, rfl⟩
  rw [hB] at hv
  replace hB := Lib.hid hB
  clear hd
  go_enter Tryd.func21, Tryd.ntmps21
  go_wp2_with fail
  clear hv
  have hbn := below_new1 w (.cells #[.int .u8 (48 + (d : Int))] 5)
  replace HB := Lib.hid (HB.out.trans (hbn.mono HB.out.size))
  clear hbn
  generalize w.alloc (.cells #[.int .u8 (48 + (d : Int))] 5) = V0 at *
  clear a2 a3 a4 a5
  go_loopw [0, 3] (fun x v wr => ∃ (m : Nat) (O : List UInt8), x = .int .i64 m ∧ m ≤ 10000000 ∧ Lib.decDigits n = preD m ++ O ∧ v = .string ⟨O.toArray⟩ ∧ Below w.heap.size w wr) (fun x _ _ => (intOf x).toNat)
  case atStart => exact ⟨n, [UInt8.ofNat (48 + d)], rfl, h, PA.out, by rw [← hB.out], HB.out⟩
  case round =>
    obtain ⟨m, O, rfl, hm, hO, rfl, hB'⟩ := hrel
    replace HB := Lib.hid hB'
    have LO : O.length ≤ 8 := by have := LN.out; rw [hO, List.length_append] at this; omega
    have HO := Lib.hid hO
    clear hB' hO PA hB d9
    by_cases h10 : m < 10
    · have c1 : ¬ (10 : Int) ≤ (m : Int) := by omega
      have E := Lib.hid (pre_end m h10)
      go_wp2_with fail
      go_ret
      exact ⟨by rw [HO.out, E.out]; rfl, HB.out⟩
    · have c1 : (10 : Int) ≤ (m : Int) := by omega
      have E := pre_step m h10
      have q1 : (m : Int).tdiv 10 = ((m / 10 : Nat) : Int) := by rw [Int.tdiv_eq_ediv_of_nonneg (by omega)]; omega
      have q2 : IntKind.i64.wrap ((m / 10 : Nat) : Int) = ((m / 10 : Nat) : Int) := by rw [IntKind.wrap_i64]; omega
      have q3 : m / 10 < m := by omega
      have q4 : m / 10 ≤ 10000000 := by omega
      generalize m / 10 = q at *
      obtain ⟨t, ht⟩ : ∃ t, q % 10 = t := ⟨_, rfl⟩
      rw [ht] at E
      replace E := Lib.hid E
      obtain ⟨t9, a2, a3, a4, a5⟩ := dig_facts q t ht
      have hv := conv_dig t t9 wr
      obtain ⟨B2, hB2⟩ : ∃ B : ByteArray, (⟨#[UInt8.ofNat (48 + t)]⟩ : ByteArray) = B := ⟨_, rfl⟩
      rw [hB2] at hv
      have l1 : B2.size ≤ 1 := by rw [← hB2]; exact Nat.le_refl _
      have hB3 : Hid (B2 ++ ⟨O.toArray⟩ = ⟨([UInt8.ofNat (48 + t)] ++ O).toArray⟩) := Lib.hid (by rw [← str_add, ← hB2])
      obtain ⟨S, hS⟩ : ∃ S : ByteArray, (⟨O.toArray⟩ : ByteArray) = S := ⟨_, rfl⟩
      have l2 : S.size ≤ 8 := by rw [← hS]; exact len_size LO
      rw [hS] at hB3 ⊢
      clear ht hB2 hS
      go_wp2_with fail
      clear hv
      have hbn := below_new1 wr (.cells #[.int .u8 (48 + (t : Int))] 5)
      replace HB := Lib.hid (HB.out.trans (hbn.mono HB.out.size))
      clear hbn
      go_roundw
      case rel => exact ⟨q, [UInt8.ofNat (48 + t)] ++ O, rfl, q4, by rw [HO.out, E.out, List.append_assoc], by rw [hB3.out], HB.out⟩
      case measure => simp [intOf]; omega
end Go.Proofs.YtlpfijdjkaijeaaDoor
