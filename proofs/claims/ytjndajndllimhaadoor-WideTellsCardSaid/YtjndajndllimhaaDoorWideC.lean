/-
  Contracts of package wide: digits, Text; over the library's Itoa and Repeat.
-/
import Derived.Test.YtjndajndllimhaaDoorWideB
import Derived.Test.YtjndajndllimhaaDoorShelf
import Derived.Lib.ItoaMem
import Derived.Lib.LaidTab
namespace Go.Proofs.YtjndajndllimhaaDoor
open Go.RowKit

/-- The library's table of powers of ten holds what its initialiser lays. -/
def Tab (w : World) : Prop := 0 < w.heap.size ∧ Lib.TabIs Tryd.prog w "internal/strconv.uint64pow10" .u64 Lib.pow10Tab
theorem gTab : Tryd.prog.globalNamed "internal/strconv.uint64pow10" = some 0 := by kernel_rfl
theorem Tab.below {w w' : World} (h : Tab w) (hb : Below w.heap.size w w') : Tab w' :=
  ⟨Nat.lt_of_lt_of_le h.1 hb.size, var?_below hb gTab h.1 h.2⟩

theorem below_grow (w : World) (k : Nat) (os : Array Obj) : Below w.heap.size w (Sort.grow (w.drewN k) os) :=
  ⟨rfl, rfl, rfl, by simp [Sort.grow], fun i hi => by simp [Sort.grow]; rw [Array.getElem?_append_left (by simpa using hi)]⟩

theorem itoa_any (n : Int) (w : World) (h0 : 0 ≤ n) (h1 : n ≤ 9223372036854775807) (ht : Tab w) :
    Calls Tryd.prog 42 #[.int .i64 n] w fun e w' => e = .returned (.string ⟨(Lib.decDigits n.toNat).toArray⟩) ∧ Below w.heap.size w w' :=
  (Tryd.strconv_Itoa n (by omega) h1 w ht.2).mono fun e w' ⟨he, k, os, hw⟩ => ⟨by
    obtain ⟨m, rfl⟩ := Int.eq_ofNat_of_zero_le h0
    rw [he, Lib.itoa_nonneg, Int.toNat_natCast], hw ▸ below_grow w k os⟩

theorem nDigits_le (k u : Nat) (hk : 1 ≤ k) (h : u < 10 ^ k) : Lib.nDigits u ≤ k := by
  induction k generalizing u with
  | zero => omega
  | succ k ih =>
    by_cases hu : u < 10
    · rw [Lib.nDigits_small hu]; omega
    · rw [Lib.nDigits_big hu]
      have hk' : 1 ≤ k := by
        rcases Nat.eq_zero_or_pos k with rfl | h'
        · simp at h; omega
        · exact h'
      have := ih (u / 10) hk' (by rw [Nat.pow_succ] at h; omega)
      omega

/-- The digits of a number that is not below 0: those of hi, then those of lo in 18 places. -/
def dgS (hi lo : Nat) : List UInt8 := if hi = 0 then Lib.decDigits lo else Lib.decDigits hi ++ Lib.repeatL [48] (18 - (Lib.decDigits lo).length) ++ Lib.decDigits lo

set_option maxHeartbeats 400000 in
theorem digits_zero (lo : Int) (w : World) (h0 : 0 ≤ lo) (h1 : lo < 1000000000000000000) (ht : Tab w) :
    Calls Tryd.prog 37 #[.agg #[.int .i64 0, .int .i64 lo]] w fun e w' => e = .returned (.string ⟨(dgS 0 lo.toNat).toArray⟩) ∧ Below w.heap.size w w' := by
  have E : (⟨(Lib.decDigits lo.toNat).toArray⟩ : ByteArray) = ⟨(dgS 0 lo.toNat).toArray⟩ := by unfold dgS; rw [if_pos rfl]
  generalize (⟨(dgS 0 lo.toNat).toArray⟩ : ByteArray) = S at E ⊢
  have c := fun (W : World) (hW : Tab W) => itoa_any lo W h0 (by omega) hW
  rw [E] at c
  have C := Lib.hid c
  have HT := Lib.hid ht
  clear E c ht
  go_enter Tryd.func37, Tryd.ntmps37
  go_wp2_with fail
  (refine (C.out _ (HT.out.below (by (repeat (first | exact Below.refl _ _ | assumption | refine Below.drew ?_ | refine below_drewN ?_ _ | refine Below.setCell ?_ (by first | omega | (simp; done) | (simp; omega)) _ | refine Below.alloc ?_ (by first | omega | (simp; done) | (simp; omega)) _))))).mono ?_; rintro e w1 ⟨rfl, hb⟩; obtain ⟨hc1, hf1⟩ := bcell hb; have hB1 : Below w.heap.size w w1 := (by refine Below.trans ?_ (hb.mono (by first | omega | (simp; done) | (simp; omega))); (repeat (first | exact Below.refl _ _ | assumption | refine Below.drew ?_ | refine below_drewN ?_ _ | refine Below.setCell ?_ (by first | omega | (simp; done) | (simp; omega)) _ | refine Below.alloc ?_ (by first | omega | (simp; done) | (simp; omega)) _))); have hs1 := hb.size; (try simp at hs1); (try have hz1_0 : w.heap.size < w1.heap.size := (by have := hb.size; (try simp at this); omega)); (try have hz1_1 : w.heap.size + 1 < w1.heap.size := (by have := hb.size; (try simp at this); omega)); (try have hz1_2 : w.heap.size + 2 < w1.heap.size := (by have := hb.size; (try simp at this); omega)); (try have hz1_3 : w.heap.size + 3 < w1.heap.size := (by have := hb.size; (try simp at this); omega)); (try have hz1_4 : w.heap.size + 4 < w1.heap.size := (by have := hb.size; (try simp at this); omega)); (try have hz1_5 : w.heap.size + 5 < w1.heap.size := (by have := hb.size; (try simp at this); omega)); (try have hc1_0 := fun o : Nat => hc1 (w.heap.size) o (by first | omega | (simp; done) | (simp; omega))); (try have hf1_0 := fun o : Nat => hf1 (w.heap.size) o (by first | omega | (simp; done) | (simp; omega))); (try have hc1_1 := fun o : Nat => hc1 (w.heap.size + 1) o (by first | omega | (simp; done) | (simp; omega))); (try have hf1_1 := fun o : Nat => hf1 (w.heap.size + 1) o (by first | omega | (simp; done) | (simp; omega))); (try have hc1_2 := fun o : Nat => hc1 (w.heap.size + 2) o (by first | omega | (simp; done) | (simp; omega))); (try have hf1_2 := fun o : Nat => hf1 (w.heap.size + 2) o (by first | omega | (simp; done) | (simp; omega))); (try have hc1_3 := fun o : Nat => hc1 (w.heap.size + 3) o (by first | omega | (simp; done) | (simp; omega))); (try have hf1_3 := fun o : Nat => hf1 (w.heap.size + 3) o (by first | omega | (simp; done) | (simp; omega))); clear hb)
  go_wp2_with fail
  go_ret
  exact ⟨rfl, by (repeat (first | exact Below.refl _ _ | assumption | refine Below.drew ?_ | refine below_drewN ?_ _ | refine Below.setCell ?_ (by first | omega | (simp; done) | (simp; omega)) _ | refine Below.alloc ?_ (by first | omega | (simp; done) | (simp; omega)) _))⟩

theorem ret_str {a b : ByteArray} (h : a = b) : Ending.returned (.string a) = .returned (.string b) := by rw [h]
theorem str_add (a b : List UInt8) : (⟨a.toArray⟩ : ByteArray) ++ ⟨b.toArray⟩ = ⟨(a ++ b).toArray⟩ := by
  apply ByteArray.ext; simp

set_option maxHeartbeats 400000 in
theorem digits_pos (hi lo : Int) (w : World) (h0 : 0 ≤ lo) (h1 : lo < 1000000000000000000) (k0 : 1 ≤ hi) (k1 : hi ≤ 9223372036854775807) (ht : Tab w) :
    Calls Tryd.prog 37 #[.agg #[.int .i64 hi, .int .i64 lo]] w fun e w' => e = .returned (.string ⟨(dgS hi.toNat lo.toNat).toArray⟩) ∧ Below w.heap.size w w' := by
  have hl : (Lib.decDigits lo.toNat).length ≤ 18 := by rw [Lib.decDigits_length]; exact nDigits_le 18 _ (by omega) (by omega)
  obtain ⟨S, hS⟩ : ∃ S : ByteArray, (⟨(Lib.decDigits lo.toNat).toArray⟩ : ByteArray) = S := ⟨_, rfl⟩
  obtain ⟨U, hU⟩ : ∃ U : ByteArray, (⟨(Lib.decDigits hi.toNat).toArray⟩ : ByteArray) = U := ⟨_, rfl⟩
  obtain ⟨V, hV⟩ : ∃ V : ByteArray, (⟨(Lib.repeatL [48] (18 - S.size)).toArray⟩ : ByteArray) = V := ⟨_, rfl⟩
  have hs : S.size = (Lib.decDigits lo.toNat).length := by rw [← hS]; simp [ByteArray.size]
  have hle : S.size ≤ 18 := by omega
  have E : U ++ V ++ S = ⟨(dgS hi.toNat lo.toNat).toArray⟩ := by
    unfold dgS; rw [if_neg (by omega), ← hs, ← hU, ← hV, ← hS, str_add, str_add]
  have cU := fun (W : World) (hW : Tab W) => itoa_any hi W (by omega) (by omega) hW
  have cS := fun (W : World) (hW : Tab W) => itoa_any lo W h0 (by omega) hW
  have cV := fun (W : World) => Tryd.strings_Repeat ⟨#[48]⟩ (18 - S.size) W (by omega) (by rw [show (⟨#[48]⟩ : ByteArray).size = 1 from rfl]; omega)
  rw [hU] at cU
  rw [hS] at cS
  have e48 : (⟨#[48]⟩ : ByteArray).data.toList = [48] := rfl
  rw [e48, show ((18 - S.size : Nat) : Int) = 18 - (S.size : Int) from by omega] at cV
  simp only [hV] at cV
  have C1 := Lib.hid cU
  have C2 := Lib.hid cS
  have C3 := Lib.hid cV
  have E2 := Lib.hid E
  have hu : U.size ≤ 19 := by
    rw [← hU]
    simp only [ByteArray.size, List.size_toArray, Lib.decDigits_length]
    exact nDigits_le 19 _ (by omega) (by omega)
  have hv : V.size ≤ 18 := by
    rw [← hV]
    simp only [ByteArray.size, List.size_toArray, Lib.repeatL_length]
    simp
  have HT := Lib.hid ht
  clear E cU cS cV ht hS hU hV hs e48 hl
  have z : (hi == 0) = false := by rw [beq_eq_false_iff_ne]; omega
  go_enter Tryd.func37, Tryd.ntmps37
  go_wp2_with fail
  (refine (C2.out _ (HT.out.below (by (repeat (first | exact Below.refl _ _ | assumption | refine Below.drew ?_ | refine below_drewN ?_ _ | refine Below.setCell ?_ (by first | omega | (simp; done) | (simp; omega)) _ | refine Below.alloc ?_ (by first | omega | (simp; done) | (simp; omega)) _))))).mono ?_; rintro e w1 ⟨rfl, hb⟩; obtain ⟨hc1, hf1⟩ := bcell hb; have hB1 : Below w.heap.size w w1 := (by refine Below.trans ?_ (hb.mono (by first | omega | (simp; done) | (simp; omega))); (repeat (first | exact Below.refl _ _ | assumption | refine Below.drew ?_ | refine below_drewN ?_ _ | refine Below.setCell ?_ (by first | omega | (simp; done) | (simp; omega)) _ | refine Below.alloc ?_ (by first | omega | (simp; done) | (simp; omega)) _))); have hs1 := hb.size; (try simp at hs1); (try have hz1_0 : w.heap.size < w1.heap.size := (by have := hb.size; (try simp at this); omega)); (try have hz1_1 : w.heap.size + 1 < w1.heap.size := (by have := hb.size; (try simp at this); omega)); (try have hz1_2 : w.heap.size + 2 < w1.heap.size := (by have := hb.size; (try simp at this); omega)); (try have hz1_3 : w.heap.size + 3 < w1.heap.size := (by have := hb.size; (try simp at this); omega)); (try have hz1_4 : w.heap.size + 4 < w1.heap.size := (by have := hb.size; (try simp at this); omega)); (try have hz1_5 : w.heap.size + 5 < w1.heap.size := (by have := hb.size; (try simp at this); omega)); (try have hc1_0 := fun o : Nat => hc1 (w.heap.size) o (by first | omega | (simp; done) | (simp; omega))); (try have hf1_0 := fun o : Nat => hf1 (w.heap.size) o (by first | omega | (simp; done) | (simp; omega))); (try have hc1_1 := fun o : Nat => hc1 (w.heap.size + 1) o (by first | omega | (simp; done) | (simp; omega))); (try have hf1_1 := fun o : Nat => hf1 (w.heap.size + 1) o (by first | omega | (simp; done) | (simp; omega))); (try have hc1_2 := fun o : Nat => hc1 (w.heap.size + 2) o (by first | omega | (simp; done) | (simp; omega))); (try have hf1_2 := fun o : Nat => hf1 (w.heap.size + 2) o (by first | omega | (simp; done) | (simp; omega))); (try have hc1_3 := fun o : Nat => hc1 (w.heap.size + 3) o (by first | omega | (simp; done) | (simp; omega))); (try have hf1_3 := fun o : Nat => hf1 (w.heap.size + 3) o (by first | omega | (simp; done) | (simp; omega))); clear hb)
  go_wp2_with fail
  (refine (C1.out _ (HT.out.below (by (repeat (first | exact Below.refl _ _ | assumption | refine Below.drew ?_ | refine below_drewN ?_ _ | refine Below.setCell ?_ (by first | omega | (simp; done) | (simp; omega)) _ | refine Below.alloc ?_ (by first | omega | (simp; done) | (simp; omega)) _))))).mono ?_; rintro e w2 ⟨rfl, hb⟩; obtain ⟨hc2, hf2⟩ := bcell hb; have hB2 : Below w.heap.size w w2 := (by refine Below.trans ?_ (hb.mono (by first | omega | (simp; done) | (simp; omega))); (repeat (first | exact Below.refl _ _ | assumption | refine Below.drew ?_ | refine below_drewN ?_ _ | refine Below.setCell ?_ (by first | omega | (simp; done) | (simp; omega)) _ | refine Below.alloc ?_ (by first | omega | (simp; done) | (simp; omega)) _))); have hs2 := hb.size; (try simp at hs2); (try have hz2_0 : w.heap.size < w2.heap.size := (by have := hb.size; (try simp at this); omega)); (try have hz2_1 : w.heap.size + 1 < w2.heap.size := (by have := hb.size; (try simp at this); omega)); (try have hz2_2 : w.heap.size + 2 < w2.heap.size := (by have := hb.size; (try simp at this); omega)); (try have hz2_3 : w.heap.size + 3 < w2.heap.size := (by have := hb.size; (try simp at this); omega)); (try have hz2_4 : w.heap.size + 4 < w2.heap.size := (by have := hb.size; (try simp at this); omega)); (try have hz2_5 : w.heap.size + 5 < w2.heap.size := (by have := hb.size; (try simp at this); omega)); (try have hc2_0 := fun o : Nat => hc2 (w.heap.size) o (by first | omega | (simp; done) | (simp; omega))); (try have hf2_0 := fun o : Nat => hf2 (w.heap.size) o (by first | omega | (simp; done) | (simp; omega))); (try have hc2_1 := fun o : Nat => hc2 (w.heap.size + 1) o (by first | omega | (simp; done) | (simp; omega))); (try have hf2_1 := fun o : Nat => hf2 (w.heap.size + 1) o (by first | omega | (simp; done) | (simp; omega))); (try have hc2_2 := fun o : Nat => hc2 (w.heap.size + 2) o (by first | omega | (simp; done) | (simp; omega))); (try have hf2_2 := fun o : Nat => hf2 (w.heap.size + 2) o (by first | omega | (simp; done) | (simp; omega))); (try have hc2_3 := fun o : Nat => hc2 (w.heap.size + 3) o (by first | omega | (simp; done) | (simp; omega))); (try have hf2_3 := fun o : Nat => hf2 (w.heap.size + 3) o (by first | omega | (simp; done) | (simp; omega))); clear hb)
  go_wp2_with fail
  (refine (C3.out _).mono ?_; rintro e w3 ⟨rfl, hb⟩; obtain ⟨hc3, hf3⟩ := bcell hb; have hB3 : Below w.heap.size w w3 := (by refine Below.trans ?_ (hb.mono (by first | omega | (simp; done) | (simp; omega))); (repeat (first | exact Below.refl _ _ | assumption | refine Below.drew ?_ | refine below_drewN ?_ _ | refine Below.setCell ?_ (by first | omega | (simp; done) | (simp; omega)) _ | refine Below.alloc ?_ (by first | omega | (simp; done) | (simp; omega)) _))); have hs3 := hb.size; (try simp at hs3); (try have hz3_0 : w.heap.size < w3.heap.size := (by have := hb.size; (try simp at this); omega)); (try have hz3_1 : w.heap.size + 1 < w3.heap.size := (by have := hb.size; (try simp at this); omega)); (try have hz3_2 : w.heap.size + 2 < w3.heap.size := (by have := hb.size; (try simp at this); omega)); (try have hz3_3 : w.heap.size + 3 < w3.heap.size := (by have := hb.size; (try simp at this); omega)); (try have hz3_4 : w.heap.size + 4 < w3.heap.size := (by have := hb.size; (try simp at this); omega)); (try have hz3_5 : w.heap.size + 5 < w3.heap.size := (by have := hb.size; (try simp at this); omega)); (try have hc3_0 := fun o : Nat => hc3 (w.heap.size) o (by first | omega | (simp; done) | (simp; omega))); (try have hf3_0 := fun o : Nat => hf3 (w.heap.size) o (by first | omega | (simp; done) | (simp; omega))); (try have hc3_1 := fun o : Nat => hc3 (w.heap.size + 1) o (by first | omega | (simp; done) | (simp; omega))); (try have hf3_1 := fun o : Nat => hf3 (w.heap.size + 1) o (by first | omega | (simp; done) | (simp; omega))); (try have hc3_2 := fun o : Nat => hc3 (w.heap.size + 2) o (by first | omega | (simp; done) | (simp; omega))); (try have hf3_2 := fun o : Nat => hf3 (w.heap.size + 2) o (by first | omega | (simp; done) | (simp; omega))); (try have hc3_3 := fun o : Nat => hc3 (w.heap.size + 3) o (by first | omega | (simp; done) | (simp; omega))); (try have hf3_3 := fun o : Nat => hf3 (w.heap.size + 3) o (by first | omega | (simp; done) | (simp; omega))); clear hb)
  go_wp2_with fail
  go_ret
  exact ⟨ret_str E2.out, by (repeat (first | exact Below.refl _ _ | assumption | refine Below.drew ?_ | refine below_drewN ?_ _ | refine Below.setCell ?_ (by first | omega | (simp; done) | (simp; omega)) _ | refine Below.alloc ?_ (by first | omega | (simp; done) | (simp; omega)) _))⟩
theorem digits_any (hi lo : Int) (w : World) (h0 : 0 ≤ lo) (h1 : lo < 1000000000000000000) (k0 : 0 ≤ hi) (k1 : hi ≤ 9223372036854775807) (ht : Tab w) :
    Calls Tryd.prog 37 #[.agg #[.int .i64 hi, .int .i64 lo]] w fun e w' => e = .returned (.string ⟨(dgS hi.toNat lo.toNat).toArray⟩) ∧ Below w.heap.size w w' := by
  by_cases h : hi = 0
  · subst h; exact digits_zero lo w h0 h1 ht
  · exact digits_pos hi lo w h0 h1 (by omega) k1 ht

theorem ng_rt (hi lo : Int) (h : Rt hi lo) (k : hi < 0) : Rt (ngH hi lo) (ngL lo) ∧ 0 ≤ ngH hi lo := by
  obtain ⟨b1, b2, b3, b4⟩ := h
  unfold Rt ngH ngL
  omega
/-- A right Wide's text. -/
def txtS (hi lo : Int) : List UInt8 := if hi < 0 then 45 :: dgS (ngH hi lo).toNat (ngL lo).toNat else dgS hi.toNat lo.toNat

set_option maxHeartbeats 400000 in
theorem text_arg (hi lo : Int) (w : World) (h : ¬ Rt hi lo) :
    Calls Tryd.prog 22 #[.agg #[.int .i64 hi, .int .i64 lo]] w fun e w' => e = .returned (.string ⟨#[]⟩) ∧ Below w.heap.size w w' := by
  have H := Lib.hid h
  clear h
  go_enter Tryd.func22, Tryd.ntmps22
  go_wp2_with fail
  (refine (is_no _ _ _ H.out).mono ?_; rintro e w1 ⟨rfl, hb⟩; obtain ⟨hc1, hf1⟩ := bcell hb; have hB1 : Below w.heap.size w w1 := (by refine Below.trans ?_ (hb.mono (by first | omega | (simp; done) | (simp; omega))); (repeat (first | exact Below.refl _ _ | assumption | refine Below.drew ?_ | refine below_drewN ?_ _ | refine Below.setCell ?_ (by first | omega | (simp; done) | (simp; omega)) _ | refine Below.alloc ?_ (by first | omega | (simp; done) | (simp; omega)) _))); have hs1 := hb.size; (try simp at hs1); (try have hz1_0 : w.heap.size < w1.heap.size := (by have := hb.size; (try simp at this); omega)); (try have hz1_1 : w.heap.size + 1 < w1.heap.size := (by have := hb.size; (try simp at this); omega)); (try have hz1_2 : w.heap.size + 2 < w1.heap.size := (by have := hb.size; (try simp at this); omega)); (try have hz1_3 : w.heap.size + 3 < w1.heap.size := (by have := hb.size; (try simp at this); omega)); (try have hz1_4 : w.heap.size + 4 < w1.heap.size := (by have := hb.size; (try simp at this); omega)); (try have hz1_5 : w.heap.size + 5 < w1.heap.size := (by have := hb.size; (try simp at this); omega)); (try have hc1_0 := fun o : Nat => hc1 (w.heap.size) o (by first | omega | (simp; done) | (simp; omega))); (try have hf1_0 := fun o : Nat => hf1 (w.heap.size) o (by first | omega | (simp; done) | (simp; omega))); (try have hc1_1 := fun o : Nat => hc1 (w.heap.size + 1) o (by first | omega | (simp; done) | (simp; omega))); (try have hf1_1 := fun o : Nat => hf1 (w.heap.size + 1) o (by first | omega | (simp; done) | (simp; omega))); (try have hc1_2 := fun o : Nat => hc1 (w.heap.size + 2) o (by first | omega | (simp; done) | (simp; omega))); (try have hf1_2 := fun o : Nat => hf1 (w.heap.size + 2) o (by first | omega | (simp; done) | (simp; omega))); (try have hc1_3 := fun o : Nat => hc1 (w.heap.size + 3) o (by first | omega | (simp; done) | (simp; omega))); (try have hf1_3 := fun o : Nat => hf1 (w.heap.size + 3) o (by first | omega | (simp; done) | (simp; omega))); clear hb)
  go_wp2_with fail
  go_ret
  exact ⟨rfl, by (repeat (first | exact Below.refl _ _ | assumption | refine Below.drew ?_ | refine below_drewN ?_ _ | refine Below.setCell ?_ (by first | omega | (simp; done) | (simp; omega)) _ | refine Below.alloc ?_ (by first | omega | (simp; done) | (simp; omega)) _))⟩
set_option maxHeartbeats 400000 in
theorem text_pos (hi lo : Int) (w : World) (h : Rt hi lo) (k : 0 ≤ hi) (ht : Tab w) :
    Calls Tryd.prog 22 #[.agg #[.int .i64 hi, .int .i64 lo]] w fun e w' => e = .returned (.string ⟨(txtS hi lo).toArray⟩) ∧ Below w.heap.size w w' := by
  have b : 0 ≤ lo ∧ lo < 1000000000000000000 ∧ -4000000000000000000 ≤ hi ∧ hi ≤ 4000000000000000000 := h
  obtain ⟨b1, b2, b3, b4⟩ := b
  have c := fun (W : World) (hW : Tab W) => digits_any hi lo W b1 b2 k (by omega) hW
  have E : dgS hi.toNat lo.toNat = txtS hi lo := by unfold txtS; rw [if_neg (by omega)]
  rw [E] at c
  have C := Lib.hid c
  have H := Lib.hid h
  have HT := Lib.hid ht
  clear h c E ht
  go_enter Tryd.func22, Tryd.ntmps22
  go_wp2_with fail
  (refine (is_yes _ _ _ H.out).mono ?_; rintro e w1 ⟨rfl, hb⟩; obtain ⟨hc1, hf1⟩ := bcell hb; have hB1 : Below w.heap.size w w1 := (by refine Below.trans ?_ (hb.mono (by first | omega | (simp; done) | (simp; omega))); (repeat (first | exact Below.refl _ _ | assumption | refine Below.drew ?_ | refine below_drewN ?_ _ | refine Below.setCell ?_ (by first | omega | (simp; done) | (simp; omega)) _ | refine Below.alloc ?_ (by first | omega | (simp; done) | (simp; omega)) _))); have hs1 := hb.size; (try simp at hs1); (try have hz1_0 : w.heap.size < w1.heap.size := (by have := hb.size; (try simp at this); omega)); (try have hz1_1 : w.heap.size + 1 < w1.heap.size := (by have := hb.size; (try simp at this); omega)); (try have hz1_2 : w.heap.size + 2 < w1.heap.size := (by have := hb.size; (try simp at this); omega)); (try have hz1_3 : w.heap.size + 3 < w1.heap.size := (by have := hb.size; (try simp at this); omega)); (try have hz1_4 : w.heap.size + 4 < w1.heap.size := (by have := hb.size; (try simp at this); omega)); (try have hz1_5 : w.heap.size + 5 < w1.heap.size := (by have := hb.size; (try simp at this); omega)); (try have hc1_0 := fun o : Nat => hc1 (w.heap.size) o (by first | omega | (simp; done) | (simp; omega))); (try have hf1_0 := fun o : Nat => hf1 (w.heap.size) o (by first | omega | (simp; done) | (simp; omega))); (try have hc1_1 := fun o : Nat => hc1 (w.heap.size + 1) o (by first | omega | (simp; done) | (simp; omega))); (try have hf1_1 := fun o : Nat => hf1 (w.heap.size + 1) o (by first | omega | (simp; done) | (simp; omega))); (try have hc1_2 := fun o : Nat => hc1 (w.heap.size + 2) o (by first | omega | (simp; done) | (simp; omega))); (try have hf1_2 := fun o : Nat => hf1 (w.heap.size + 2) o (by first | omega | (simp; done) | (simp; omega))); (try have hc1_3 := fun o : Nat => hc1 (w.heap.size + 3) o (by first | omega | (simp; done) | (simp; omega))); (try have hf1_3 := fun o : Nat => hf1 (w.heap.size + 3) o (by first | omega | (simp; done) | (simp; omega))); clear hb)
  go_wp2_with fail
  (refine (C.out _ (HT.out.below (by (repeat (first | exact Below.refl _ _ | assumption | refine Below.drew ?_ | refine below_drewN ?_ _ | refine Below.setCell ?_ (by first | omega | (simp; done) | (simp; omega)) _ | refine Below.alloc ?_ (by first | omega | (simp; done) | (simp; omega)) _))))).mono ?_; rintro e w2 ⟨rfl, hb⟩; obtain ⟨hc2, hf2⟩ := bcell hb; have hB2 : Below w.heap.size w w2 := (by refine Below.trans ?_ (hb.mono (by first | omega | (simp; done) | (simp; omega))); (repeat (first | exact Below.refl _ _ | assumption | refine Below.drew ?_ | refine below_drewN ?_ _ | refine Below.setCell ?_ (by first | omega | (simp; done) | (simp; omega)) _ | refine Below.alloc ?_ (by first | omega | (simp; done) | (simp; omega)) _))); have hs2 := hb.size; (try simp at hs2); (try have hz2_0 : w.heap.size < w2.heap.size := (by have := hb.size; (try simp at this); omega)); (try have hz2_1 : w.heap.size + 1 < w2.heap.size := (by have := hb.size; (try simp at this); omega)); (try have hz2_2 : w.heap.size + 2 < w2.heap.size := (by have := hb.size; (try simp at this); omega)); (try have hz2_3 : w.heap.size + 3 < w2.heap.size := (by have := hb.size; (try simp at this); omega)); (try have hz2_4 : w.heap.size + 4 < w2.heap.size := (by have := hb.size; (try simp at this); omega)); (try have hz2_5 : w.heap.size + 5 < w2.heap.size := (by have := hb.size; (try simp at this); omega)); (try have hc2_0 := fun o : Nat => hc2 (w.heap.size) o (by first | omega | (simp; done) | (simp; omega))); (try have hf2_0 := fun o : Nat => hf2 (w.heap.size) o (by first | omega | (simp; done) | (simp; omega))); (try have hc2_1 := fun o : Nat => hc2 (w.heap.size + 1) o (by first | omega | (simp; done) | (simp; omega))); (try have hf2_1 := fun o : Nat => hf2 (w.heap.size + 1) o (by first | omega | (simp; done) | (simp; omega))); (try have hc2_2 := fun o : Nat => hc2 (w.heap.size + 2) o (by first | omega | (simp; done) | (simp; omega))); (try have hf2_2 := fun o : Nat => hf2 (w.heap.size + 2) o (by first | omega | (simp; done) | (simp; omega))); (try have hc2_3 := fun o : Nat => hc2 (w.heap.size + 3) o (by first | omega | (simp; done) | (simp; omega))); (try have hf2_3 := fun o : Nat => hf2 (w.heap.size + 3) o (by first | omega | (simp; done) | (simp; omega))); clear hb)
  go_wp2_with fail
  go_ret
  exact ⟨rfl, by (repeat (first | exact Below.refl _ _ | assumption | refine Below.drew ?_ | refine below_drewN ?_ _ | refine Below.setCell ?_ (by first | omega | (simp; done) | (simp; omega)) _ | refine Below.alloc ?_ (by first | omega | (simp; done) | (simp; omega)) _))⟩
set_option maxHeartbeats 400000 in
theorem text_neg (hi lo : Int) (w : World) (h : Rt hi lo) (k : hi < 0) (ht : Tab w) :
    Calls Tryd.prog 22 #[.agg #[.int .i64 hi, .int .i64 lo]] w fun e w' => e = .returned (.string ⟨(txtS hi lo).toArray⟩) ∧ Below w.heap.size w w' := by
  obtain ⟨n, nz⟩ := ng_rt hi lo h k
  have n' : 0 ≤ ngL lo ∧ ngL lo < 1000000000000000000 ∧ -4000000000000000000 ≤ ngH hi lo ∧ ngH hi lo ≤ 4000000000000000000 := n
  obtain ⟨n1, n2, n3, n4⟩ := n'
  have c := fun (W : World) (hW : Tab W) => digits_any (ngH hi lo) (ngL lo) W n1 n2 nz (by omega) hW
  obtain ⟨S, hS⟩ : ∃ S : ByteArray, (⟨(dgS (ngH hi lo).toNat (ngL lo).toNat).toArray⟩ : ByteArray) = S := ⟨_, rfl⟩
  have hsz : S.size ≤ 100 := by
    rw [← hS]
    have a1 := nDigits_le 19 (ngH hi lo).toNat (by omega) (by omega)
    have a2 := nDigits_le 18 (ngL lo).toNat (by omega) (by omega)
    unfold dgS
    split <;> simp [ByteArray.size, Lib.decDigits_length, Lib.repeatL_length] <;> omega
  have E : (⟨#[45]⟩ : ByteArray) ++ S = ⟨(txtS hi lo).toArray⟩ := by
    unfold txtS; rw [if_pos k, ← hS, show (⟨#[45]⟩ : ByteArray) = ⟨[(45 : UInt8)].toArray⟩ from rfl, str_add]; rfl
  rw [hS] at c
  have hn := fun W : World => neg_ok hi lo W h n
  have C := Lib.hid c
  have H := Lib.hid h
  have HT := Lib.hid ht
  have N := Lib.hid hn
  have E2 := Lib.hid E
  clear h c E ht hn hS n
  go_enter Tryd.func22, Tryd.ntmps22
  go_wp2_with fail
  (refine (is_yes _ _ _ H.out).mono ?_; rintro e w1 ⟨rfl, hb⟩; obtain ⟨hc1, hf1⟩ := bcell hb; have hB1 : Below w.heap.size w w1 := (by refine Below.trans ?_ (hb.mono (by first | omega | (simp; done) | (simp; omega))); (repeat (first | exact Below.refl _ _ | assumption | refine Below.drew ?_ | refine below_drewN ?_ _ | refine Below.setCell ?_ (by first | omega | (simp; done) | (simp; omega)) _ | refine Below.alloc ?_ (by first | omega | (simp; done) | (simp; omega)) _))); have hs1 := hb.size; (try simp at hs1); (try have hz1_0 : w.heap.size < w1.heap.size := (by have := hb.size; (try simp at this); omega)); (try have hz1_1 : w.heap.size + 1 < w1.heap.size := (by have := hb.size; (try simp at this); omega)); (try have hz1_2 : w.heap.size + 2 < w1.heap.size := (by have := hb.size; (try simp at this); omega)); (try have hz1_3 : w.heap.size + 3 < w1.heap.size := (by have := hb.size; (try simp at this); omega)); (try have hz1_4 : w.heap.size + 4 < w1.heap.size := (by have := hb.size; (try simp at this); omega)); (try have hz1_5 : w.heap.size + 5 < w1.heap.size := (by have := hb.size; (try simp at this); omega)); (try have hc1_0 := fun o : Nat => hc1 (w.heap.size) o (by first | omega | (simp; done) | (simp; omega))); (try have hf1_0 := fun o : Nat => hf1 (w.heap.size) o (by first | omega | (simp; done) | (simp; omega))); (try have hc1_1 := fun o : Nat => hc1 (w.heap.size + 1) o (by first | omega | (simp; done) | (simp; omega))); (try have hf1_1 := fun o : Nat => hf1 (w.heap.size + 1) o (by first | omega | (simp; done) | (simp; omega))); (try have hc1_2 := fun o : Nat => hc1 (w.heap.size + 2) o (by first | omega | (simp; done) | (simp; omega))); (try have hf1_2 := fun o : Nat => hf1 (w.heap.size + 2) o (by first | omega | (simp; done) | (simp; omega))); (try have hc1_3 := fun o : Nat => hc1 (w.heap.size + 3) o (by first | omega | (simp; done) | (simp; omega))); (try have hf1_3 := fun o : Nat => hf1 (w.heap.size + 3) o (by first | omega | (simp; done) | (simp; omega))); clear hb)
  go_wp2_with fail
  (refine (N.out _).mono ?_; rintro e w2 ⟨rfl, hb⟩; obtain ⟨hc2, hf2⟩ := bcell hb; have hB2 : Below w.heap.size w w2 := (by refine Below.trans ?_ (hb.mono (by first | omega | (simp; done) | (simp; omega))); (repeat (first | exact Below.refl _ _ | assumption | refine Below.drew ?_ | refine below_drewN ?_ _ | refine Below.setCell ?_ (by first | omega | (simp; done) | (simp; omega)) _ | refine Below.alloc ?_ (by first | omega | (simp; done) | (simp; omega)) _))); have hs2 := hb.size; (try simp at hs2); (try have hz2_0 : w.heap.size < w2.heap.size := (by have := hb.size; (try simp at this); omega)); (try have hz2_1 : w.heap.size + 1 < w2.heap.size := (by have := hb.size; (try simp at this); omega)); (try have hz2_2 : w.heap.size + 2 < w2.heap.size := (by have := hb.size; (try simp at this); omega)); (try have hz2_3 : w.heap.size + 3 < w2.heap.size := (by have := hb.size; (try simp at this); omega)); (try have hz2_4 : w.heap.size + 4 < w2.heap.size := (by have := hb.size; (try simp at this); omega)); (try have hz2_5 : w.heap.size + 5 < w2.heap.size := (by have := hb.size; (try simp at this); omega)); (try have hc2_0 := fun o : Nat => hc2 (w.heap.size) o (by first | omega | (simp; done) | (simp; omega))); (try have hf2_0 := fun o : Nat => hf2 (w.heap.size) o (by first | omega | (simp; done) | (simp; omega))); (try have hc2_1 := fun o : Nat => hc2 (w.heap.size + 1) o (by first | omega | (simp; done) | (simp; omega))); (try have hf2_1 := fun o : Nat => hf2 (w.heap.size + 1) o (by first | omega | (simp; done) | (simp; omega))); (try have hc2_2 := fun o : Nat => hc2 (w.heap.size + 2) o (by first | omega | (simp; done) | (simp; omega))); (try have hf2_2 := fun o : Nat => hf2 (w.heap.size + 2) o (by first | omega | (simp; done) | (simp; omega))); (try have hc2_3 := fun o : Nat => hc2 (w.heap.size + 3) o (by first | omega | (simp; done) | (simp; omega))); (try have hf2_3 := fun o : Nat => hf2 (w.heap.size + 3) o (by first | omega | (simp; done) | (simp; omega))); clear hb)
  go_wp2_with fail
  (refine (C.out _ (HT.out.below (by (repeat (first | exact Below.refl _ _ | assumption | refine Below.drew ?_ | refine below_drewN ?_ _ | refine Below.setCell ?_ (by first | omega | (simp; done) | (simp; omega)) _ | refine Below.alloc ?_ (by first | omega | (simp; done) | (simp; omega)) _))))).mono ?_; rintro e w3 ⟨rfl, hb⟩; obtain ⟨hc3, hf3⟩ := bcell hb; have hB3 : Below w.heap.size w w3 := (by refine Below.trans ?_ (hb.mono (by first | omega | (simp; done) | (simp; omega))); (repeat (first | exact Below.refl _ _ | assumption | refine Below.drew ?_ | refine below_drewN ?_ _ | refine Below.setCell ?_ (by first | omega | (simp; done) | (simp; omega)) _ | refine Below.alloc ?_ (by first | omega | (simp; done) | (simp; omega)) _))); have hs3 := hb.size; (try simp at hs3); (try have hz3_0 : w.heap.size < w3.heap.size := (by have := hb.size; (try simp at this); omega)); (try have hz3_1 : w.heap.size + 1 < w3.heap.size := (by have := hb.size; (try simp at this); omega)); (try have hz3_2 : w.heap.size + 2 < w3.heap.size := (by have := hb.size; (try simp at this); omega)); (try have hz3_3 : w.heap.size + 3 < w3.heap.size := (by have := hb.size; (try simp at this); omega)); (try have hz3_4 : w.heap.size + 4 < w3.heap.size := (by have := hb.size; (try simp at this); omega)); (try have hz3_5 : w.heap.size + 5 < w3.heap.size := (by have := hb.size; (try simp at this); omega)); (try have hc3_0 := fun o : Nat => hc3 (w.heap.size) o (by first | omega | (simp; done) | (simp; omega))); (try have hf3_0 := fun o : Nat => hf3 (w.heap.size) o (by first | omega | (simp; done) | (simp; omega))); (try have hc3_1 := fun o : Nat => hc3 (w.heap.size + 1) o (by first | omega | (simp; done) | (simp; omega))); (try have hf3_1 := fun o : Nat => hf3 (w.heap.size + 1) o (by first | omega | (simp; done) | (simp; omega))); (try have hc3_2 := fun o : Nat => hc3 (w.heap.size + 2) o (by first | omega | (simp; done) | (simp; omega))); (try have hf3_2 := fun o : Nat => hf3 (w.heap.size + 2) o (by first | omega | (simp; done) | (simp; omega))); (try have hc3_3 := fun o : Nat => hc3 (w.heap.size + 3) o (by first | omega | (simp; done) | (simp; omega))); (try have hf3_3 := fun o : Nat => hf3 (w.heap.size + 3) o (by first | omega | (simp; done) | (simp; omega))); clear hb)
  go_wp2_with fail
  go_ret
  exact ⟨ret_str E2.out, by (repeat (first | exact Below.refl _ _ | assumption | refine Below.drew ?_ | refine below_drewN ?_ _ | refine Below.setCell ?_ (by first | omega | (simp; done) | (simp; omega)) _ | refine Below.alloc ?_ (by first | omega | (simp; done) | (simp; omega)) _))⟩
end Go.Proofs.YtjndajndllimhaaDoor
