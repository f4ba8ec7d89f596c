/-
  Face, the program's. (gen/FcL.py)
-/
import Derived.Test.YtlpfijdjkaijeaaDoorFcJ
import Derived.Test.YtlpfijdjkaijeaaDoorFcK
namespace Go.Proofs.YtlpfijdjkaijeaaDoor
open Go.RowKit

def faceE (F : Nat → ByteArray) (v t n : Int) (N : Nat) : Int := if N < 3 then 6 else if erC F v t n N ≠ 0 then erC F v t n N else if alG isM (cornF F v t n) N = true then 0 else 6
def RetFace (F : Nat → ByteArray) (v t n : Int) (N : Nat) (w : World) (e : Ending) (w' : World) : Prop :=
  Below w.heap.size w w' ∧ ((faceE F v t n N ≠ 0 ∧ e = .returned (.tuple #[.slice none 0 0, .int .i64 (faceE F v t n N)])) ∨
    (faceE F v t n N = 0 ∧ 3 ≤ N ∧ ∃ a c, e = .returned (.tuple #[.slice a (N - 2) c, .int .i64 0]) ∧ RowK w' a (N - 2) 9 (fanF (cornF F v t n)) ∧ c ≤ 9223372036854775807))
set_option maxRecDepth 100000 in
set_option maxHeartbeats 4000000 in
theorem face_any (v t n : Int) (A : Option Addr) (N c : Nat) (F : Nat → ByteArray) (w : World) (hr : RowS w A N c F) (hN : N ≤ 1000) (hs : ∀ i, i < N → (F i).size ≤ 1000)
    (bv : -9223372036854775808 ≤ v ∧ v ≤ 9223372036854775807) (bt : -9223372036854775808 ≤ t ∧ t ≤ 9223372036854775807) (bn : -9223372036854775808 ≤ n ∧ n ≤ 9223372036854775807) :
    Calls Tryd.prog 15 #[.int .i64 v, .int .i64 t, .int .i64 n, .slice A N c] w (RetFace F v t n N w) := by
  have HB := Lib.hid (Below.refl w.heap.size w)
  have C := Lib.hid (fun W (h : RowS W A N c F) => row3_any v t n A N c F W h hN hs bv bt bn)
  have R := Lib.hid hr
  clear hr bv bt bn hs
  by_cases h3 : N < 3
  · have l3 : (N : Int) < 3 := by omega
    have E : Hid (faceE F v t n N = 6) := Lib.hid (if_pos h3)
    go_enter Tryd.func15, Tryd.ntmps15
    go_wp2_with fail
    go_ret2
    exact ⟨HB.out, .inl ⟨by rw [E.out]; decide, by rw [E.out]; rfl⟩⟩
  · have l3 : ¬ (N : Int) < 3 := by omega
    have E : Hid (faceE F v t n N = if erC F v t n N ≠ 0 then erC F v t n N else if alG isM (cornF F v t n) N = true then 0 else 6) := Lib.hid (if_neg h3)
    go_enter Tryd.func15, Tryd.ntmps15
    go_wp2_with fail
    (with_reducible refine (C.out _ R.out).mono ?_); rintro e w1 ⟨hb, ⟨h0, rfl⟩ | ⟨h0, a, c', rfl, hr1, hc1⟩⟩
    all_goals
      replace HB := Lib.hid (HB.out.trans (hb.mono HB.out.size))
      clear hb C
    · have E2 : Hid (faceE F v t n N = erC F v t n N) := Lib.hid (E.out.trans (if_pos h0))
      have H0 := Lib.hid h0
      have x1 : (erC F v t n N != 0) = true := by simp [h0]
      generalize erC F v t n N = x at *
      clear E h0
      go_wp2_with fail
      go_ret2
      exact ⟨HB.out, .inl ⟨by rw [E2.out]; exact H0.out, by rw [E2.out]; rfl⟩⟩
    · have E2 : Hid (faceE F v t n N = if alG isM (cornF F v t n) N = true then 0 else 6) := Lib.hid (E.out.trans (if_neg (fun q => q h0)))
      have R1 := Lib.hid hr1
      have AL := Lib.hid (fun W (h : RowK W a N 3 (cornF F v t n)) => alike_any a N c' _ W h hN)
      have FA := Lib.hid (fun W (h : RowK W a N 3 (cornF F v t n)) => fan_any a N c' _ W h hN)
      clear E h0 hr1
      generalize alG isM (cornF F v t n) N = y at *
      cases y with
      | false =>
        go_wp2_with fail
        (((with_reducible refine (AL.out _ R1.out).mono ?_); rintro e w2 ⟨rfl, hb2⟩); replace HB := Lib.hid (HB.out.trans (hb2.mono HB.out.size)); replace R1 := Lib.hid (R1.out.keep hb2); clear hb2)
        go_wp2_with fail
        go_ret2
        exact ⟨HB.out, .inl ⟨by rw [E2.out]; decide, by rw [E2.out]; rfl⟩⟩
      | true =>
        go_wp2_with fail
        (((with_reducible refine (AL.out _ R1.out).mono ?_); rintro e w2 ⟨rfl, hb2⟩); replace HB := Lib.hid (HB.out.trans (hb2.mono HB.out.size)); replace R1 := Lib.hid (R1.out.keep hb2); clear hb2)
        go_wp2_with fail
        (with_reducible refine (FA.out _ R1.out).mono ?_); rintro e w3 ⟨hb, a2, c2, rfl, hr2, hc2⟩
        replace HB := Lib.hid (HB.out.trans (hb.mono HB.out.size))
        have R2 := Lib.hid hr2
        clear hb hr2
        go_wp2_with fail
        go_ret2
        exact ⟨HB.out, .inr ⟨by rw [E2.out]; rfl, by omega, a2, c2, rfl, R2.out, hc2⟩⟩
end Go.Proofs.YtlpfijdjkaijeaaDoor
