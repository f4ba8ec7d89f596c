/-
  The library's Div64: no high part; what its walks share.
-/
import Derived.Test.YtehfmapbodjppaaDoorScA
namespace Go.Proofs.YtehfmapbodjppaaDoor
open Go.RowKit

theorem w64 (n : Int) (h0 : 0 ≤ n) (h1 : n < 18446744073709551616) : IntKind.u64.wrap n = n := by rw [IntKind.wrap_u64]; omega
theorem w64p (n : Int) (h0 : 0 ≤ n) (h1 : n < 2 ^ 64) : IntKind.u64.wrap n = n := w64 n h0 (by omega)
theorem and32 (x : Int) (h0 : 0 ≤ x) (h1 : x < 18446744073709551616) : bits .and .u64 x 4294967295 = x % 4294967296 := bits_mask .u64 64 (by decide) w64p 32 (by decide) x h0 (by omega)
theorem or64 (s : Nat) (x y : Int) (h0 : 0 ≤ x) (h1 : x < 18446744073709551616) (hx : x % 2 ^ s = 0) (h2 : 0 ≤ y) (h3 : y < 2 ^ s) (h4 : y < 18446744073709551616) : bits .or .u64 x y = x + y :=
  bits_join .u64 64 (by decide) w64p s x y h0 hx (by omega) h2 h3 (by omega)

theorem div64_low (lo y : Nat) (w : World) (hy : 0 < y) (h1 : y < 18446744073709551616) (h2 : lo < 18446744073709551616) :
    Calls Tryd.prog 33 #[.int .u64 0, .int .u64 lo, .int .u64 y] w fun e w' => e = .returned (.tuple #[.int .u64 ((lo / y : Nat) : Int), .int .u64 ((lo % y : Nat) : Int)]) ∧ Below w.heap.size w w' := by
  have hy0 : ¬ (y : Int) = 0 := by omega
  have hy1 : ¬ (y : Int) ≤ 0 := by omega
  have hd0 : ((y : Int) == 0) = false := by simp; omega
  have q1 : lo / y ≤ lo := Nat.div_le_self _ _
  have q2 : lo % y < y := Nat.mod_lt _ hy
  have e1 : (lo : Int).tdiv (y : Int) = ((lo / y : Nat) : Int) := by
    rw [Int.tdiv_eq_ediv_of_nonneg (by omega)]; exact (Int.natCast_ediv _ _).symm
  have e2 : (lo : Int).tmod (y : Int) = ((lo % y : Nat) : Int) := by
    rw [Int.tmod_eq_emod_of_nonneg (by omega)]; exact (Int.natCast_emod _ _).symm
  generalize lo / y = q at *
  generalize lo % y = r at *
  have e3 : IntKind.u64.wrap (q : Int) = q := w64 _ (by omega) (by omega)
  have e4 : IntKind.u64.wrap (r : Int) = r := w64 _ (by omega) (by omega)
  go_enter Tryd.func33, Tryd.ntmps33
  go_wp2_with fail
  go_quiet (fail)
  go_wp2_with fail
  go_ret2
  exact ⟨rfl, by (repeat (first | exact Below.refl _ _ | assumption | refine Below.drew ?_ | refine below_drewN ?_ _ | refine Below.setCell ?_ (by first | omega | (simp; done) | (simp; omega)) _ | refine Below.alloc ?_ (by first | omega | (simp; done) | (simp; omega)) _))⟩
theorem lead_any (x : Int) (s : Int) (W : World) (h0 : 0 ≤ x) (h1 : x ≤ 18446744073709551615) (hs : (64 - (Lib.bitLen x.toNat : Int)) = s) :
    Calls Tryd.prog 42 #[.int .u64 x] W fun e w' => e = .returned (.int .i64 s) ∧ Below W.heap.size W w' :=
  (Tryd.bits_LeadingZeros64 x W h0 h1).mono fun e w' ⟨he, hw⟩ => ⟨hs ▸ he, hw ▸ Below.refl _ _⟩

end Go.Proofs.YtehfmapbodjppaaDoor
