/-
  Contracts of package frac: Cmp whatever stands there, Floor, Reduce.
-/
import Derived.Test.YtfghjfgdjlkooaaFrB
import Derived.Test.YtfghjfgdjlkooaaWhC
import Derived.RegionTactic
import Derived.BigRegion
namespace Go.Proofs.Ytfghjfgdjlkooaa
open Go.RowKit

theorem fcmp_any (an ad bn bd : Int) (w : World) :
    Calls Try.prog 38 #[.agg #[.int .i64 an, .int .i64 ad], .agg #[.int .i64 bn, .int .i64 bd]] w fun e w' => e = .returned (.int .i64 (cmpF an ad bn bd)) ∧ Below w.heap.size w w' := by
  by_cases h : FR an ad ∧ FR bn bd
  · exact fcmp_right an ad bn bd w h.1 h.2
  · exact fcmp_other an ad bn bd w h

theorem flQ_div (n d : Int) (hd : 1 ≤ d) : flQ n d = n / d := by
  obtain ⟨e, p, _⟩ := fl_spec n d (by omega)
  obtain ⟨p0, p1⟩ := p (by omega)
  exact (fd_unique n d (flQ n d) (flR n d) hd e.symm p0 p1).1.symm
/-- What Floor answers. -/
def flF (n d : Int) : Int := if FR n d then n / d else 0
def erF (n d : Int) : Int := if FR n d then 0 else 1
theorem fr_dvb {n d : Int} (h : FR n d) : Dvb n d := ⟨by have := h.1; omega, fun k => by have := h.1; omega⟩
theorem fr_in {n d : Int} (h : FR n d) : In64 n ∧ In64 d := by unfold FR at h; unfold In64; omega
/-! Reduce. -/
def gcF (n d : Int) : Int := Nat.gcd n.natAbs d.natAbs
def rdN (n d : Int) : Int := if FR n d then n.tdiv (gcF n d) else 0
def rdD (n d : Int) : Int := if FR n d then d.tdiv (gcF n d) else 0
theorem gcF_bd {n d : Int} (h : FR n d) : 1 ≤ gcF n d ∧ gcF n d ≤ d := by
  have p : 0 < d.natAbs := by have := h.1; omega
  have q := Nat.gcd_pos_of_pos_right n.natAbs p
  have r := Nat.gcd_le_right n.natAbs p
  unfold gcF
  have := h.1
  omega
theorem gP_pair {n d : Int} (h : FR n d) : gP [n, d] = gcF n d ∧ gX [n, d] = 0 := by
  have b := gcF_bd h
  have e : gcdL [n, d] = Nat.gcd n.natAbs d.natAbs := by simp [gcdL]
  have := h.2.1
  unfold gP gX
  rw [e]
  unfold gcF at b ⊢
  rw [if_neg (by omega), if_neg (by omega)]
  exact ⟨rfl, rfl⟩
theorem td_le (x g : Int) : (x.tdiv g).natAbs ≤ x.natAbs := by
  rw [Int.natAbs_tdiv]
  exact Nat.div_le_self _ _
theorem rowL_two {W : World} {g : Nat} {T : TypeId} {x y : Int} (h : Lok W g T #[.int .i64 x, .int .i64 y]) : RowL W (some ⟨g, 0, none⟩) [x, y] 2 :=
  ⟨by simp, .inr ⟨g, 0, rfl, h.lt, fun i hi => by
    match i, hi with
    | 0, _ => exact h.cell (i := 0) rfl
    | 1, _ => exact h.cell (i := 1) rfl⟩⟩
end Go.Proofs.Ytfghjfgdjlkooaa
