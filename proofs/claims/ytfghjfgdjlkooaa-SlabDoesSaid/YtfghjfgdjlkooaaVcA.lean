/-
  Contracts of package vec: isNear, Is2, Is3, parts, cross, below.
-/
import Derived.Test.YtfghjfgdjlkooaaVcPl
import Derived.Test.YtfghjfgdjlkooaaRel
import Derived.Test.YtfghjfgdjlkooaaOpenK
namespace Go.Proofs.Ytfghjfgdjlkooaa
open Go.RowKit

def ints (l : List Int) : Array Value := (l.map fun x => Value.int .i64 x).toArray
theorem ints_at {l : List Int} {k : Nat} (h : k < l.length) : (ints l)[k]? = some (.int .i64 (l.getD k 0)) := by
  unfold ints; simp [h]

set_option maxRecDepth 100000 in
set_option maxHeartbeats 1000000 in
theorem isNear_any (l : List Int) (g c : Nat) (T : TypeId) (w : World) (h : Lok w g T (ints l)) (hl : l.length ≤ 1000000) :
    Calls Try.prog 66 #[.slice (some ⟨g, 0, none⟩) l.length c] w fun e w' => e = .returned (.bool (l.all nB)) ∧ Below w.heap.size w w' := by
  have L := Lib.hid h
  clear h
  go_enter Try.func66, Try.ntmps66
  go_wp2_with fail
  go_loopw [7] (fun x wr => ∃ k : Nat, x = .int .i64 k ∧ k ≤ l.length ∧ (∀ j, j < k → nB (l.getD j 0) = true) ∧ Below w.heap.size w wr) (fun x _ => l.length - (intOf x).toNat)
  case atStart => exact ⟨0, rfl, Nat.zero_le _, fun j h => absurd h (by omega), by (repeat (first | exact Below.refl _ _ | assumption | refine Below.drew ?_ | refine below_drewN ?_ _ | refine Below.setCell ?_ (by first | omega | (simp; done) | (simp; omega)) _ | refine Below.alloc ?_ (by first | omega | (simp; done) | (simp; omega)) _))⟩
  case round =>
    obtain ⟨k, rfl, hk, hR, hB⟩ := hrel
    have HB := Lib.hid hB
    have HR := Lib.hid hR
    have c0 : k < l.length → wr.cell? ⟨g, k, none⟩ = some (.int .i64 (l.getD k 0)) := fun q => (L.out.keep hB).cell (ints_at q)
    clear hB hR
    by_cases hlt : k < l.length
    · replace c0 := c0 hlt
      have no : ¬ NR (l.getD k 0) → l.all nB = false := fun q => by
        rw [List.all_eq_false]
        refine ⟨l.getD k 0, ?_, ?_⟩
        · rw [show l.getD k 0 = l[k] from by simp [hlt]]; exact List.getElem_mem _
        · rw [nB_iff]; exact q
      have yes : NR (l.getD k 0) → ∀ j, j < k + 1 → nB (l.getD j 0) = true := fun q j hj => by
        by_cases e : j = k
        · rw [e]; exact nB_iff.2 q
        · exact HR.out j (by omega)
      unfold NR at no yes
      generalize l.getD k 0 = x at *
      have NO := Lib.hid no
      have YES := Lib.hid yes
      clear no yes
      rcases Int.lt_or_le x (-1048576) with h1 | h1
      · have E := NO.out (by omega)
        have d1 : decide (x < -1048576) = true := decide_eq_true h1
        clear NO YES
        go_wp2
        go_ret
        exact ⟨by rw [E]; rfl, HB.out⟩
      · have d1 : decide (x < -1048576) = false := decide_eq_false (by omega)
        rcases Int.lt_or_le 1048576 x with h2 | h2
        · have E := NO.out (by omega)
          have d2 : decide (1048576 < x) = true := decide_eq_true h2
          clear NO YES
          go_wp2
          go_ret
          exact ⟨by rw [E]; rfl, HB.out⟩
        · have E := YES.out ⟨h1, h2⟩
          have HE := Lib.hid E
          have d2 : decide (1048576 < x) = false := decide_eq_false (by omega)
          clear NO YES E
          go_wp2
          go_roundw
          case rel => exact ⟨k + 1, by go_num, hlt, HE.out, HB.out⟩
          case measure => simp [intOf]; omega
    · obtain rfl : k = l.length := by omega
      clear c0
      go_wp2
      go_ret
      refine ⟨?_, HB.out⟩
      have e : l.all nB = true := by
        rw [List.all_eq_true]
        intro x hx
        obtain ⟨i, hi, rfl⟩ := List.getElem_of_mem hx
        have := HR.out i hi
        rwa [show l.getD i 0 = l[i] from by simp [hi]] at this
      rw [e]; rfl
theorem isNear_2 (x y : Int) (g : Nat) (T : TypeId) (w : World) (h : Lok w g T #[.int .i64 x, .int .i64 y]) :
    Calls Try.prog 66 #[.slice (some ⟨g, 0, none⟩) 2 2] w fun e w' => e = .returned (.bool (n2 x y)) ∧ Below w.heap.size w w' := by
  have q := isNear_any [x, y] g 2 T w h (by simp)
  rw [show [x, y].all nB = n2 x y from by unfold n2; simp [List.all]] at q
  exact q
theorem isNear_3 (x y z : Int) (g : Nat) (T : TypeId) (w : World) (h : Lok w g T #[.int .i64 x, .int .i64 y, .int .i64 z]) :
    Calls Try.prog 66 #[.slice (some ⟨g, 0, none⟩) 3 3] w fun e w' => e = .returned (.bool (n3 x y z)) ∧ Below w.heap.size w w' := by
  have q := isNear_any [x, y, z] g 3 T w h (by simp)
  rw [show [x, y, z].all nB = n3 x y z from by unfold n3; simp [List.all, Bool.and_assoc]] at q
  exact q
end Go.Proofs.Ytfghjfgdjlkooaa
