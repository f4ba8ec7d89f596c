/-
  Contracts of package vec: Axis, Less3.
-/
import Derived.Test.YticjljbglimgeaaVcE
import Derived.Test.YticjljbglimgeaaCmpI
import Derived.Test.YticjljbglimgeaaWideR
namespace Go.Proofs.Yticjljbglimgeaa
open Go.RowKit

def PastV (V W : World) : Prop := Below V.heap.size V W
theorem pastV_stays (V : World) : Stays (PastV V) := fun _ _ h hb => Below.trans h (hb.mono (Below.size h))

/-- A number's other side, or itself, that is not above 0. -/
def bl (n : Int) : Int := -(n.natAbs : Int)
/-- The place of the part that is farthest from 0, of the first k. -/
def axF (a b c : Int) : Nat → Nat
  | 0 => 0
  | k + 1 => if bl (pt a b c k) < bl (pt a b c (axF a b c k)) then k else axF a b c k
theorem axF_lt (a b c : Int) (k : Nat) : axF a b c k ≤ k - 1 := by
  induction k with
  | zero => exact Nat.le_refl _
  | succ k ih => unfold axF; split <;> omega
theorem axF_take {a b c : Int} {k : Nat} (h : bl (pt a b c k) < bl (pt a b c (axF a b c k))) : axF a b c (k + 1) = k := by show (if _ then _ else _) = _; rw [if_pos h]
theorem axF_keep {a b c : Int} {k : Nat} (h : ¬ bl (pt a b c k) < bl (pt a b c (axF a b c k))) : axF a b c (k + 1) = axF a b c k := by show (if _ then _ else _) = _; rw [if_neg h]
def I64 (n : Int) : Prop := -9223372036854775808 ≤ n ∧ n ≤ 9223372036854775807
theorem pt_i64 {a b c : Int} (ha : I64 a) (hb : I64 b) (hc : I64 c) (k : Nat) : I64 (pt a b c k) := by
  unfold pt; split
  · exact ha
  · split
    · exact hb
    · exact hc

set_option maxRecDepth 100000 in
set_option maxHeartbeats 4000000 in
theorem axis_any (a b c : Int) (w : World) (ha : I64 a) (hb : I64 b) (hc : I64 c) :
    Calls Try.prog 35 #[.agg #[.int .i64 a, .int .i64 b, .int .i64 c]] w fun e w' => e = .returned (.int .i64 (axF a b c 3)) ∧ Below w.heap.size w w' := by
  have HB := Lib.hid (Below.refl w.heap.size w)
  have P := Lib.hid (fun W => parts_any a b c W)
  have BL := Lib.hid (fun k W => below_any (pt a b c k) W (pt_i64 ha hb hc k).1 (pt_i64 ha hb hc k).2)
  clear ha hb hc
  go_enter Try.func35, Try.ntmps35
  go_upto_region 1 with fail
  have hbx := below_new1 w (.cells #[.int .i64 a, .int .i64 b, .int .i64 c] 25)
  have zx : (w.alloc (.cells #[.int .i64 a, .int .i64 b, .int .i64 c] 25)).heap.size = w.heap.size + 1 := by simp
  have HB := Lib.hid hbx
  have kx := Lib.hid (Lok.new w 25 #[.int .i64 a, .int .i64 b, .int .i64 c])
  clear hbx
  generalize w.alloc (.cells #[.int .i64 a, .int .i64 b, .int .i64 c] 25) = Vx at *
  clear zx
  have x0 := kx.out.cell (i := 0) rfl
  have x1 := kx.out.cell (i := 1) rfl
  have x2 := kx.out.cell (i := 2) rfl
  go_wp2_with fail
  clear x0 x1 x2
  ((with_reducible refine (P.out _).mono ?_); rintro e w1 ⟨rfl, hb1⟩)
  replace HB := Lib.hid (HB.out.trans (hb1.mono HB.out.size))
  clear hb1
  go_wp2_with fail
  have hb1 := below_new1 w1 (.cells #[.int .i64 a, .int .i64 b, .int .i64 c] 62)
  replace HB := Lib.hid (HB.out.trans (hb1.mono HB.out.size))
  have k1 := Lib.hid (Lok.new w1 62 #[.int .i64 a, .int .i64 b, .int .i64 c])
  clear hb1
  generalize w1.alloc (.cells #[.int .i64 a, .int .i64 b, .int .i64 c] 62) = V1 at *
  generalize w1.heap.size = g1 at *
  go_wp2_with fail
  go_loopw [4, 8] (fun x y wr => ∃ k : Nat, x = .int .i64 (axF a b c k) ∧ y = .int .i64 k ∧ k ≤ 3 ∧ Below V1.heap.size V1 wr) (fun _ y _ => 3 - (intOf y).toNat)
  case atStart => exact ⟨0, rfl, rfl, Nat.zero_le _, Below.refl _ _⟩
  case round =>
    obtain ⟨k, rfl, rfl, hk, hB⟩ := hrel
    have B := Lib.hid hB
    clear hB
    by_cases hlt : k < 3
    · have hm : axF a b c k < 3 := by have := axF_lt a b c k; omega
      have c0 := (k1.out.keep B.out).cell (pt_at a b c hlt)
      have c1 := (k1.out.keep B.out).cell (pt_at a b c hm)
      have B1 := Lib.hid (fun W => BL.out k W)
      have B2 := Lib.hid (fun W => BL.out (axF a b c k) W)
      have TK := axF_take (a := a) (b := b) (c := c) (k := k)
      have KP := axF_keep (a := a) (b := b) (c := c) (k := k)
      change Hid (∀ W, Calls Try.prog 47 #[.int .i64 (pt a b c k)] W fun e w' => e = .returned (.int .i64 (bl (pt a b c k))) ∧ Below W.heap.size W w') at B1
      change Hid (∀ W, Calls Try.prog 47 #[.int .i64 (pt a b c (axF a b c k))] W fun e w' => e = .returned (.int .i64 (bl (pt a b c (axF a b c k)))) ∧ Below W.heap.size W w') at B2
      have i0 : (0 : Int) ≤ (k : Int) := by omega
      have i1 : (k : Int) < 3 := by omega
      have i2 : ((k : Int)).toNat = k := by omega
      have j0 : (0 : Int) ≤ (axF a b c k : Int) := by omega
      have j1 : (axF a b c k : Int) < 3 := by omega
      have j2 : ((axF a b c k : Int)).toNat = axF a b c k := by omega
      generalize bl (pt a b c k) = p at *
      generalize bl (pt a b c (axF a b c k)) = q at *
      generalize pt a b c k = x at *
      generalize pt a b c (axF a b c k) = y at *
      have HT := Lib.hid TK
      have HK := Lib.hid KP
      clear TK KP BL
      generalize axF a b c k = m at *
      have a0 : ∀ d : Of (PastV wr), d.world.cell? ⟨g1, k, none⟩ = some (.int .i64 x) := fun d => keepc d.holds c0
      have a1 : ∀ d : Of (PastV wr), d.world.cell? ⟨g1, m, none⟩ = some (.int .i64 y) := fun d => keepc d.holds c1
      have ST := Lib.hid (pastV_stays wr)
      have ne : Nonempty (Of (PastV wr)) := ⟨⟨wr, Below.refl _ _⟩⟩
      clear c0 c1
      go_wp2_with fail
      refine wp_region_class (S := PastV wr) (by kernel_rfl) (by kernel_rfl) (Below.refl _ _).drew ?_
      repeat (go_big_quiet_step (first | (go_at_call 47; first | (with_reducible exact class_call ST.out _ (B1.out _)) | (with_reducible exact class_call ST.out _ (B2.out _)))))
      refine wpQuiet_nil ?_
      rintro _ ⟨d, rfl⟩
      have HD := Lib.hid (B.out.trans (show Below V1.heap.size wr d.world from (show Below wr.heap.size wr d.world from d.holds).mono B.out.size))
      clear a0 a1 ne ST
      by_cases s : p < q
      · have ds : decide (p < q) = true := decide_eq_true s
        have E := Lib.hid (HT.out (by omega))
        clear HT HK
        go_wp2
        go_roundw
        case rel => exact ⟨k + 1, by rw [E.out], by go_num, hlt, HD.out⟩
        case measure => simp [intOf]; omega
      · have ds : decide (p < q) = false := decide_eq_false s
        have E := Lib.hid (HK.out (by omega))
        have s' : q ≤ p := by omega
        clear HT HK
        go_wp2
        go_roundw
        case rel => exact ⟨k + 1, by rw [E.out], by go_num, hlt, HD.out⟩
        case measure => simp [intOf]; omega
    · obtain rfl : k = 3 := by omega
      go_wp2
      go_ret
      exact ⟨rfl, HB.out.trans (B.out.mono HB.out.size)⟩
end Go.Proofs.Yticjljbglimgeaa
