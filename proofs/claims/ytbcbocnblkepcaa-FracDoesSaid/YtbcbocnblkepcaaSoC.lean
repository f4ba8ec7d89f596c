/-
  The library's stable sort over a row of places: merging where one part has one element.
-/
import Derived.Test.YtbcbocnblkepcaaSoB
namespace Go.Proofs.Ytbcbocnblkepcaa
open Go.RowKit

/-- Two sorted parts, the first of them of earlier places. -/
structure Par (c : Nat → Nat → Int) (D : Nat → Nat) (a m b : Nat) : Prop where
  s1 : Srt c D a m
  s2 : Srt c D m b
  cr : Crs D a m b
theorem half_nat (x y : Nat) (hx : x ≤ 1000000) (hy : y ≤ 1000000) : IntKind.i64.wrap (((x : Int) + y) / 2) = ((x + y) / 2 : Nat) := by
  rw [IntWalk.i64_in _ (by omega)]; omega

set_option maxRecDepth 100000 in
set_option maxHeartbeats 8000000 in
theorem sym_left (w0 : World) (g n cap : Nat) (c : Nat → Nat → Int) (T : Tot c) (V : Value) (C : CmpOK w0 n c V) (D : Nat → Nat) (a b : Nat) (w : World) (h : PW w0 g n D w) (hn : n ≤ 1000000) (hmb : a + 1 < b) (hb : b ≤ n) (hd : DB D n) (P : Par c D a (a + 1) b) :
    Calls Try.prog 56 #[.slice (some ⟨g, 0, none⟩) n cap, .int .i64 a, .int .i64 ((a : Int) + 1), .int .i64 b, .func (.func 27) #[V] #[]] w fun e w' => e = .returned (.tuple #[]) ∧ ∃ E, Pm a b D E ∧ Srt c E a b ∧ PW w0 g n E w' := by
  have H := Lib.hid h
  have HC := Lib.hid C
  have HT := Lib.hid T
  have HD := Lib.hid hd
  have HP := Lib.hid P
  clear h C T hd P
  go_enter Try.func56, Try.ntmps56
  go_wp2_with fail
  go_loopw [10, 11, 12] (fun x y _ wr => ∃ i j : Nat, x = .int .i64 i ∧ y = .int .i64 j ∧ a + 1 ≤ i ∧ i ≤ j ∧ j ≤ b ∧ Hid (i = a + 1 ∨ Rl c (D (i - 1)) (D a)) ∧ Hid (j = b ∨ Rl c (D a) (D j)) ∧ PW w0 g n D wr) (fun x y _ _ => (intOf y).toNat - (intOf x).toNat)
  case atStart => exact ⟨a + 1, b, by go_num, rfl, Nat.le_refl _, by omega, Nat.le_refl _, Lib.hid (.inl rfl), Lib.hid (.inl rfl), H.out⟩
  case round =>
    obtain ⟨i, j, rfl, rfl, hi, hij, hj, L, U, hP⟩ := hrel
    have HW := Lib.hid hP
    clear hP
    by_cases hlt : i < j
    · obtain ⟨k, hk⟩ : ∃ k, k = (i + j) / 2 := ⟨_, rfl⟩
      have k1 : i ≤ k := by omega
      have k2 : k < j := by omega
      have p1 : (0 : Int) ≤ ((i : Int) + j) / 2 := by omega
      have q1 : ((i : Int) + j) / 2 < (n : Int) := by omega
      have q2 : (a : Int) < (n : Int) := by omega
      have x0 : ∀ d : Of (PastS wr), d.world.cell? ⟨g, (i + j) / 2, none⟩ = some (.int .i64 (D k)) := fun d => by rw [← hk]; exact (HW.out.keep d.holds).cell k (by omega)
      have x1 : ∀ d : Of (PastS wr), d.world.cell? ⟨g, a, none⟩ = some (.int .i64 (D a)) := fun d => (HW.out.keep d.holds).cell a (by omega)
      have CC := Lib.hid (fun d => HC.out.class HW.out.below (HD.out k (by omega)) (HD.out a (by omega)) d)
      have ne : Nonempty (Of (PastS wr)) := ⟨⟨wr, Below.refl _ _⟩⟩
      have less : D a < D k := HP.out.cr a k (Nat.le_refl _) (Nat.lt_succ_self _) (by omega) (by omega)
      by_cases s : c (D k) (D a) < 0
      · have ds : decide (c (D k) (D a) < 0) = true := decide_eq_true s
        have HN : Hid (Rl c (D (k + 1 - 1)) (D a)) := Lib.hid (.inl s)
        generalize c (D k) (D a) = z at *
        generalize D k = x at *
        generalize D a = y at *
        clear s less
        go_wp2_with fail
        refine wp_region_class (S := PastS wr) (by kernel_rfl) (by kernel_rfl) (Below.refl _ _).drew ?_
        repeat (go_big_quiet_step (first | (go_at_call 27; exact CC.out _)))
        refine wpQuiet_nil ?_
        rintro _ ⟨d, rfl⟩
        have HQ := Lib.hid (HW.out.keep (show Below wr.heap.size wr d.world from d.holds))
        generalize d.world = wd at *
        clear x0 x1 CC ne HW
        go_wp2
        go_roundw
        case rel => exact ⟨k + 1, j, by go_num, rfl, by omega, by omega, hj, Lib.hid (.inr HN.out), U, HQ.out⟩
        case measure => simp [intOf]; omega
      · have ds : decide (c (D k) (D a) < 0) = false := decide_eq_false s
        have HN := Lib.hid (HT.out.later less s)
        generalize c (D k) (D a) = z at *
        obtain ⟨x, hx⟩ : ∃ x, x = D k := ⟨_, rfl⟩
        obtain ⟨y, hy⟩ : ∃ y, y = D a := ⟨_, rfl⟩
        rw [← hx] at x0 CC
        rw [← hy] at x1 CC
        clear s less hx hy
        go_wp2_with fail
        refine wp_region_class (S := PastS wr) (by kernel_rfl) (by kernel_rfl) (Below.refl _ _).drew ?_
        repeat (go_big_quiet_step (first | (go_at_call 27; exact CC.out _)))
        refine wpQuiet_nil ?_
        rintro _ ⟨d, rfl⟩
        have HQ := Lib.hid (HW.out.keep (show Below wr.heap.size wr d.world from d.holds))
        generalize d.world = wd at *
        clear x0 x1 CC ne HW
        go_wp2
        go_roundw
        case rel => exact ⟨i, k, rfl, congrArg (Value.int .i64) (by omega), hi, k1, by omega, L, Lib.hid (.inr HN.out), HQ.out⟩
        case measure => simp [intOf]; omega
    · obtain rfl : i = j := by omega
      have hnl : ¬ (i : Int) < i := by omega
      have FIN := Lib.hid (Srt.up HT.out HP.out.s2 hi hj L.out U.out)
      go_wp2_with fail
      obtain ⟨wq, ewq⟩ : ∃ wq, wq = wr := ⟨_, rfl⟩
      rw [← ewq] at HW ⊢
      clear ewq
      go_loopw [13] (fun x wr => ∃ t : Nat, x = .int .i64 t ∧ a ≤ t ∧ t + 1 ≤ i ∧ PW w0 g n (rotD D a (a + 1) (t + 1)) wr) (fun x _ => i - (intOf x).toNat)
      case atStart => exact ⟨a, rfl, Nat.le_refl _, by omega, by rw [rot_same_m _ _ _ (by omega)]; exact HW.out⟩
      case round =>
        obtain ⟨t, rfl, hat, hti, hR⟩ := hrel
        clear HW
        by_cases ht : t + 1 < i
        · have d1 : decide ((t : Int) < (i : Int) - 1) = true := decide_eq_true (by omega)
          have d2 : (t : Int) < (i : Int) - 1 := by omega
          have HS := Lib.hid (hR.swap (i := t) (j := t + 1) (by omega) (by omega) (by omega))
          rw [rot_up D hat] at HS
          obtain ⟨c1, c2, f1, f2, c3⟩ := hR.two (i := t) (j := t + 1) (by omega) (by omega) (by omega)
          clear hR
          generalize rotD D a (a + 1) (t + 1) t = x at *
          generalize rotD D a (a + 1) (t + 1) (t + 1) = y at *
          have e1 : IntKind.i64.wrap ((t : Int) + 1) = (t : Int) + 1 := IntWalk.i64_in _ (by omega)
          have p1 : (0 : Int) ≤ (t : Int) + 1 := by omega
          have q1 : (t : Int) < (n : Int) := by omega
          have q2 : (t : Int) + 1 < (n : Int) := by omega
          have t1 : ((t : Int) + 1).toNat = t + 1 := by omega
          have hz : t ≠ t + 1 := by omega
          go_wp2_with fail
          go_region
          go_wp2
          go_roundw
          case rel => exact ⟨t + 1, by go_num, by omega, by omega, HS.out.drew⟩
          case measure => simp [intOf]; omega
        · obtain rfl : i = t + 1 := by omega
          have d1 : ¬ (t : Int) < ((t + 1 : Nat) : Int) - 1 := by omega
          have HR := Lib.hid hR
          clear hR
          go_wp2
          ((try simp only [Exit.inBlock, Exit.then]); refine bodyPost_ret (results_none rfl _ _ _) rfl ?_)
          exact ⟨rfl, _, (Pm.rot D (by omega) (by omega)).mono (Nat.le_refl _) hj, FIN.out, HR.out⟩
end Go.Proofs.Ytbcbocnblkepcaa
