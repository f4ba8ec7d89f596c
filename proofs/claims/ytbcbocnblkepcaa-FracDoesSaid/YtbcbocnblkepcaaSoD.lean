/-
  The library's stable sort over a row of places: merging where the second part has one element.
-/
import Derived.Test.YtbcbocnblkepcaaSoC
namespace Go.Proofs.Ytbcbocnblkepcaa
open Go.RowKit

set_option maxRecDepth 100000 in
set_option maxHeartbeats 8000000 in
theorem sym_right (w0 : World) (g n cap : Nat) (c : Nat → Nat → Int) (T : Tot c) (V : Value) (C : CmpOK w0 n c V) (D : Nat → Nat) (a m : Nat) (w : World) (h : PW w0 g n D w) (hn : n ≤ 1000000) (ham : a + 1 < m) (hb : m + 1 ≤ n) (hd : DB D n) (P : Par c D a m (m + 1)) :
    Calls Try.prog 56 #[.slice (some ⟨g, 0, none⟩) n cap, .int .i64 a, .int .i64 m, .int .i64 ((m : Int) + 1), .func (.func 27) #[V] #[]] w fun e w' => e = .returned (.tuple #[]) ∧ ∃ E, Pm a (m + 1) D E ∧ Srt c E a (m + 1) ∧ PW w0 g n E w' := by
  have H := Lib.hid h
  have HC := Lib.hid C
  have HT := Lib.hid T
  have HD := Lib.hid hd
  have HP := Lib.hid P
  have dm : ((m : Int) - a == 1) = false := by rw [beq_eq_false_iff_ne]; omega
  clear h C T hd P
  go_enter Try.func56, Try.ntmps56
  go_wp2_with fail
  go_loopw [14, 15, 16] (fun x y _ wr => ∃ i j : Nat, x = .int .i64 i ∧ y = .int .i64 j ∧ a ≤ i ∧ i ≤ j ∧ j ≤ m ∧ Hid (i = a ∨ Rl c (D (i - 1)) (D m)) ∧ Hid (j = m ∨ Rl c (D m) (D j)) ∧ PW w0 g n D wr) (fun x y _ _ => (intOf y).toNat - (intOf x).toNat)
  case atStart => exact ⟨a, m, rfl, rfl, Nat.le_refl _, by omega, Nat.le_refl _, Lib.hid (.inl rfl), Lib.hid (.inl rfl), H.out⟩
  case round =>
    obtain ⟨i, j, rfl, rfl, hi, hij, hj, L, U, hP⟩ := hrel
    have HW := Lib.hid hP
    clear hP
    by_cases hlt : i < j
    · obtain ⟨k, hk⟩ : ∃ k, k = (i + j) / 2 := ⟨_, rfl⟩
      have k1 : i ≤ k := by omega
      have k2 : k < j := by omega
      have p1 : (0 : Int) ≤ ((i : Int) + j) / 2 := by omega
      have q1 : ((i : Int) + j) / 2 < (n : Int) := by omega
      have q2 : (m : Int) < (n : Int) := by omega
      have x0 : ∀ d : Of (PastS wr), d.world.cell? ⟨g, (i + j) / 2, none⟩ = some (.int .i64 (D k)) := fun d => by rw [← hk]; exact (HW.out.keep d.holds).cell k (by omega)
      have x1 : ∀ d : Of (PastS wr), d.world.cell? ⟨g, m, none⟩ = some (.int .i64 (D m)) := fun d => (HW.out.keep d.holds).cell m (by omega)
      have CC := Lib.hid (fun d => HC.out.class HW.out.below (HD.out m (by omega)) (HD.out k (by omega)) d)
      have ne : Nonempty (Of (PastS wr)) := ⟨⟨wr, Below.refl _ _⟩⟩
      have less : D k < D m := HP.out.cr k m (by omega) (by omega) (Nat.le_refl _) (Nat.lt_succ_self _)
      obtain ⟨x, hx⟩ : ∃ x, x = D k := ⟨_, rfl⟩
      obtain ⟨y, hy⟩ : ∃ y, y = D m := ⟨_, rfl⟩
      by_cases s : c (D m) (D k) < 0
      · have ds : decide (c (D m) (D k) < 0) = true := decide_eq_true s
        have HN : Hid (Rl c (D m) (D k)) := Lib.hid (.inl s)
        generalize c (D m) (D k) = z at *
        rw [← hx] at x0 CC
        rw [← hy] at x1 CC
        clear s less hx hy
        go_wp2_with fail
        refine wp_region_class (S := PastS wr) (by kernel_rfl) (by kernel_rfl) (Below.refl _ _).drew ?_
        repeat (go_big_quiet_step (first | (go_at_call 27; exact CC.out _)))
        refine wpQuiet_nil ?_
        rintro _ ⟨d, rfl⟩
        have HQ := Lib.hid (HW.out.keep (show Below wr.heap.size wr d.world from d.holds))
        generalize d.world = wd at *
        clear x0 x1 CC ne HW
        go_wp2
        go_roundw
        case rel => exact ⟨i, k, rfl, congrArg (Value.int .i64) (by omega), hi, k1, by omega, L, Lib.hid (.inr HN.out), HQ.out⟩
        case measure => simp [intOf]; omega
      · have ds : decide (c (D m) (D k) < 0) = false := decide_eq_false s
        have HN : Hid (Rl c (D (k + 1 - 1)) (D m)) := Lib.hid (HT.out.later less s)
        generalize c (D m) (D k) = z at *
        rw [← hx] at x0 CC
        rw [← hy] at x1 CC
        clear s less hx hy
        go_wp2_with fail
        refine wp_region_class (S := PastS wr) (by kernel_rfl) (by kernel_rfl) (Below.refl _ _).drew ?_
        repeat (go_big_quiet_step (first | (go_at_call 27; exact CC.out _)))
        refine wpQuiet_nil ?_
        rintro _ ⟨d, rfl⟩
        have HQ := Lib.hid (HW.out.keep (show Below wr.heap.size wr d.world from d.holds))
        generalize d.world = wd at *
        clear x0 x1 CC ne HW
        go_wp2
        go_roundw
        case rel => exact ⟨k + 1, j, by go_num, rfl, by omega, by omega, hj, Lib.hid (.inr HN.out), U, HQ.out⟩
        case measure => simp [intOf]; omega
    · obtain rfl : i = j := by omega
      have hnl : ¬ (i : Int) < i := by omega
      have FIN := Lib.hid (Srt.down HT.out HP.out.s1 hi hj L.out U.out)
      go_wp2_with fail
      obtain ⟨wq, ewq⟩ : ∃ wq, wq = wr := ⟨_, rfl⟩
      rw [← ewq] at HW ⊢
      clear ewq
      go_loopw [17] (fun x wr => ∃ t : Nat, x = .int .i64 t ∧ i ≤ t ∧ t ≤ m ∧ PW w0 g n (rotD D t m (m + 1)) wr) (fun x _ => (intOf x).toNat)
      case atStart => exact ⟨m, rfl, hj, Nat.le_refl _, by rw [rot_same_a]; exact HW.out⟩
      case round =>
        obtain ⟨t, rfl, hit, htm, hR⟩ := hrel
        clear HW
        by_cases ht : i < t
        · obtain ⟨u, rfl⟩ : ∃ u, t = u + 1 := ⟨t - 1, by omega⟩
          have d1 : decide ((i : Int) < (u : Int) + 1) = true := decide_eq_true (by omega)
          have d2 : (i : Int) < (u : Int) + 1 := by omega
          have HS := Lib.hid (hR.swap (i := u + 1) (j := u) (by omega) (by omega) (by omega))
          rw [rot_down D (by omega)] at HS
          obtain ⟨c1, c2, f1, f2, c3⟩ := hR.two (i := u + 1) (j := u) (by omega) (by omega) (by omega)
          clear hR
          generalize rotD D (u + 1) m (m + 1) (u + 1) = x at *
          generalize rotD D (u + 1) m (m + 1) u = y at *
          have e1 : IntKind.i64.wrap ((u : Int) + 1 - 1) = (u : Int) := by rw [show (u : Int) + 1 - 1 = u from by omega]; exact IntWalk.i64_in _ (by omega)
          have p1 : (0 : Int) ≤ (u : Int) + 1 := by omega
          have q1 : (u : Int) < (n : Int) := by omega
          have q2 : (u : Int) + 1 < (n : Int) := by omega
          have t1 : ((u : Int) + 1).toNat = u + 1 := by omega
          have hz : u + 1 ≠ u := by omega
          go_wp2_with fail
          go_region
          go_wp2
          go_roundw
          case rel => exact ⟨u, by go_num, by omega, by omega, HS.out.drew⟩
          case measure => simp [intOf]
        · obtain rfl : i = t := by omega
          have HR := Lib.hid hR
          clear hR
          go_wp2
          ((try simp only [Exit.inBlock, Exit.then]); refine bodyPost_ret (results_none rfl _ _ _) rfl ?_)
          exact ⟨rfl, _, (Pm.rot D (by omega) (by omega)).mono hi (Nat.le_refl _), FIN.out, HR.out⟩
end Go.Proofs.Ytbcbocnblkepcaa
