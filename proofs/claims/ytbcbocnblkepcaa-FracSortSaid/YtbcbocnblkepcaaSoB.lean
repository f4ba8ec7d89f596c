/-
  The library's stable sort over a row of places: insertion.
-/
import Derived.Test.YtbcbocnblkepcaaSoA
namespace Go.Proofs.Ytbcbocnblkepcaa
open Go.RowKit

/-- What is asked of the way to compare: in every world of the sort it answers c, and turns nothing. -/
def CmpOK (w0 : World) (n : Nat) (c : Nat → Nat → Int) (V : Value) : Prop :=
  ∀ W, Below w0.heap.size w0 W → ∀ x y : Nat, x < n → y < n → Calls Try.prog 27 #[V, .int .i64 x, .int .i64 y] W fun e w' => e = .returned (.int .i64 (c x y)) ∧ Below W.heap.size W w'
def PastS (V W : World) : Prop := Below V.heap.size V W
theorem pastS_stays (V : World) : Stays (PastS V) := fun _ _ h hb => Below.trans h (hb.mono (Below.size h))
/-- All places are places of the row. -/
def DB (D : Nat → Nat) (n : Nat) : Prop := ∀ t, t < n → D t < n
theorem DB.pm {D E : Nat → Nat} {a b n : Nat} (h : DB D n) (p : Pm a b D E) (hb : b ≤ n) : DB E n := fun t ht => by
  by_cases k : t < a ∨ b ≤ t
  · rw [p.out k]; exact h t ht
  · obtain ⟨s, _, h2, e⟩ := p.at (t := t) (by omega) (by omega)
    rw [e]; exact h s (by omega)
/-- A step of the class, for the two places that are compared. -/
theorem CmpOK.class {w0 : World} {n : Nat} {c : Nat → Nat → Int} {V : Value} (h : CmpOK w0 n c V) {W : World} (hb : Below w0.heap.size w0 W) {x y : Nat} (hx : x < n) (hy : y < n) (d : Of (PastS W)) :
    Calls Try.prog 27 #[V, .int .i64 x, .int .i64 y] d.world fun e w'' => e = .returned (.int .i64 (c x y)) ∧ ∃ d' : Of (PastS W), w'' = d'.world :=
  class_call (pastS_stays W) d (h d.world (hb.trans (d.holds.mono hb.size)) x y hx hy)

set_option maxRecDepth 100000 in
set_option maxHeartbeats 8000000 in
theorem insertion_ok (w0 : World) (g n cap : Nat) (c : Nat → Nat → Int) (T : Tot c) (V : Value) (C : CmpOK w0 n c V) (D0 : Nat → Nat) (a b : Nat) (w : World) (h : PW w0 g n D0 w) (hn : n ≤ 1000000) (hab : a < b) (hb : b ≤ n) (hd : DB D0 n) (h0 : ∀ t, a ≤ t → t < b → D0 t = t) :
    Calls Try.prog 55 #[.slice (some ⟨g, 0, none⟩) n cap, .int .i64 a, .int .i64 b, .func (.func 27) #[V] #[]] w fun e w' => e = .returned (.tuple #[]) ∧ ∃ D, Pm a b D0 D ∧ Srt c D a b ∧ PW w0 g n D w' := by
  have H := Lib.hid h
  have HC := Lib.hid C
  have HT := Lib.hid T
  have HD := Lib.hid hd
  have H0 := Lib.hid h0
  clear h C T hd h0
  go_enter Try.func55, Try.ntmps55
  go_wp2_with fail
  go_loopw [8] (fun x wr => ∃ (i : Nat) (D : Nat → Nat), x = .int .i64 i ∧ a < i ∧ i ≤ b ∧ Hid (Pm a i D0 D ∧ Srt c D a i) ∧ PW w0 g n D wr) (fun x _ => b - (intOf x).toNat)
  case atStart => exact ⟨a + 1, D0, by go_num, by omega, by omega, Lib.hid ⟨Pm.refl _ _ _, Srt.tiny c D0 (Nat.le_refl _)⟩, H.out⟩
  case round =>
    obtain ⟨i, D, rfl, hai, hib, HI, hP⟩ := hrel
    have HP := Lib.hid hP
    clear hP
    by_cases hlt : i < b
    · go_wp2_with fail
      obtain ⟨wq, ewq⟩ : ∃ wq, wq = wr := ⟨_, rfl⟩
      rw [← ewq] at HP ⊢
      clear ewq
      go_loopw [9] (fun y wr => ∃ (j : Nat) (E : Nat → Nat), y = .int .i64 j ∧ a ≤ j ∧ j ≤ i ∧ Hid (InsJ c D0 E a i j) ∧ PW w0 g n E wr) (fun y _ => (intOf y).toNat)
      case atStart => exact ⟨i, D, rfl, by omega, Nat.le_refl _, Lib.hid (InsJ.start (fun t h1 h2 => H0.out t h1 (by omega)) (by omega) HI.out.1 HI.out.2), HP.out⟩
      case round =>
        obtain ⟨j, E, rfl, haj, hji, HJ, hP⟩ := hrel
        clear HP HI
        have HP := Lib.hid hP
        have ne : Nonempty (Of (PastS wr)) := ⟨⟨wr, Below.refl _ _⟩⟩
        have hdE : DB E n := HD.out.pm HJ.out.pm (by omega)
        by_cases hja : a < j
        · obtain ⟨jp, rfl⟩ : ∃ jp, j = jp + 1 := ⟨j - 1, by omega⟩
          have dg : decide ((a : Int) < (jp : Int) + 1) = true := decide_eq_true (by omega)
          have e1 : IntKind.i64.wrap ((jp : Int) + 1 - 1) = (jp : Int) := by rw [show (jp : Int) + 1 - 1 = jp from by omega]; exact IntWalk.i64_in _ (by omega)
          have p1 : (0 : Int) ≤ (jp : Int) + 1 := by omega
          have q1 : (jp : Int) + 1 < (n : Int) := by omega
          have q2 : (jp : Int) < (n : Int) := by omega
          have t1 : ((jp : Int) + 1).toNat = jp + 1 := by omega
          have x0 : ∀ d : Of (PastS wr), d.world.cell? ⟨g, jp + 1, none⟩ = some (.int .i64 (E (jp + 1))) := fun d => (HP.out.keep d.holds).cell (jp + 1) (by omega)
          have x1 : ∀ d : Of (PastS wr), d.world.cell? ⟨g, jp, none⟩ = some (.int .i64 (E jp)) := fun d => (HP.out.keep d.holds).cell jp (by omega)
          have CC := Lib.hid (fun d => HC.out.class HP.out.below (hdE (jp + 1) (by omega)) (hdE jp (by omega)) d)
          by_cases s : c (E (jp + 1)) (E jp) < 0
          · have ds : decide (c (E (jp + 1)) (E jp) < 0) = true := decide_eq_true s
            have HN := Lib.hid (HJ.out.step (by omega) hji s)
            obtain ⟨x, hx⟩ : ∃ x, x = E (jp + 1) := ⟨_, rfl⟩
            obtain ⟨y, hy⟩ : ∃ y, y = E jp := ⟨_, rfl⟩
            rw [← hx] at x0 CC ds
            rw [← hy] at x1 CC ds
            generalize c x y = z at *
            have HX := Lib.hid hx
            have HY := Lib.hid hy
            clear hx hy s hdE
            go_wp2_with fail
            refine wp_region_class (S := PastS wr) (by kernel_rfl) (by kernel_rfl) (Below.refl _ _).drew ?_
            repeat (go_big_quiet_step (first | (go_at_call 27; exact CC.out _)))
            refine wpQuiet_nil ?_
            rintro _ ⟨d, rfl⟩
            have HQ := Lib.hid (HP.out.keep (show Below wr.heap.size wr d.world from d.holds))
            generalize d.world = wd at *
            clear x0 x1 CC ne HP hP
            have HS := Lib.hid (HQ.out.swap (i := jp + 1) (j := jp) (by omega) (by omega) (by omega))
            obtain ⟨c1, c2, f1, f2, c3⟩ := HQ.out.two (i := jp + 1) (j := jp) (by omega) (by omega) (by omega)
            rw [← HX.out] at HS c1
            rw [← HY.out] at HS c2 c3
            have p2 : (0 : Int) ≤ (jp : Int) := by omega
            have hz : jp + 1 ≠ jp := by omega
            go_wp2_with fail
            go_region
            go_wp2
            go_roundw
            case rel => exact ⟨jp, _, by go_num, by omega, by omega, HN.out, HS.out.drew⟩
            case measure => simp [intOf]
          · have ds : decide (c (E (jp + 1)) (E jp) < 0) = false := decide_eq_false s
            have HN := Lib.hid (HJ.out.fin HT.out haj hji (.inr s))
            generalize c (E (jp + 1)) (E jp) = z at *
            generalize E (jp + 1) = x at *
            generalize E jp = y at *
            clear s hdE
            go_wp2_with fail
            refine wp_region_class (S := PastS wr) (by kernel_rfl) (by kernel_rfl) (Below.refl _ _).drew ?_
            repeat (go_big_quiet_step (first | (go_at_call 27; exact CC.out _)))
            refine wpQuiet_nil ?_
            rintro _ ⟨d, rfl⟩
            have HQ := Lib.hid (HP.out.keep (show Below wr.heap.size wr d.world from d.holds))
            generalize d.world = wd at *
            clear x0 x1 CC ne HP hP
            go_wp2
            go_roundw
            case rel => exact ⟨i + 1, E, by go_num, by omega, by omega, Lib.hid HN.out, HQ.out⟩
            case measure => simp [intOf]; omega
        · obtain rfl : j = a := by omega
          have HN := Lib.hid (HJ.out.fin HT.out (Nat.le_refl _) hji (.inl rfl))
          have dg : decide ((j : Int) < (j : Int)) = false := decide_eq_false (by omega)
          go_wp2_with fail
          refine wp_region_class (S := PastS wr) (by kernel_rfl) (by kernel_rfl) (Below.refl _ _).drew ?_
          repeat (go_big_quiet_step (first | fail))
          refine wpQuiet_nil ?_
          rintro _ ⟨d, rfl⟩
          have HQ := Lib.hid (HP.out.keep (show Below wr.heap.size wr d.world from d.holds))
          generalize d.world = wd at *
          clear ne HP hP
          go_wp2
          go_roundw
          case rel => exact ⟨i + 1, E, by go_num, by omega, by omega, Lib.hid HN.out, HQ.out⟩
          case measure => simp [intOf]; omega
    · obtain rfl : i = b := by omega
      go_wp2
      go_end0
      exact ⟨rfl, D, HI.out.1, HI.out.2, HP.out⟩
theorem insertion_none (n cap : Nat) (s : Option Addr) (a b : Nat) (fv : Value) (w : World) (ha : a ≤ 1000000) (hab : b ≤ a + 1) :
    Calls Try.prog 55 #[.slice s n cap, .int .i64 a, .int .i64 b, fv] w fun e w' => e = .returned (.tuple #[]) ∧ w' = w := by
  have d : ¬ (a : Int) + 1 < (b : Int) := by omega
  go_enter Try.func55, Try.ntmps55
  go_wp2_with fail
  refine wp_loop_rounds 1 ?_
  rw [rounds_succ]
  go_wp2
  go_end0
  exact ⟨rfl, rfl⟩
end Go.Proofs.Ytbcbocnblkepcaa
