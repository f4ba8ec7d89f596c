/-
  The law SlabHas, walked. (gen/SbN.py)
-/
import Derived.Test.YtfghjfgdjlkooaaSbL
import Derived.Test.YtfghjfgdjlkooaaVcG
namespace Go.Proofs.Ytfghjfgdjlkooaa
open Go.RowKit

theorem aS3_at {F : Nat → Nat → Int} {n k : Nat} (h : aS3 F n = true) (hk : k < n) : s3 (F k 0) (F k 1) (F k 2) = true := by
  cases e : s3 (F k 0) (F k 1) (F k 2) with
  | true => rfl
  | false =>
    have z : aS3 F n = false := allB_no (P := fun i => s3 (F i 0) (F i 1) (F i 2)) hk e
    rw [h] at z; cases z
theorem of_has {F : Nat → Nat → Int} {n k : Nat} (h : aS3 F n = true) (hk : k < n) : bxH (lwF F 0 n) (lwF F 1 n) (lwF F 2 n) (hiF F 0 n) (hiF F 1 n) (hiF F 2 n) (F k 0) (F k 1) (F k 2) = true := by
  have n0 : 0 < n := by omega
  obtain ⟨a0, p0, q0⟩ := lwF_at F 0 n n0
  obtain ⟨a1, p1, q1⟩ := lwF_at F 1 n n0
  obtain ⟨a2, p2, q2⟩ := lwF_at F 2 n n0
  obtain ⟨a3, p3, q3⟩ := hiF_at F 0 n n0
  obtain ⟨a4, p4, q4⟩ := hiF_at F 1 n n0
  obtain ⟨a5, p5, q5⟩ := hiF_at F 2 n n0
  have s0 := (s3_iff.1 (aS3_at h p0)).1
  have s1 := (s3_iff.1 (aS3_at h p1)).2.1
  have s2 := (s3_iff.1 (aS3_at h p2)).2.2
  have s3' := (s3_iff.1 (aS3_at h p3)).1
  have s4 := (s3_iff.1 (aS3_at h p4)).2.1
  have s5 := (s3_iff.1 (aS3_at h p5)).2.2
  rw [← q0] at s0
  rw [← q1] at s1
  rw [← q2] at s2
  rw [← q3] at s3'
  rw [← q4] at s4
  rw [← q5] at s5
  have l0 := lwF_le F 0 n k hk
  have l1 := lwF_le F 1 n k hk
  have l2 := lwF_le F 2 n k hk
  have h0 := hiF_le F 0 n k hk
  have h1 := hiF_le F 1 n k hk
  have h2 := hiF_le F 2 n k hk
  exact bxH_iff.2 ⟨bxR_iff.2 ⟨⟨s3_iff.2 ⟨s0, s1, s2⟩, s3_iff.2 ⟨s3', s4, s5⟩⟩, by omega, by omega, by omega⟩, ⟨l0, l1, l2⟩, h0, h1, h2⟩
theorem join_has {l1 l2 l3 h1 h2 h3 m1 m2 m3 k1 k2 k3 p1 p2 p3 : Int} (p : bxR l1 l2 l3 h1 h2 h3 = true) (q : bxR m1 m2 m3 k1 k2 k3 = true) (r : bxH l1 l2 l3 h1 h2 h3 p1 p2 p3 = true ∨ bxH m1 m2 m3 k1 k2 k3 p1 p2 p3 = true) : bxH (min l1 m1) (min l2 m2) (min l3 m3) (max h1 k1) (max h2 k2) (max h3 k3) p1 p2 p3 = true := by
  refine bxH_iff.2 ⟨join_right p q, ?_⟩
  rcases r with r | r
  · obtain ⟨-, ⟨x1, x2, x3⟩, y1, y2, y3⟩ := bxH_iff.1 r; omega
  · obtain ⟨-, ⟨x1, x2, x3⟩, y1, y2, y3⟩ := bxH_iff.1 r; omega
theorem own_low {l1 l2 l3 h1 h2 h3 : Int} (p : bxR l1 l2 l3 h1 h2 h3 = true) : bxH l1 l2 l3 h1 h2 h3 l1 l2 l3 = true := by
  have q := (bxR_iff.1 p).2
  exact bxH_iff.2 ⟨p, ⟨Int.le_refl _, Int.le_refl _, Int.le_refl _⟩, q⟩
theorem own_high {l1 l2 l3 h1 h2 h3 : Int} (p : bxR l1 l2 l3 h1 h2 h3 = true) : bxH l1 l2 l3 h1 h2 h3 h1 h2 h3 = true := by
  have q := (bxR_iff.1 p).2
  exact bxH_iff.2 ⟨p, q, Int.le_refl _, Int.le_refl _, Int.le_refl _⟩
set_option maxRecDepth 100000 in
set_option maxHeartbeats 16000000 in
theorem law_has (P : Option Addr) (n c : Nat) (F : Nat → Nat → Int) (l1 l2 l3 h1 h2 h3 m1 m2 m3 k1 k2 k3 : Int) (w : World) (hr : RowK w P n 3 F) (hn : n ≤ 9223372036854775807) :
    Calls Try.prog 4 #[.slice P n c, .agg #[.int .i64 l1, .int .i64 l2, .int .i64 l3, .int .i64 h1, .int .i64 h2, .int .i64 h3], .agg #[.int .i64 m1, .int .i64 m2, .int .i64 m3, .int .i64 k1, .int .i64 k2, .int .i64 k3]] w fun e' w' => e' = .returned (.bool true) ∧ Below w.heap.size w w' := by
  have HB := Lib.hid (Below.refl w.heap.size w)
  have R := Lib.hid hr
  clear hr
  by_cases h60 : 60 < n
  · have h61 : (60 : Int) < (n : Int) := by omega
    go_enter Try.func4, Try.ntmps4
    go_upto_region 1 with fail
    have hbb := below_new1 w (.cells #[.int .i64 l1, .int .i64 l2, .int .i64 l3, .int .i64 h1, .int .i64 h2, .int .i64 h3] 25)
    have zb : (w.alloc (.cells #[.int .i64 l1, .int .i64 l2, .int .i64 l3, .int .i64 h1, .int .i64 h2, .int .i64 h3] 25)).heap.size = w.heap.size + 1 := by simp
    have HB := Lib.hid hbb
    have kb := Lib.hid (Lok.new w 25 #[.int .i64 l1, .int .i64 l2, .int .i64 l3, .int .i64 h1, .int .i64 h2, .int .i64 h3])
    clear hbb
    generalize w.alloc (.cells #[.int .i64 l1, .int .i64 l2, .int .i64 l3, .int .i64 h1, .int .i64 h2, .int .i64 h3] 25) = Vb at *
    have hbd := below_new1 Vb (.cells #[.int .i64 m1, .int .i64 m2, .int .i64 m3, .int .i64 k1, .int .i64 k2, .int .i64 k3] 25)
    replace kb := Lib.hid (kb.out.keep hbd)
    have zd : (Vb.alloc (.cells #[.int .i64 m1, .int .i64 m2, .int .i64 m3, .int .i64 k1, .int .i64 k2, .int .i64 k3] 25)).heap.size = Vb.heap.size + 1 := by simp
    replace HB := Lib.hid (HB.out.trans (hbd.mono HB.out.size))
    have kd := Lib.hid (Lok.new Vb 25 #[.int .i64 m1, .int .i64 m2, .int .i64 m3, .int .i64 k1, .int .i64 k2, .int .i64 k3])
    clear hbd
    generalize Vb.alloc (.cells #[.int .i64 m1, .int .i64 m2, .int .i64 m3, .int .i64 k1, .int .i64 k2, .int .i64 k3] 25) = Vd at *
    rw [zb] at kd
    clear zb zd
    clear kb kd
    go_wp2
    go_ret
    exact ⟨rfl, HB.out⟩
  · have h61 : ¬ (60 : Int) < (n : Int) := by omega
    have BD := Lib.hid (fun W => boxed_any W)
    have O1 := Lib.hid (fun W (h : Below w.heap.size w W) => slof_any P n c F W (R.out.keep h) (by omega))
    have J1 := Lib.hid (fun W => sljoin_any l1 l2 l3 h1 h2 h3 m1 m2 m3 k1 k2 k3 W)
    have J2 := Lib.hid (fun W => sljoin_any m1 m2 m3 k1 k2 k3 l1 l2 l3 h1 h2 h3 W)
    rw [Bool.and_comm (bxR m1 m2 m3 k1 k2 k3), Int.min_comm m1 l1, Int.min_comm m2 l2, Int.min_comm m3 l3, Int.max_comm k1 h1, Int.max_comm k2 h2, Int.max_comm k3 h3] at J2
    have I1 := Lib.hid (fun W => slis_any l1 l2 l3 h1 h2 h3 W)
    have I2 := Lib.hid (fun W => slis_any m1 m2 m3 k1 k2 k3 W)
    have J3 : Hid (bxR l1 l2 l3 h1 h2 h3 = true → bxR m1 m2 m3 k1 k2 k3 = true → ∀ W, Calls Try.prog 10 #[.agg #[.int .i64 (min l1 m1), .int .i64 (min l2 m2), .int .i64 (min l3 m3), .int .i64 (max h1 k1), .int .i64 (max h2 k2), .int .i64 (max h3 k3)], .agg #[.int .i64 l1, .int .i64 l2, .int .i64 l3, .int .i64 h1, .int .i64 h2, .int .i64 h3]] W fun e' w' => e' = .returned (.tuple #[.agg #[.int .i64 (min l1 m1), .int .i64 (min l2 m2), .int .i64 (min l3 m3), .int .i64 (max h1 k1), .int .i64 (max h2 k2), .int .i64 (max h3 k3)], .int .i64 0]) ∧ Below W.heap.size W w') := Lib.hid (fun p q W => by
      have z := sljoin_any (min l1 m1) (min l2 m2) (min l3 m3) (max h1 k1) (max h2 k2) (max h3 k3) l1 l2 l3 h1 h2 h3 W
      rw [join_right p q, p, show (true && true) = true from rfl, show aE true = 0 from rfl] at z
      simp only [vF_yes] at z
      rw [show min (min l1 m1) l1 = min l1 m1 from by omega, show min (min l2 m2) l2 = min l2 m2 from by omega, show min (min l3 m3) l3 = min l3 m3 from by omega, show max (max h1 k1) h1 = max h1 k1 from by omega, show max (max h2 k2) h2 = max h2 k2 from by omega, show max (max h3 k3) h3 = max h3 k3 from by omega] at z
      exact z)
    have S1 : Hid (bxR l1 l2 l3 h1 h2 h3 = true → bxR m1 m2 m3 k1 k2 k3 = true → ∀ W, Calls Try.prog 19 #[.agg #[.int .i64 (min l1 m1), .int .i64 (min l2 m2), .int .i64 (min l3 m3), .int .i64 (max h1 k1), .int .i64 (max h2 k2), .int .i64 (max h3 k3)], .agg #[.int .i64 l1, .int .i64 l2, .int .i64 l3]] W fun e' w' => e' = .returned (.bool true) ∧ Below W.heap.size W w') := Lib.hid (fun p q W => by
      have z := slhas_any (min l1 m1) (min l2 m2) (min l3 m3) (max h1 k1) (max h2 k2) (max h3 k3) l1 l2 l3 W
      rw [join_has p q (.inl (own_low p))] at z
      exact z)
    have S2 : Hid (bxR l1 l2 l3 h1 h2 h3 = true → bxR m1 m2 m3 k1 k2 k3 = true → ∀ W, Calls Try.prog 19 #[.agg #[.int .i64 (min l1 m1), .int .i64 (min l2 m2), .int .i64 (min l3 m3), .int .i64 (max h1 k1), .int .i64 (max h2 k2), .int .i64 (max h3 k3)], .agg #[.int .i64 h1, .int .i64 h2, .int .i64 h3]] W fun e' w' => e' = .returned (.bool true) ∧ Below W.heap.size W w') := Lib.hid (fun p q W => by
      have z := slhas_any (min l1 m1) (min l2 m2) (min l3 m3) (max h1 k1) (max h2 k2) (max h3 k3) h1 h2 h3 W
      rw [join_has p q (.inl (own_high p))] at z
      exact z)
    have S3 : Hid (bxR l1 l2 l3 h1 h2 h3 = true → bxR m1 m2 m3 k1 k2 k3 = true → ∀ W, Calls Try.prog 19 #[.agg #[.int .i64 (min l1 m1), .int .i64 (min l2 m2), .int .i64 (min l3 m3), .int .i64 (max h1 k1), .int .i64 (max h2 k2), .int .i64 (max h3 k3)], .agg #[.int .i64 m1, .int .i64 m2, .int .i64 m3]] W fun e' w' => e' = .returned (.bool true) ∧ Below W.heap.size W w') := Lib.hid (fun p q W => by
      have z := slhas_any (min l1 m1) (min l2 m2) (min l3 m3) (max h1 k1) (max h2 k2) (max h3 k3) m1 m2 m3 W
      rw [join_has p q (.inr (own_low q))] at z
      exact z)
    have S4 : Hid (bxR l1 l2 l3 h1 h2 h3 = true → bxR m1 m2 m3 k1 k2 k3 = true → ∀ W, Calls Try.prog 19 #[.agg #[.int .i64 (min l1 m1), .int .i64 (min l2 m2), .int .i64 (min l3 m3), .int .i64 (max h1 k1), .int .i64 (max h2 k2), .int .i64 (max h3 k3)], .agg #[.int .i64 k1, .int .i64 k2, .int .i64 k3]] W fun e' w' => e' = .returned (.bool true) ∧ Below W.heap.size W w') := Lib.hid (fun p q W => by
      have z := slhas_any (min l1 m1) (min l2 m2) (min l3 m3) (max h1 k1) (max h2 k2) (max h3 k3) k1 k2 k3 W
      rw [join_has p q (.inr (own_high q))] at z
      exact z)
    generalize min l1 m1 = u0 at *
    generalize min l2 m2 = u1 at *
    generalize min l3 m3 = u2 at *
    generalize max h1 k1 = v0 at *
    generalize max h2 k2 = v1 at *
    generalize max h3 k3 = v2 at *
    generalize bxR l1 l2 l3 h1 h2 h3 = rb at *
    generalize bxR m1 m2 m3 k1 k2 k3 = rd at *
    cases hy : bxY n (aS3 F n) with
    | false =>
      have ne1 : ¬ bxE n (aS3 F n) = 0 := by
        unfold bxE
        by_cases z : n = 0
        · rw [if_pos z]; decide
        · rw [if_neg z]
          unfold bxY at hy
          rw [decide_eq_false z] at hy
          have q : aS3 F n = false := hy
          rw [q]; decide
      rw [hy] at O1
      simp only [vF_no] at O1
      generalize bxE n (aS3 F n) = e1 at *
      have ne2 : (e1 == 0) = false := by rw [beq_eq_false_iff_ne]; exact ne1
      clear hy R
      go_enter Try.func4, Try.ntmps4
      go_upto_region 1 with fail
      have hbb := below_new1 w (.cells #[.int .i64 l1, .int .i64 l2, .int .i64 l3, .int .i64 h1, .int .i64 h2, .int .i64 h3] 25)
      have zb : (w.alloc (.cells #[.int .i64 l1, .int .i64 l2, .int .i64 l3, .int .i64 h1, .int .i64 h2, .int .i64 h3] 25)).heap.size = w.heap.size + 1 := by simp
      have HB := Lib.hid hbb
      have kb := Lib.hid (Lok.new w 25 #[.int .i64 l1, .int .i64 l2, .int .i64 l3, .int .i64 h1, .int .i64 h2, .int .i64 h3])
      clear hbb
      generalize w.alloc (.cells #[.int .i64 l1, .int .i64 l2, .int .i64 l3, .int .i64 h1, .int .i64 h2, .int .i64 h3] 25) = Vb at *
      have hbd := below_new1 Vb (.cells #[.int .i64 m1, .int .i64 m2, .int .i64 m3, .int .i64 k1, .int .i64 k2, .int .i64 k3] 25)
      replace kb := Lib.hid (kb.out.keep hbd)
      have zd : (Vb.alloc (.cells #[.int .i64 m1, .int .i64 m2, .int .i64 m3, .int .i64 k1, .int .i64 k2, .int .i64 k3] 25)).heap.size = Vb.heap.size + 1 := by simp
      replace HB := Lib.hid (HB.out.trans (hbd.mono HB.out.size))
      have kd := Lib.hid (Lok.new Vb 25 #[.int .i64 m1, .int .i64 m2, .int .i64 m3, .int .i64 k1, .int .i64 k2, .int .i64 k3])
      clear hbd
      generalize Vb.alloc (.cells #[.int .i64 m1, .int .i64 m2, .int .i64 m3, .int .i64 k1, .int .i64 k2, .int .i64 k3] 25) = Vd at *
      rw [zb] at kd
      clear zb zd
      go_wp2_with fail
      (((with_reducible refine (O1.out _ HB.out).mono ?_); rintro e w1 ⟨rfl, hb1⟩); replace HB := Lib.hid (HB.out.trans (hb1.mono HB.out.size)); replace kb := Lib.hid (kb.out.keep hb1); replace kd := Lib.hid (kd.out.keep hb1); clear hb1)
      clear O1
      go_wp2_with fail
      have hbo := below_new1 w1 (.cells #[.int .i64 0, .int .i64 0, .int .i64 0, .int .i64 0, .int .i64 0, .int .i64 0] 25)
      replace kb := Lib.hid (kb.out.keep hbo)
      replace kd := Lib.hid (kd.out.keep hbo)
      have zo : (w1.alloc (.cells #[.int .i64 0, .int .i64 0, .int .i64 0, .int .i64 0, .int .i64 0, .int .i64 0] 25)).heap.size = w1.heap.size + 1 := by simp
      replace HB := Lib.hid (HB.out.trans (hbo.mono HB.out.size))
      have ko := Lib.hid (Lok.new w1 25 #[.int .i64 0, .int .i64 0, .int .i64 0, .int .i64 0, .int .i64 0, .int .i64 0])
      clear hbo
      generalize w1.alloc (.cells #[.int .i64 0, .int .i64 0, .int .i64 0, .int .i64 0, .int .i64 0, .int .i64 0] 25) = Vo at *
      clear zo ko
      go_loopw [9] (fun y wr => ∃ k : Nat, y = .int .i64 k ∧ k ≤ n ∧ Below Vo.heap.size Vo wr) (fun y _ => n - (intOf y).toNat)
      case atStart => exact ⟨0, rfl, Nat.zero_le _, Below.refl _ _⟩
      case round =>
        obtain ⟨k, rfl, hk, hB⟩ := hrel
        by_cases hlt : k < n
        · have i0 : (0 : Int) ≤ (k : Int) := by omega
          have i1 : (k : Int) < (n : Int) := by omega
          have i2 : ((k : Int)).toNat = k := by omega
          have hBh := Lib.hid hB
          clear hB
          have ST := Lib.hid (pastV_stays wr)
          have ne : Nonempty (Of (PastV wr)) := ⟨⟨wr, Below.refl _ _⟩⟩
          go_upto_region 7 with fail
          refine wp_region_class (S := PastV wr) (by kernel_rfl) (by kernel_rfl) (Below.refl _ _).drew ?_
          repeat (go_big_quiet_step (fail))
          refine wpQuiet_nil ?_
          rintro _ ⟨D, rfl⟩
          have hD : Below wr.heap.size wr D.world := D.holds
          go_wp2
          go_roundw
          case rel => exact ⟨k + 1, by go_num, hlt, hBh.out.trans (hD.mono hBh.out.size)⟩
          case measure => simp [intOf]; omega
        · obtain rfl : k = n := by omega
          replace HB := Lib.hid (HB.out.trans (hB.mono HB.out.size))
          replace kb := Lib.hid (kb.out.keep hB)
          replace kd := Lib.hid (kd.out.keep hB)
          clear hB
          cases rb with
          | false =>
            simp only [Bool.false_and, vF_no, show aE false = 1 from rfl] at J1 J2
            clear J3 S1 S2 S3 S4
            go_upto_region 21 with fail
            have b0 := kb.out.cell (i := 0) rfl
            have b1 := kb.out.cell (i := 1) rfl
            have b2 := kb.out.cell (i := 2) rfl
            have b3 := kb.out.cell (i := 3) rfl
            have b4 := kb.out.cell (i := 4) rfl
            have b5 := kb.out.cell (i := 5) rfl
            have d0 := kd.out.cell (i := 0) rfl
            have d1 := kd.out.cell (i := 1) rfl
            have d2 := kd.out.cell (i := 2) rfl
            have d3 := kd.out.cell (i := 3) rfl
            have d4 := kd.out.cell (i := 4) rfl
            have d5 := kd.out.cell (i := 5) rfl
            go_wp2_with fail
            clear b0 b1 b2 b3 b4 b5 d0 d1 d2 d3 d4 d5
            (((with_reducible refine (J1.out _).mono ?_); rintro e w21 ⟨rfl, hb21⟩); replace HB := Lib.hid (HB.out.trans (hb21.mono HB.out.size)); replace kb := Lib.hid (kb.out.keep hb21); replace kd := Lib.hid (kd.out.keep hb21); clear hb21)
            clear J1
            go_upto_region 22 with fail
            have hbu := below_new1 w21 (.cells #[.int .i64 0, .int .i64 0, .int .i64 0, .int .i64 0, .int .i64 0, .int .i64 0] 25)
            replace kb := Lib.hid (kb.out.keep hbu)
            replace kd := Lib.hid (kd.out.keep hbu)
            have zu : (w21.alloc (.cells #[.int .i64 0, .int .i64 0, .int .i64 0, .int .i64 0, .int .i64 0, .int .i64 0] 25)).heap.size = w21.heap.size + 1 := by simp
            replace HB := Lib.hid (HB.out.trans (hbu.mono HB.out.size))
            have ku := Lib.hid (Lok.new w21 25 #[.int .i64 0, .int .i64 0, .int .i64 0, .int .i64 0, .int .i64 0, .int .i64 0])
            clear hbu
            generalize w21.alloc (.cells #[.int .i64 0, .int .i64 0, .int .i64 0, .int .i64 0, .int .i64 0, .int .i64 0] 25) = Vu at *
            clear zu
            have d0 := kd.out.cell (i := 0) rfl
            have d1 := kd.out.cell (i := 1) rfl
            have d2 := kd.out.cell (i := 2) rfl
            have d3 := kd.out.cell (i := 3) rfl
            have d4 := kd.out.cell (i := 4) rfl
            have d5 := kd.out.cell (i := 5) rfl
            have b0 := kb.out.cell (i := 0) rfl
            have b1 := kb.out.cell (i := 1) rfl
            have b2 := kb.out.cell (i := 2) rfl
            have b3 := kb.out.cell (i := 3) rfl
            have b4 := kb.out.cell (i := 4) rfl
            have b5 := kb.out.cell (i := 5) rfl
            go_wp2_with fail
            clear d0 d1 d2 d3 d4 d5 b0 b1 b2 b3 b4 b5
            (((with_reducible refine (J2.out _).mono ?_); rintro e w22 ⟨rfl, hb22⟩); replace HB := Lib.hid (HB.out.trans (hb22.mono HB.out.size)); replace kb := Lib.hid (kb.out.keep hb22); replace kd := Lib.hid (kd.out.keep hb22); replace ku := Lib.hid (ku.out.keep hb22); clear hb22)
            clear J2
            go_upto_region 23 with fail
            have hbv := below_new1 w22 (.cells #[.int .i64 0, .int .i64 0, .int .i64 0, .int .i64 0, .int .i64 0, .int .i64 0] 25)
            replace kb := Lib.hid (kb.out.keep hbv)
            replace kd := Lib.hid (kd.out.keep hbv)
            replace ku := Lib.hid (ku.out.keep hbv)
            have zv : (w22.alloc (.cells #[.int .i64 0, .int .i64 0, .int .i64 0, .int .i64 0, .int .i64 0, .int .i64 0] 25)).heap.size = w22.heap.size + 1 := by simp
            replace HB := Lib.hid (HB.out.trans (hbv.mono HB.out.size))
            have kv := Lib.hid (Lok.new w22 25 #[.int .i64 0, .int .i64 0, .int .i64 0, .int .i64 0, .int .i64 0, .int .i64 0])
            clear hbv
            generalize w22.alloc (.cells #[.int .i64 0, .int .i64 0, .int .i64 0, .int .i64 0, .int .i64 0, .int .i64 0] 25) = Vv at *
            clear zv
            go_wp2_with fail
            (((with_reducible refine (BD.out _).mono ?_); rintro e w23 ⟨rfl, hb23⟩); replace HB := Lib.hid (HB.out.trans (hb23.mono HB.out.size)); replace kb := Lib.hid (kb.out.keep hb23); replace kd := Lib.hid (kd.out.keep hb23); clear hb23)
            clear BD ku kv
            have b0 := kb.out.cell (i := 0) rfl
            have b1 := kb.out.cell (i := 1) rfl
            have b2 := kb.out.cell (i := 2) rfl
            have b3 := kb.out.cell (i := 3) rfl
            have b4 := kb.out.cell (i := 4) rfl
            have b5 := kb.out.cell (i := 5) rfl
            go_wp2_with fail
            clear b0 b1 b2 b3 b4 b5
            (((with_reducible refine (I1.out _).mono ?_); rintro e w24 ⟨rfl, hb24⟩); replace HB := Lib.hid (HB.out.trans (hb24.mono HB.out.size)); replace kb := Lib.hid (kb.out.keep hb24); replace kd := Lib.hid (kd.out.keep hb24); clear hb24)
            clear I1
            go_wp2
            go_ret
            exact ⟨rfl, HB.out⟩
          | true =>
            cases rd with
            | false =>
              simp only [Bool.true_and, vF_no, show aE false = 1 from rfl] at J1 J2
              clear J3 S1 S2 S3 S4
              go_upto_region 21 with fail
              have b0 := kb.out.cell (i := 0) rfl
              have b1 := kb.out.cell (i := 1) rfl
              have b2 := kb.out.cell (i := 2) rfl
              have b3 := kb.out.cell (i := 3) rfl
              have b4 := kb.out.cell (i := 4) rfl
              have b5 := kb.out.cell (i := 5) rfl
              have d0 := kd.out.cell (i := 0) rfl
              have d1 := kd.out.cell (i := 1) rfl
              have d2 := kd.out.cell (i := 2) rfl
              have d3 := kd.out.cell (i := 3) rfl
              have d4 := kd.out.cell (i := 4) rfl
              have d5 := kd.out.cell (i := 5) rfl
              go_wp2_with fail
              clear b0 b1 b2 b3 b4 b5 d0 d1 d2 d3 d4 d5
              (((with_reducible refine (J1.out _).mono ?_); rintro e w21 ⟨rfl, hb21⟩); replace HB := Lib.hid (HB.out.trans (hb21.mono HB.out.size)); replace kb := Lib.hid (kb.out.keep hb21); replace kd := Lib.hid (kd.out.keep hb21); clear hb21)
              clear J1
              go_upto_region 22 with fail
              have hbu := below_new1 w21 (.cells #[.int .i64 0, .int .i64 0, .int .i64 0, .int .i64 0, .int .i64 0, .int .i64 0] 25)
              replace kb := Lib.hid (kb.out.keep hbu)
              replace kd := Lib.hid (kd.out.keep hbu)
              have zu : (w21.alloc (.cells #[.int .i64 0, .int .i64 0, .int .i64 0, .int .i64 0, .int .i64 0, .int .i64 0] 25)).heap.size = w21.heap.size + 1 := by simp
              replace HB := Lib.hid (HB.out.trans (hbu.mono HB.out.size))
              have ku := Lib.hid (Lok.new w21 25 #[.int .i64 0, .int .i64 0, .int .i64 0, .int .i64 0, .int .i64 0, .int .i64 0])
              clear hbu
              generalize w21.alloc (.cells #[.int .i64 0, .int .i64 0, .int .i64 0, .int .i64 0, .int .i64 0, .int .i64 0] 25) = Vu at *
              clear zu
              have d0 := kd.out.cell (i := 0) rfl
              have d1 := kd.out.cell (i := 1) rfl
              have d2 := kd.out.cell (i := 2) rfl
              have d3 := kd.out.cell (i := 3) rfl
              have d4 := kd.out.cell (i := 4) rfl
              have d5 := kd.out.cell (i := 5) rfl
              have b0 := kb.out.cell (i := 0) rfl
              have b1 := kb.out.cell (i := 1) rfl
              have b2 := kb.out.cell (i := 2) rfl
              have b3 := kb.out.cell (i := 3) rfl
              have b4 := kb.out.cell (i := 4) rfl
              have b5 := kb.out.cell (i := 5) rfl
              go_wp2_with fail
              clear d0 d1 d2 d3 d4 d5 b0 b1 b2 b3 b4 b5
              (((with_reducible refine (J2.out _).mono ?_); rintro e w22 ⟨rfl, hb22⟩); replace HB := Lib.hid (HB.out.trans (hb22.mono HB.out.size)); replace kb := Lib.hid (kb.out.keep hb22); replace kd := Lib.hid (kd.out.keep hb22); replace ku := Lib.hid (ku.out.keep hb22); clear hb22)
              clear J2
              go_upto_region 23 with fail
              have hbv := below_new1 w22 (.cells #[.int .i64 0, .int .i64 0, .int .i64 0, .int .i64 0, .int .i64 0, .int .i64 0] 25)
              replace kb := Lib.hid (kb.out.keep hbv)
              replace kd := Lib.hid (kd.out.keep hbv)
              replace ku := Lib.hid (ku.out.keep hbv)
              have zv : (w22.alloc (.cells #[.int .i64 0, .int .i64 0, .int .i64 0, .int .i64 0, .int .i64 0, .int .i64 0] 25)).heap.size = w22.heap.size + 1 := by simp
              replace HB := Lib.hid (HB.out.trans (hbv.mono HB.out.size))
              have kv := Lib.hid (Lok.new w22 25 #[.int .i64 0, .int .i64 0, .int .i64 0, .int .i64 0, .int .i64 0, .int .i64 0])
              clear hbv
              generalize w22.alloc (.cells #[.int .i64 0, .int .i64 0, .int .i64 0, .int .i64 0, .int .i64 0, .int .i64 0] 25) = Vv at *
              clear zv
              go_wp2_with fail
              (((with_reducible refine (BD.out _).mono ?_); rintro e w23 ⟨rfl, hb23⟩); replace HB := Lib.hid (HB.out.trans (hb23.mono HB.out.size)); replace kb := Lib.hid (kb.out.keep hb23); replace kd := Lib.hid (kd.out.keep hb23); clear hb23)
              clear BD ku kv
              have b0 := kb.out.cell (i := 0) rfl
              have b1 := kb.out.cell (i := 1) rfl
              have b2 := kb.out.cell (i := 2) rfl
              have b3 := kb.out.cell (i := 3) rfl
              have b4 := kb.out.cell (i := 4) rfl
              have b5 := kb.out.cell (i := 5) rfl
              go_wp2_with fail
              clear b0 b1 b2 b3 b4 b5
              (((with_reducible refine (I1.out _).mono ?_); rintro e w24 ⟨rfl, hb24⟩); replace HB := Lib.hid (HB.out.trans (hb24.mono HB.out.size)); replace kb := Lib.hid (kb.out.keep hb24); replace kd := Lib.hid (kd.out.keep hb24); clear hb24)
              clear I1
              have d0 := kd.out.cell (i := 0) rfl
              have d1 := kd.out.cell (i := 1) rfl
              have d2 := kd.out.cell (i := 2) rfl
              have d3 := kd.out.cell (i := 3) rfl
              have d4 := kd.out.cell (i := 4) rfl
              have d5 := kd.out.cell (i := 5) rfl
              go_wp2_with fail
              clear d0 d1 d2 d3 d4 d5
              (((with_reducible refine (I2.out _).mono ?_); rintro e w25 ⟨rfl, hb25⟩); replace HB := Lib.hid (HB.out.trans (hb25.mono HB.out.size)); replace kb := Lib.hid (kb.out.keep hb25); replace kd := Lib.hid (kd.out.keep hb25); clear hb25)
              clear I2
              go_wp2
              go_ret
              exact ⟨rfl, HB.out⟩
            | true =>
              simp only [Bool.true_and, vF_yes, show aE true = 0 from rfl] at J1 J2
              replace J3 := Lib.hid (J3.out rfl rfl)
              replace S1 := Lib.hid (S1.out rfl rfl)
              replace S2 := Lib.hid (S2.out rfl rfl)
              replace S3 := Lib.hid (S3.out rfl rfl)
              replace S4 := Lib.hid (S4.out rfl rfl)
              clear I1 I2
              go_upto_region 21 with fail
              have b0 := kb.out.cell (i := 0) rfl
              have b1 := kb.out.cell (i := 1) rfl
              have b2 := kb.out.cell (i := 2) rfl
              have b3 := kb.out.cell (i := 3) rfl
              have b4 := kb.out.cell (i := 4) rfl
              have b5 := kb.out.cell (i := 5) rfl
              have d0 := kd.out.cell (i := 0) rfl
              have d1 := kd.out.cell (i := 1) rfl
              have d2 := kd.out.cell (i := 2) rfl
              have d3 := kd.out.cell (i := 3) rfl
              have d4 := kd.out.cell (i := 4) rfl
              have d5 := kd.out.cell (i := 5) rfl
              go_wp2_with fail
              clear b0 b1 b2 b3 b4 b5 d0 d1 d2 d3 d4 d5
              (((with_reducible refine (J1.out _).mono ?_); rintro e w21 ⟨rfl, hb21⟩); replace HB := Lib.hid (HB.out.trans (hb21.mono HB.out.size)); replace kb := Lib.hid (kb.out.keep hb21); replace kd := Lib.hid (kd.out.keep hb21); clear hb21)
              clear J1
              go_upto_region 22 with fail
              have hbu := below_new1 w21 (.cells #[.int .i64 u0, .int .i64 u1, .int .i64 u2, .int .i64 v0, .int .i64 v1, .int .i64 v2] 25)
              replace kb := Lib.hid (kb.out.keep hbu)
              replace kd := Lib.hid (kd.out.keep hbu)
              have zu : (w21.alloc (.cells #[.int .i64 u0, .int .i64 u1, .int .i64 u2, .int .i64 v0, .int .i64 v1, .int .i64 v2] 25)).heap.size = w21.heap.size + 1 := by simp
              replace HB := Lib.hid (HB.out.trans (hbu.mono HB.out.size))
              have ku := Lib.hid (Lok.new w21 25 #[.int .i64 u0, .int .i64 u1, .int .i64 u2, .int .i64 v0, .int .i64 v1, .int .i64 v2])
              clear hbu
              generalize w21.alloc (.cells #[.int .i64 u0, .int .i64 u1, .int .i64 u2, .int .i64 v0, .int .i64 v1, .int .i64 v2] 25) = Vu at *
              clear zu
              have d0 := kd.out.cell (i := 0) rfl
              have d1 := kd.out.cell (i := 1) rfl
              have d2 := kd.out.cell (i := 2) rfl
              have d3 := kd.out.cell (i := 3) rfl
              have d4 := kd.out.cell (i := 4) rfl
              have d5 := kd.out.cell (i := 5) rfl
              have b0 := kb.out.cell (i := 0) rfl
              have b1 := kb.out.cell (i := 1) rfl
              have b2 := kb.out.cell (i := 2) rfl
              have b3 := kb.out.cell (i := 3) rfl
              have b4 := kb.out.cell (i := 4) rfl
              have b5 := kb.out.cell (i := 5) rfl
              go_wp2_with fail
              clear d0 d1 d2 d3 d4 d5 b0 b1 b2 b3 b4 b5
              (((with_reducible refine (J2.out _).mono ?_); rintro e w22 ⟨rfl, hb22⟩); replace HB := Lib.hid (HB.out.trans (hb22.mono HB.out.size)); replace kb := Lib.hid (kb.out.keep hb22); replace kd := Lib.hid (kd.out.keep hb22); replace ku := Lib.hid (ku.out.keep hb22); clear hb22)
              clear J2
              go_upto_region 23 with fail
              have hbv := below_new1 w22 (.cells #[.int .i64 u0, .int .i64 u1, .int .i64 u2, .int .i64 v0, .int .i64 v1, .int .i64 v2] 25)
              replace kb := Lib.hid (kb.out.keep hbv)
              replace kd := Lib.hid (kd.out.keep hbv)
              replace ku := Lib.hid (ku.out.keep hbv)
              have zv : (w22.alloc (.cells #[.int .i64 u0, .int .i64 u1, .int .i64 u2, .int .i64 v0, .int .i64 v1, .int .i64 v2] 25)).heap.size = w22.heap.size + 1 := by simp
              replace HB := Lib.hid (HB.out.trans (hbv.mono HB.out.size))
              have kv := Lib.hid (Lok.new w22 25 #[.int .i64 u0, .int .i64 u1, .int .i64 u2, .int .i64 v0, .int .i64 v1, .int .i64 v2])
              clear hbv
              generalize w22.alloc (.cells #[.int .i64 u0, .int .i64 u1, .int .i64 u2, .int .i64 v0, .int .i64 v1, .int .i64 v2] 25) = Vv at *
              clear zv
              have u0 := ku.out.cell (i := 0) rfl
              have u1 := ku.out.cell (i := 1) rfl
              have u2 := ku.out.cell (i := 2) rfl
              have u3 := ku.out.cell (i := 3) rfl
              have u4 := ku.out.cell (i := 4) rfl
              have u5 := ku.out.cell (i := 5) rfl
              have b0 := kb.out.cell (i := 0) rfl
              have b1 := kb.out.cell (i := 1) rfl
              have b2 := kb.out.cell (i := 2) rfl
              have b3 := kb.out.cell (i := 3) rfl
              have b4 := kb.out.cell (i := 4) rfl
              have b5 := kb.out.cell (i := 5) rfl
              go_wp2_with fail
              clear u0 u1 u2 u3 u4 u5 b0 b1 b2 b3 b4 b5
              (((with_reducible refine (J3.out _).mono ?_); rintro e w25 ⟨rfl, hb25⟩); replace HB := Lib.hid (HB.out.trans (hb25.mono HB.out.size)); replace kb := Lib.hid (kb.out.keep hb25); replace kd := Lib.hid (kd.out.keep hb25); replace ku := Lib.hid (ku.out.keep hb25); replace kv := Lib.hid (kv.out.keep hb25); clear hb25)
              clear J3
              go_upto_region 26 with fail
              have hbo := below_new1 w25 (.cells #[.int .i64 u0, .int .i64 u1, .int .i64 u2, .int .i64 v0, .int .i64 v1, .int .i64 v2] 25)
              replace kb := Lib.hid (kb.out.keep hbo)
              replace kd := Lib.hid (kd.out.keep hbo)
              replace ku := Lib.hid (ku.out.keep hbo)
              replace kv := Lib.hid (kv.out.keep hbo)
              have zo : (w25.alloc (.cells #[.int .i64 u0, .int .i64 u1, .int .i64 u2, .int .i64 v0, .int .i64 v1, .int .i64 v2] 25)).heap.size = w25.heap.size + 1 := by simp
              replace HB := Lib.hid (HB.out.trans (hbo.mono HB.out.size))
              have ko := Lib.hid (Lok.new w25 25 #[.int .i64 u0, .int .i64 u1, .int .i64 u2, .int .i64 v0, .int .i64 v1, .int .i64 v2])
              clear hbo
              generalize w25.alloc (.cells #[.int .i64 u0, .int .i64 u1, .int .i64 u2, .int .i64 v0, .int .i64 v1, .int .i64 v2] 25) = Vo at *
              clear zo
              go_wp2_with fail
              (((with_reducible refine (BD.out _).mono ?_); rintro e w26 ⟨rfl, hb26⟩); replace HB := Lib.hid (HB.out.trans (hb26.mono HB.out.size)); replace kb := Lib.hid (kb.out.keep hb26); replace kd := Lib.hid (kd.out.keep hb26); replace ku := Lib.hid (ku.out.keep hb26); replace kv := Lib.hid (kv.out.keep hb26); replace ko := Lib.hid (ko.out.keep hb26); clear hb26)
              clear BD
              have u0 := ku.out.cell (i := 0) rfl
              have u1 := ku.out.cell (i := 1) rfl
              have u2 := ku.out.cell (i := 2) rfl
              have u3 := ku.out.cell (i := 3) rfl
              have u4 := ku.out.cell (i := 4) rfl
              have u5 := ku.out.cell (i := 5) rfl
              have v0 := kv.out.cell (i := 0) rfl
              have v1 := kv.out.cell (i := 1) rfl
              have v2 := kv.out.cell (i := 2) rfl
              have v3 := kv.out.cell (i := 3) rfl
              have v4 := kv.out.cell (i := 4) rfl
              have v5 := kv.out.cell (i := 5) rfl
              have o0 := ko.out.cell (i := 0) rfl
              have o1 := ko.out.cell (i := 1) rfl
              have o2 := ko.out.cell (i := 2) rfl
              have o3 := ko.out.cell (i := 3) rfl
              have o4 := ko.out.cell (i := 4) rfl
              have o5 := ko.out.cell (i := 5) rfl
              have b0 := kb.out.cell (i := 0) rfl
              have b1 := kb.out.cell (i := 1) rfl
              have b2 := kb.out.cell (i := 2) rfl
              have b3 := kb.out.cell (i := 3) rfl
              have b4 := kb.out.cell (i := 4) rfl
              have b5 := kb.out.cell (i := 5) rfl
              have d0 := kd.out.cell (i := 0) rfl
              have d1 := kd.out.cell (i := 1) rfl
              have d2 := kd.out.cell (i := 2) rfl
              have d3 := kd.out.cell (i := 3) rfl
              have d4 := kd.out.cell (i := 4) rfl
              have d5 := kd.out.cell (i := 5) rfl
              go_wp2_with fail
              clear u0 u1 u2 u3 u4 u5 v0 v1 v2 v3 v4 v5 o0 o1 o2 o3 o4 o5 b0 b1 b2 b3 b4 b5 d0 d1 d2 d3 d4 d5
              (((with_reducible refine (S1.out _).mono ?_); rintro e w27 ⟨rfl, hb27⟩); replace HB := Lib.hid (HB.out.trans (hb27.mono HB.out.size)); replace kb := Lib.hid (kb.out.keep hb27); replace kd := Lib.hid (kd.out.keep hb27); replace ku := Lib.hid (ku.out.keep hb27); replace kv := Lib.hid (kv.out.keep hb27); replace ko := Lib.hid (ko.out.keep hb27); clear hb27)
              clear S1 kv ko
              have u0 := ku.out.cell (i := 0) rfl
              have u1 := ku.out.cell (i := 1) rfl
              have u2 := ku.out.cell (i := 2) rfl
              have u3 := ku.out.cell (i := 3) rfl
              have u4 := ku.out.cell (i := 4) rfl
              have u5 := ku.out.cell (i := 5) rfl
              have b0 := kb.out.cell (i := 0) rfl
              have b1 := kb.out.cell (i := 1) rfl
              have b2 := kb.out.cell (i := 2) rfl
              have b3 := kb.out.cell (i := 3) rfl
              have b4 := kb.out.cell (i := 4) rfl
              have b5 := kb.out.cell (i := 5) rfl
              go_wp2_with fail
              clear u0 u1 u2 u3 u4 u5 b0 b1 b2 b3 b4 b5
              (((with_reducible refine (S2.out _).mono ?_); rintro e w28 ⟨rfl, hb28⟩); replace HB := Lib.hid (HB.out.trans (hb28.mono HB.out.size)); replace kb := Lib.hid (kb.out.keep hb28); replace kd := Lib.hid (kd.out.keep hb28); replace ku := Lib.hid (ku.out.keep hb28); clear hb28)
              clear S2 kb
              have u0 := ku.out.cell (i := 0) rfl
              have u1 := ku.out.cell (i := 1) rfl
              have u2 := ku.out.cell (i := 2) rfl
              have u3 := ku.out.cell (i := 3) rfl
              have u4 := ku.out.cell (i := 4) rfl
              have u5 := ku.out.cell (i := 5) rfl
              have d0 := kd.out.cell (i := 0) rfl
              have d1 := kd.out.cell (i := 1) rfl
              have d2 := kd.out.cell (i := 2) rfl
              have d3 := kd.out.cell (i := 3) rfl
              have d4 := kd.out.cell (i := 4) rfl
              have d5 := kd.out.cell (i := 5) rfl
              go_wp2_with fail
              clear u0 u1 u2 u3 u4 u5 d0 d1 d2 d3 d4 d5
              (((with_reducible refine (S3.out _).mono ?_); rintro e w29 ⟨rfl, hb29⟩); replace HB := Lib.hid (HB.out.trans (hb29.mono HB.out.size)); replace kd := Lib.hid (kd.out.keep hb29); replace ku := Lib.hid (ku.out.keep hb29); clear hb29)
              clear S3
              have u0 := ku.out.cell (i := 0) rfl
              have u1 := ku.out.cell (i := 1) rfl
              have u2 := ku.out.cell (i := 2) rfl
              have u3 := ku.out.cell (i := 3) rfl
              have u4 := ku.out.cell (i := 4) rfl
              have u5 := ku.out.cell (i := 5) rfl
              have d0 := kd.out.cell (i := 0) rfl
              have d1 := kd.out.cell (i := 1) rfl
              have d2 := kd.out.cell (i := 2) rfl
              have d3 := kd.out.cell (i := 3) rfl
              have d4 := kd.out.cell (i := 4) rfl
              have d5 := kd.out.cell (i := 5) rfl
              go_wp2_with fail
              clear u0 u1 u2 u3 u4 u5 d0 d1 d2 d3 d4 d5
              (((with_reducible refine (S4.out _).mono ?_); rintro e w30 ⟨rfl, hb30⟩); replace HB := Lib.hid (HB.out.trans (hb30.mono HB.out.size)); replace kd := Lib.hid (kd.out.keep hb30); replace ku := Lib.hid (ku.out.keep hb30); clear hb30)
              clear S4 ku kd
              go_wp2
              go_ret
              exact ⟨rfl, HB.out⟩
    | true =>
      have hn0 : 0 < n := by
        unfold bxY at hy
        rcases Nat.eq_zero_or_pos n with z | z
        · rw [decide_eq_true z] at hy; cases hy
        · exact z
      have hs : aS3 F n = true := by
        rw [bxY_n (by omega)] at hy; exact hy
      rw [hy, bxE_n (by omega), hs, show rE true = 0 from rfl] at O1
      simp only [vF_yes] at O1
      have LA := Lib.hid (lwF_at F 0 n hn0)
      have HA := Lib.hid (hiF_at F 2 n hn0)
      have HX : Hid (∀ k, k < n → ∀ W, Calls Try.prog 19 #[.agg #[.int .i64 (lwF F 0 n), .int .i64 (lwF F 1 n), .int .i64 (lwF F 2 n), .int .i64 (hiF F 0 n), .int .i64 (hiF F 1 n), .int .i64 (hiF F 2 n)], .agg #[.int .i64 (F k 0), .int .i64 (F k 1), .int .i64 (F k 2)]] W fun e' w' => e' = .returned (.bool true) ∧ Below W.heap.size W w') := Lib.hid (fun k hk W => by
        have z := slhas_any (lwF F 0 n) (lwF F 1 n) (lwF F 2 n) (hiF F 0 n) (hiF F 1 n) (hiF F 2 n) (F k 0) (F k 1) (F k 2) W
        rw [of_has hs hk] at z
        exact z)
      clear hy hs
      generalize lwF F 0 n = z0 at *
      generalize lwF F 1 n = z1 at *
      generalize lwF F 2 n = z2 at *
      generalize hiF F 0 n = z3 at *
      generalize hiF F 1 n = z4 at *
      generalize hiF F 2 n = z5 at *
      go_enter Try.func4, Try.ntmps4
      go_upto_region 1 with fail
      have hbb := below_new1 w (.cells #[.int .i64 l1, .int .i64 l2, .int .i64 l3, .int .i64 h1, .int .i64 h2, .int .i64 h3] 25)
      have zb : (w.alloc (.cells #[.int .i64 l1, .int .i64 l2, .int .i64 l3, .int .i64 h1, .int .i64 h2, .int .i64 h3] 25)).heap.size = w.heap.size + 1 := by simp
      have HB := Lib.hid hbb
      have kb := Lib.hid (Lok.new w 25 #[.int .i64 l1, .int .i64 l2, .int .i64 l3, .int .i64 h1, .int .i64 h2, .int .i64 h3])
      clear hbb
      generalize w.alloc (.cells #[.int .i64 l1, .int .i64 l2, .int .i64 l3, .int .i64 h1, .int .i64 h2, .int .i64 h3] 25) = Vb at *
      have hbd := below_new1 Vb (.cells #[.int .i64 m1, .int .i64 m2, .int .i64 m3, .int .i64 k1, .int .i64 k2, .int .i64 k3] 25)
      replace kb := Lib.hid (kb.out.keep hbd)
      have zd : (Vb.alloc (.cells #[.int .i64 m1, .int .i64 m2, .int .i64 m3, .int .i64 k1, .int .i64 k2, .int .i64 k3] 25)).heap.size = Vb.heap.size + 1 := by simp
      replace HB := Lib.hid (HB.out.trans (hbd.mono HB.out.size))
      have kd := Lib.hid (Lok.new Vb 25 #[.int .i64 m1, .int .i64 m2, .int .i64 m3, .int .i64 k1, .int .i64 k2, .int .i64 k3])
      clear hbd
      generalize Vb.alloc (.cells #[.int .i64 m1, .int .i64 m2, .int .i64 m3, .int .i64 k1, .int .i64 k2, .int .i64 k3] 25) = Vd at *
      rw [zb] at kd
      clear zb zd
      go_wp2_with fail
      (((with_reducible refine (O1.out _ HB.out).mono ?_); rintro e w1 ⟨rfl, hb1⟩); replace HB := Lib.hid (HB.out.trans (hb1.mono HB.out.size)); replace kb := Lib.hid (kb.out.keep hb1); replace kd := Lib.hid (kd.out.keep hb1); clear hb1)
      clear O1
      go_wp2_with fail
      have hbo := below_new1 w1 (.cells #[.int .i64 z0, .int .i64 z1, .int .i64 z2, .int .i64 z3, .int .i64 z4, .int .i64 z5] 25)
      replace kb := Lib.hid (kb.out.keep hbo)
      replace kd := Lib.hid (kd.out.keep hbo)
      have zo : (w1.alloc (.cells #[.int .i64 z0, .int .i64 z1, .int .i64 z2, .int .i64 z3, .int .i64 z4, .int .i64 z5] 25)).heap.size = w1.heap.size + 1 := by simp
      replace HB := Lib.hid (HB.out.trans (hbo.mono HB.out.size))
      have ko := Lib.hid (Lok.new w1 25 #[.int .i64 z0, .int .i64 z1, .int .i64 z2, .int .i64 z3, .int .i64 z4, .int .i64 z5])
      clear hbo
      generalize w1.alloc (.cells #[.int .i64 z0, .int .i64 z1, .int .i64 z2, .int .i64 z3, .int .i64 z4, .int .i64 z5] 25) = Vo at *
      clear zo
      go_loopw [9] (fun y wr => ∃ k : Nat, y = .int .i64 k ∧ k ≤ n ∧ Below Vo.heap.size Vo wr) (fun y _ => n - (intOf y).toNat)
      case atStart => exact ⟨0, rfl, Nat.zero_le _, Below.refl _ _⟩
      case round =>
        obtain ⟨k, rfl, hk, hB⟩ := hrel
        by_cases hlt : k < n
        · have hBh := Lib.hid hB
          clear hB
          obtain ⟨b, o, rfl, hb, hc⟩ := (R.out.keep (HB.out.trans (hBh.out.mono HB.out.size))).at hlt
          have c0 := hc k hlt 0 (by omega)
          have c1 := hc k hlt 1 (by omega)
          have c2 := hc k hlt 2 (by omega)
          rw [Nat.add_zero] at c0
          rw [← Nat.add_assoc] at c1 c2
          clear hc
          have i0 : (0 : Int) ≤ (k : Int) := by omega
          have i1 : (k : Int) < (n : Int) := by omega
          have i2 : ((k : Int)).toNat = k := by omega
          have HS := Lib.hid (HX.out k hlt)
          clear HX
          generalize F k 0 = f1 at *
          generalize F k 1 = f2 at *
          generalize F k 2 = f3 at *
          have ko2 := Lib.hid (ko.out.keep hBh.out)
          have qo0 : ∀ D : Of (PastV wr), _ := fun D => (ko2.out.keep (show Below wr.heap.size wr D.world from D.holds)).cell (i := 0) rfl
          have qo1 : ∀ D : Of (PastV wr), _ := fun D => (ko2.out.keep (show Below wr.heap.size wr D.world from D.holds)).cell (i := 1) rfl
          have qo2 : ∀ D : Of (PastV wr), _ := fun D => (ko2.out.keep (show Below wr.heap.size wr D.world from D.holds)).cell (i := 2) rfl
          have qo3 : ∀ D : Of (PastV wr), _ := fun D => (ko2.out.keep (show Below wr.heap.size wr D.world from D.holds)).cell (i := 3) rfl
          have qo4 : ∀ D : Of (PastV wr), _ := fun D => (ko2.out.keep (show Below wr.heap.size wr D.world from D.holds)).cell (i := 4) rfl
          have qo5 : ∀ D : Of (PastV wr), _ := fun D => (ko2.out.keep (show Below wr.heap.size wr D.world from D.holds)).cell (i := 5) rfl
          have r0 : ∀ D : Of (PastV wr), _ := fun D => keepc (show Below wr.heap.size wr D.world from D.holds) c0
          have r1 : ∀ D : Of (PastV wr), _ := fun D => keepc (show Below wr.heap.size wr D.world from D.holds) c1
          have r2 : ∀ D : Of (PastV wr), _ := fun D => keepc (show Below wr.heap.size wr D.world from D.holds) c2
          clear c0 c1 c2
          have ST := Lib.hid (pastV_stays wr)
          have ne : Nonempty (Of (PastV wr)) := ⟨⟨wr, Below.refl _ _⟩⟩
          go_upto_region 7 with fail
          refine wp_region_class (S := PastV wr) (by kernel_rfl) (by kernel_rfl) (Below.refl _ _).drew ?_
          repeat (go_big_quiet_step (first | (go_at_call 19; first | (with_reducible exact class_call ST.out _ (HS.out _)))))
          refine wpQuiet_nil ?_
          rintro _ ⟨D, rfl⟩
          have hD : Below wr.heap.size wr D.world := D.holds
          go_wp2
          go_roundw
          case rel => exact ⟨k + 1, by go_num, hlt, hBh.out.trans (hD.mono hBh.out.size)⟩
          case measure => simp [intOf]; omega
        · obtain rfl : k = n := by omega
          replace HB := Lib.hid (HB.out.trans (hB.mono HB.out.size))
          replace kb := Lib.hid (kb.out.keep hB)
          replace kd := Lib.hid (kd.out.keep hB)
          replace ko := Lib.hid (ko.out.keep hB)
          clear hB HX
          obtain ⟨Vs, hVs⟩ : ∃ V, V = wr := ⟨_, rfl⟩
          rw [← hVs] at HB kb kd ko
          rw [← hVs]
          clear hVs hk
          go_wp2_with fail
          go_loopw [10, 11, 12] (fun p q y wr => ∃ j lo hi : Nat, p = .int .i64 lo ∧ q = .int .i64 hi ∧ y = .int .i64 j ∧ j ≤ k ∧ lo ≤ j ∧ hi ≤ j ∧ (∀ i, i < j → z0 = F i 0 → 0 < lo) ∧ (∀ i, i < j → z5 = F i 2 → 0 < hi) ∧ Below Vs.heap.size Vs wr) (fun _ _ y _ => k - (intOf y).toNat)
          case atStart => exact ⟨0, 0, 0, rfl, rfl, rfl, Nat.zero_le _, Nat.le_refl _, Nat.le_refl _, fun i h => absurd h (by omega), fun i h => absurd h (by omega), Below.refl _ _⟩
          case round =>
            obtain ⟨j, lo, hi, rfl, rfl, rfl, hj, hlo, hhi, A1, A2, hB⟩ := hrel
            have hBh := Lib.hid hB
            clear hB
            by_cases hlt : j < k
            · obtain ⟨b, o, rfl, hb, hc⟩ := (R.out.keep (HB.out.trans (hBh.out.mono HB.out.size))).at hlt
              have c0 := hc j hlt 0 (by omega)
              have c2 := hc j hlt 2 (by omega)
              rw [Nat.add_zero] at c0
              rw [← Nat.add_assoc] at c2
              clear hc
              have ko2 := Lib.hid (ko.out.keep hBh.out)
              have o0 := ko2.out.cell (i := 0) rfl
              have o5 := ko2.out.cell (i := 5) rfl
              have B1 : Hid (∀ lo' : Nat, lo ≤ lo' → (z0 = F j 0 → 0 < lo') → ∀ i, i < j + 1 → z0 = F i 0 → 0 < lo') := Lib.hid (fun lo' g q i hi' e => by
                by_cases s : i = j
                · rw [s] at e; exact q e
                · have := A1 i (by omega) e; omega)
              have B2 : Hid (∀ hi' : Nat, hi ≤ hi' → (z5 = F j 2 → 0 < hi') → ∀ i, i < j + 1 → z5 = F i 2 → 0 < hi') := Lib.hid (fun hi2 g q i hi' e => by
                by_cases s : i = j
                · rw [s] at e; exact q e
                · have := A2 i (by omega) e; omega)
              clear A1 A2
              generalize F j 0 = f1 at *
              generalize F j 2 = f3 at *
              have i0 : (0 : Int) ≤ (j : Int) := by omega
              have i1 : (j : Int) < (k : Int) := by omega
              have i2 : ((j : Int)).toNat = j := by omega
              go_upto_region 15 with fail
              by_cases c1 : f1 = z0
              · subst c1
                by_cases c2 : f3 = z5
                · subst c2
                  go_quiet (fail)
                  go_upto_region 17 with fail
                  go_quiet (fail)
                  go_wp2
                  go_roundw
                  case rel =>
                    refine ⟨j + 1, lo + 1, hi + 1, by go_num, by go_num, by go_num, by omega, by omega, by omega, B1.out _ (by omega) (fun e => by omega), B2.out _ (by omega) (fun e => by omega), hBh.out.trans ((below_drewN (Below.refl _ _) _).mono hBh.out.size)⟩
                  case measure => simp [intOf]; omega
                · skip
                  go_quiet (fail)
                  go_upto_region 17 with fail
                  go_quiet (fail)
                  go_wp2
                  go_roundw
                  case rel =>
                    refine ⟨j + 1, lo + 1, hi, by go_num, rfl, by go_num, by omega, by omega, by omega, B1.out _ (by omega) (fun e => by omega), B2.out _ (by omega) (fun e => absurd e.symm c2), hBh.out.trans ((below_drewN (Below.refl _ _) _).mono hBh.out.size)⟩
                  case measure => simp [intOf]; omega
              · by_cases c2 : f3 = z5
                · subst c2
                  go_quiet (fail)
                  go_upto_region 17 with fail
                  go_quiet (fail)
                  go_wp2
                  go_roundw
                  case rel =>
                    refine ⟨j + 1, lo, hi + 1, rfl, by go_num, by go_num, by omega, by omega, by omega, B1.out _ (by omega) (fun e => absurd e.symm c1), B2.out _ (by omega) (fun e => by omega), hBh.out.trans ((below_drewN (Below.refl _ _) _).mono hBh.out.size)⟩
                  case measure => simp [intOf]; omega
                · skip
                  go_quiet (fail)
                  go_upto_region 17 with fail
                  go_quiet (fail)
                  go_wp2
                  go_roundw
                  case rel =>
                    refine ⟨j + 1, lo, hi, rfl, rfl, by go_num, by omega, by omega, by omega, B1.out _ (by omega) (fun e => absurd e.symm c1), B2.out _ (by omega) (fun e => absurd e.symm c2), hBh.out.trans ((below_drewN (Below.refl _ _) _).mono hBh.out.size)⟩
                  case measure => simp [intOf]; omega
            · obtain rfl : j = k := by omega
              obtain ⟨i1, p1, q1⟩ := LA.out
              obtain ⟨i2, p2, q2⟩ := HA.out
              have g1 := A1 i1 p1 q1
              have g2 := A2 i2 p2 q2
              have g3 : ¬ (lo : Int) = 0 := by omega
              have g4 : ¬ (hi : Int) = 0 := by omega
              have g5 : ¬ lo = 0 := by omega
              have g6 : ¬ hi = 0 := by omega
              have g7 : ((lo : Int) == 0) = false := by rw [beq_eq_false_iff_ne]; exact g3
              have g8 : ((hi : Int) == 0) = false := by rw [beq_eq_false_iff_ne]; exact g4
              clear A1 A2 p1 q1 p2 q2 LA HA g1 g2 hlt
              replace HB := Lib.hid (HB.out.trans (hBh.out.mono HB.out.size))
              replace kb := Lib.hid (kb.out.keep hBh.out)
              replace kd := Lib.hid (kd.out.keep hBh.out)
              clear hBh ko
              cases rb with
              | false =>
                simp only [Bool.false_and, vF_no, show aE false = 1 from rfl] at J1 J2
                clear J3 S1 S2 S3 S4
                go_upto_region 21 with fail
                have b0 := kb.out.cell (i := 0) rfl
                have b1 := kb.out.cell (i := 1) rfl
                have b2 := kb.out.cell (i := 2) rfl
                have b3 := kb.out.cell (i := 3) rfl
                have b4 := kb.out.cell (i := 4) rfl
                have b5 := kb.out.cell (i := 5) rfl
                have d0 := kd.out.cell (i := 0) rfl
                have d1 := kd.out.cell (i := 1) rfl
                have d2 := kd.out.cell (i := 2) rfl
                have d3 := kd.out.cell (i := 3) rfl
                have d4 := kd.out.cell (i := 4) rfl
                have d5 := kd.out.cell (i := 5) rfl
                go_wp2_with fail
                clear b0 b1 b2 b3 b4 b5 d0 d1 d2 d3 d4 d5
                (((with_reducible refine (J1.out _).mono ?_); rintro e w21 ⟨rfl, hb21⟩); replace HB := Lib.hid (HB.out.trans (hb21.mono HB.out.size)); replace kb := Lib.hid (kb.out.keep hb21); replace kd := Lib.hid (kd.out.keep hb21); clear hb21)
                clear J1
                go_upto_region 22 with fail
                have hbu := below_new1 w21 (.cells #[.int .i64 0, .int .i64 0, .int .i64 0, .int .i64 0, .int .i64 0, .int .i64 0] 25)
                replace kb := Lib.hid (kb.out.keep hbu)
                replace kd := Lib.hid (kd.out.keep hbu)
                have zu : (w21.alloc (.cells #[.int .i64 0, .int .i64 0, .int .i64 0, .int .i64 0, .int .i64 0, .int .i64 0] 25)).heap.size = w21.heap.size + 1 := by simp
                replace HB := Lib.hid (HB.out.trans (hbu.mono HB.out.size))
                have ku := Lib.hid (Lok.new w21 25 #[.int .i64 0, .int .i64 0, .int .i64 0, .int .i64 0, .int .i64 0, .int .i64 0])
                clear hbu
                generalize w21.alloc (.cells #[.int .i64 0, .int .i64 0, .int .i64 0, .int .i64 0, .int .i64 0, .int .i64 0] 25) = Vu at *
                clear zu
                have d0 := kd.out.cell (i := 0) rfl
                have d1 := kd.out.cell (i := 1) rfl
                have d2 := kd.out.cell (i := 2) rfl
                have d3 := kd.out.cell (i := 3) rfl
                have d4 := kd.out.cell (i := 4) rfl
                have d5 := kd.out.cell (i := 5) rfl
                have b0 := kb.out.cell (i := 0) rfl
                have b1 := kb.out.cell (i := 1) rfl
                have b2 := kb.out.cell (i := 2) rfl
                have b3 := kb.out.cell (i := 3) rfl
                have b4 := kb.out.cell (i := 4) rfl
                have b5 := kb.out.cell (i := 5) rfl
                go_wp2_with fail
                clear d0 d1 d2 d3 d4 d5 b0 b1 b2 b3 b4 b5
                (((with_reducible refine (J2.out _).mono ?_); rintro e w22 ⟨rfl, hb22⟩); replace HB := Lib.hid (HB.out.trans (hb22.mono HB.out.size)); replace kb := Lib.hid (kb.out.keep hb22); replace kd := Lib.hid (kd.out.keep hb22); replace ku := Lib.hid (ku.out.keep hb22); clear hb22)
                clear J2
                go_upto_region 23 with fail
                have hbv := below_new1 w22 (.cells #[.int .i64 0, .int .i64 0, .int .i64 0, .int .i64 0, .int .i64 0, .int .i64 0] 25)
                replace kb := Lib.hid (kb.out.keep hbv)
                replace kd := Lib.hid (kd.out.keep hbv)
                replace ku := Lib.hid (ku.out.keep hbv)
                have zv : (w22.alloc (.cells #[.int .i64 0, .int .i64 0, .int .i64 0, .int .i64 0, .int .i64 0, .int .i64 0] 25)).heap.size = w22.heap.size + 1 := by simp
                replace HB := Lib.hid (HB.out.trans (hbv.mono HB.out.size))
                have kv := Lib.hid (Lok.new w22 25 #[.int .i64 0, .int .i64 0, .int .i64 0, .int .i64 0, .int .i64 0, .int .i64 0])
                clear hbv
                generalize w22.alloc (.cells #[.int .i64 0, .int .i64 0, .int .i64 0, .int .i64 0, .int .i64 0, .int .i64 0] 25) = Vv at *
                clear zv
                go_wp2_with fail
                (((with_reducible refine (BD.out _).mono ?_); rintro e w23 ⟨rfl, hb23⟩); replace HB := Lib.hid (HB.out.trans (hb23.mono HB.out.size)); replace kb := Lib.hid (kb.out.keep hb23); replace kd := Lib.hid (kd.out.keep hb23); clear hb23)
                clear BD ku kv
                have b0 := kb.out.cell (i := 0) rfl
                have b1 := kb.out.cell (i := 1) rfl
                have b2 := kb.out.cell (i := 2) rfl
                have b3 := kb.out.cell (i := 3) rfl
                have b4 := kb.out.cell (i := 4) rfl
                have b5 := kb.out.cell (i := 5) rfl
                go_wp2_with fail
                clear b0 b1 b2 b3 b4 b5
                (((with_reducible refine (I1.out _).mono ?_); rintro e w24 ⟨rfl, hb24⟩); replace HB := Lib.hid (HB.out.trans (hb24.mono HB.out.size)); replace kb := Lib.hid (kb.out.keep hb24); replace kd := Lib.hid (kd.out.keep hb24); clear hb24)
                clear I1
                go_wp2
                go_ret
                exact ⟨rfl, HB.out⟩
              | true =>
                cases rd with
                | false =>
                  simp only [Bool.true_and, vF_no, show aE false = 1 from rfl] at J1 J2
                  clear J3 S1 S2 S3 S4
                  go_upto_region 21 with fail
                  have b0 := kb.out.cell (i := 0) rfl
                  have b1 := kb.out.cell (i := 1) rfl
                  have b2 := kb.out.cell (i := 2) rfl
                  have b3 := kb.out.cell (i := 3) rfl
                  have b4 := kb.out.cell (i := 4) rfl
                  have b5 := kb.out.cell (i := 5) rfl
                  have d0 := kd.out.cell (i := 0) rfl
                  have d1 := kd.out.cell (i := 1) rfl
                  have d2 := kd.out.cell (i := 2) rfl
                  have d3 := kd.out.cell (i := 3) rfl
                  have d4 := kd.out.cell (i := 4) rfl
                  have d5 := kd.out.cell (i := 5) rfl
                  go_wp2_with fail
                  clear b0 b1 b2 b3 b4 b5 d0 d1 d2 d3 d4 d5
                  (((with_reducible refine (J1.out _).mono ?_); rintro e w21 ⟨rfl, hb21⟩); replace HB := Lib.hid (HB.out.trans (hb21.mono HB.out.size)); replace kb := Lib.hid (kb.out.keep hb21); replace kd := Lib.hid (kd.out.keep hb21); clear hb21)
                  clear J1
                  go_upto_region 22 with fail
                  have hbu := below_new1 w21 (.cells #[.int .i64 0, .int .i64 0, .int .i64 0, .int .i64 0, .int .i64 0, .int .i64 0] 25)
                  replace kb := Lib.hid (kb.out.keep hbu)
                  replace kd := Lib.hid (kd.out.keep hbu)
                  have zu : (w21.alloc (.cells #[.int .i64 0, .int .i64 0, .int .i64 0, .int .i64 0, .int .i64 0, .int .i64 0] 25)).heap.size = w21.heap.size + 1 := by simp
                  replace HB := Lib.hid (HB.out.trans (hbu.mono HB.out.size))
                  have ku := Lib.hid (Lok.new w21 25 #[.int .i64 0, .int .i64 0, .int .i64 0, .int .i64 0, .int .i64 0, .int .i64 0])
                  clear hbu
                  generalize w21.alloc (.cells #[.int .i64 0, .int .i64 0, .int .i64 0, .int .i64 0, .int .i64 0, .int .i64 0] 25) = Vu at *
                  clear zu
                  have d0 := kd.out.cell (i := 0) rfl
                  have d1 := kd.out.cell (i := 1) rfl
                  have d2 := kd.out.cell (i := 2) rfl
                  have d3 := kd.out.cell (i := 3) rfl
                  have d4 := kd.out.cell (i := 4) rfl
                  have d5 := kd.out.cell (i := 5) rfl
                  have b0 := kb.out.cell (i := 0) rfl
                  have b1 := kb.out.cell (i := 1) rfl
                  have b2 := kb.out.cell (i := 2) rfl
                  have b3 := kb.out.cell (i := 3) rfl
                  have b4 := kb.out.cell (i := 4) rfl
                  have b5 := kb.out.cell (i := 5) rfl
                  go_wp2_with fail
                  clear d0 d1 d2 d3 d4 d5 b0 b1 b2 b3 b4 b5
                  (((with_reducible refine (J2.out _).mono ?_); rintro e w22 ⟨rfl, hb22⟩); replace HB := Lib.hid (HB.out.trans (hb22.mono HB.out.size)); replace kb := Lib.hid (kb.out.keep hb22); replace kd := Lib.hid (kd.out.keep hb22); replace ku := Lib.hid (ku.out.keep hb22); clear hb22)
                  clear J2
                  go_upto_region 23 with fail
                  have hbv := below_new1 w22 (.cells #[.int .i64 0, .int .i64 0, .int .i64 0, .int .i64 0, .int .i64 0, .int .i64 0] 25)
                  replace kb := Lib.hid (kb.out.keep hbv)
                  replace kd := Lib.hid (kd.out.keep hbv)
                  replace ku := Lib.hid (ku.out.keep hbv)
                  have zv : (w22.alloc (.cells #[.int .i64 0, .int .i64 0, .int .i64 0, .int .i64 0, .int .i64 0, .int .i64 0] 25)).heap.size = w22.heap.size + 1 := by simp
                  replace HB := Lib.hid (HB.out.trans (hbv.mono HB.out.size))
                  have kv := Lib.hid (Lok.new w22 25 #[.int .i64 0, .int .i64 0, .int .i64 0, .int .i64 0, .int .i64 0, .int .i64 0])
                  clear hbv
                  generalize w22.alloc (.cells #[.int .i64 0, .int .i64 0, .int .i64 0, .int .i64 0, .int .i64 0, .int .i64 0] 25) = Vv at *
                  clear zv
                  go_wp2_with fail
                  (((with_reducible refine (BD.out _).mono ?_); rintro e w23 ⟨rfl, hb23⟩); replace HB := Lib.hid (HB.out.trans (hb23.mono HB.out.size)); replace kb := Lib.hid (kb.out.keep hb23); replace kd := Lib.hid (kd.out.keep hb23); clear hb23)
                  clear BD ku kv
                  have b0 := kb.out.cell (i := 0) rfl
                  have b1 := kb.out.cell (i := 1) rfl
                  have b2 := kb.out.cell (i := 2) rfl
                  have b3 := kb.out.cell (i := 3) rfl
                  have b4 := kb.out.cell (i := 4) rfl
                  have b5 := kb.out.cell (i := 5) rfl
                  go_wp2_with fail
                  clear b0 b1 b2 b3 b4 b5
                  (((with_reducible refine (I1.out _).mono ?_); rintro e w24 ⟨rfl, hb24⟩); replace HB := Lib.hid (HB.out.trans (hb24.mono HB.out.size)); replace kb := Lib.hid (kb.out.keep hb24); replace kd := Lib.hid (kd.out.keep hb24); clear hb24)
                  clear I1
                  have d0 := kd.out.cell (i := 0) rfl
                  have d1 := kd.out.cell (i := 1) rfl
                  have d2 := kd.out.cell (i := 2) rfl
                  have d3 := kd.out.cell (i := 3) rfl
                  have d4 := kd.out.cell (i := 4) rfl
                  have d5 := kd.out.cell (i := 5) rfl
                  go_wp2_with fail
                  clear d0 d1 d2 d3 d4 d5
                  (((with_reducible refine (I2.out _).mono ?_); rintro e w25 ⟨rfl, hb25⟩); replace HB := Lib.hid (HB.out.trans (hb25.mono HB.out.size)); replace kb := Lib.hid (kb.out.keep hb25); replace kd := Lib.hid (kd.out.keep hb25); clear hb25)
                  clear I2
                  go_wp2
                  go_ret
                  exact ⟨rfl, HB.out⟩
                | true =>
                  simp only [Bool.true_and, vF_yes, show aE true = 0 from rfl] at J1 J2
                  replace J3 := Lib.hid (J3.out rfl rfl)
                  replace S1 := Lib.hid (S1.out rfl rfl)
                  replace S2 := Lib.hid (S2.out rfl rfl)
                  replace S3 := Lib.hid (S3.out rfl rfl)
                  replace S4 := Lib.hid (S4.out rfl rfl)
                  clear I1 I2
                  go_upto_region 21 with fail
                  have b0 := kb.out.cell (i := 0) rfl
                  have b1 := kb.out.cell (i := 1) rfl
                  have b2 := kb.out.cell (i := 2) rfl
                  have b3 := kb.out.cell (i := 3) rfl
                  have b4 := kb.out.cell (i := 4) rfl
                  have b5 := kb.out.cell (i := 5) rfl
                  have d0 := kd.out.cell (i := 0) rfl
                  have d1 := kd.out.cell (i := 1) rfl
                  have d2 := kd.out.cell (i := 2) rfl
                  have d3 := kd.out.cell (i := 3) rfl
                  have d4 := kd.out.cell (i := 4) rfl
                  have d5 := kd.out.cell (i := 5) rfl
                  go_wp2_with fail
                  clear b0 b1 b2 b3 b4 b5 d0 d1 d2 d3 d4 d5
                  (((with_reducible refine (J1.out _).mono ?_); rintro e w21 ⟨rfl, hb21⟩); replace HB := Lib.hid (HB.out.trans (hb21.mono HB.out.size)); replace kb := Lib.hid (kb.out.keep hb21); replace kd := Lib.hid (kd.out.keep hb21); clear hb21)
                  clear J1
                  go_upto_region 22 with fail
                  have hbu := below_new1 w21 (.cells #[.int .i64 u0, .int .i64 u1, .int .i64 u2, .int .i64 v0, .int .i64 v1, .int .i64 v2] 25)
                  replace kb := Lib.hid (kb.out.keep hbu)
                  replace kd := Lib.hid (kd.out.keep hbu)
                  have zu : (w21.alloc (.cells #[.int .i64 u0, .int .i64 u1, .int .i64 u2, .int .i64 v0, .int .i64 v1, .int .i64 v2] 25)).heap.size = w21.heap.size + 1 := by simp
                  replace HB := Lib.hid (HB.out.trans (hbu.mono HB.out.size))
                  have ku := Lib.hid (Lok.new w21 25 #[.int .i64 u0, .int .i64 u1, .int .i64 u2, .int .i64 v0, .int .i64 v1, .int .i64 v2])
                  clear hbu
                  generalize w21.alloc (.cells #[.int .i64 u0, .int .i64 u1, .int .i64 u2, .int .i64 v0, .int .i64 v1, .int .i64 v2] 25) = Vu at *
                  clear zu
                  have d0 := kd.out.cell (i := 0) rfl
                  have d1 := kd.out.cell (i := 1) rfl
                  have d2 := kd.out.cell (i := 2) rfl
                  have d3 := kd.out.cell (i := 3) rfl
                  have d4 := kd.out.cell (i := 4) rfl
                  have d5 := kd.out.cell (i := 5) rfl
                  have b0 := kb.out.cell (i := 0) rfl
                  have b1 := kb.out.cell (i := 1) rfl
                  have b2 := kb.out.cell (i := 2) rfl
                  have b3 := kb.out.cell (i := 3) rfl
                  have b4 := kb.out.cell (i := 4) rfl
                  have b5 := kb.out.cell (i := 5) rfl
                  go_wp2_with fail
                  clear d0 d1 d2 d3 d4 d5 b0 b1 b2 b3 b4 b5
                  (((with_reducible refine (J2.out _).mono ?_); rintro e w22 ⟨rfl, hb22⟩); replace HB := Lib.hid (HB.out.trans (hb22.mono HB.out.size)); replace kb := Lib.hid (kb.out.keep hb22); replace kd := Lib.hid (kd.out.keep hb22); replace ku := Lib.hid (ku.out.keep hb22); clear hb22)
                  clear J2
                  go_upto_region 23 with fail
                  have hbv := below_new1 w22 (.cells #[.int .i64 u0, .int .i64 u1, .int .i64 u2, .int .i64 v0, .int .i64 v1, .int .i64 v2] 25)
                  replace kb := Lib.hid (kb.out.keep hbv)
                  replace kd := Lib.hid (kd.out.keep hbv)
                  replace ku := Lib.hid (ku.out.keep hbv)
                  have zv : (w22.alloc (.cells #[.int .i64 u0, .int .i64 u1, .int .i64 u2, .int .i64 v0, .int .i64 v1, .int .i64 v2] 25)).heap.size = w22.heap.size + 1 := by simp
                  replace HB := Lib.hid (HB.out.trans (hbv.mono HB.out.size))
                  have kv := Lib.hid (Lok.new w22 25 #[.int .i64 u0, .int .i64 u1, .int .i64 u2, .int .i64 v0, .int .i64 v1, .int .i64 v2])
                  clear hbv
                  generalize w22.alloc (.cells #[.int .i64 u0, .int .i64 u1, .int .i64 u2, .int .i64 v0, .int .i64 v1, .int .i64 v2] 25) = Vv at *
                  clear zv
                  have u0 := ku.out.cell (i := 0) rfl
                  have u1 := ku.out.cell (i := 1) rfl
                  have u2 := ku.out.cell (i := 2) rfl
                  have u3 := ku.out.cell (i := 3) rfl
                  have u4 := ku.out.cell (i := 4) rfl
                  have u5 := ku.out.cell (i := 5) rfl
                  have b0 := kb.out.cell (i := 0) rfl
                  have b1 := kb.out.cell (i := 1) rfl
                  have b2 := kb.out.cell (i := 2) rfl
                  have b3 := kb.out.cell (i := 3) rfl
                  have b4 := kb.out.cell (i := 4) rfl
                  have b5 := kb.out.cell (i := 5) rfl
                  go_wp2_with fail
                  clear u0 u1 u2 u3 u4 u5 b0 b1 b2 b3 b4 b5
                  (((with_reducible refine (J3.out _).mono ?_); rintro e w25 ⟨rfl, hb25⟩); replace HB := Lib.hid (HB.out.trans (hb25.mono HB.out.size)); replace kb := Lib.hid (kb.out.keep hb25); replace kd := Lib.hid (kd.out.keep hb25); replace ku := Lib.hid (ku.out.keep hb25); replace kv := Lib.hid (kv.out.keep hb25); clear hb25)
                  clear J3
                  go_upto_region 26 with fail
                  have hbo := below_new1 w25 (.cells #[.int .i64 u0, .int .i64 u1, .int .i64 u2, .int .i64 v0, .int .i64 v1, .int .i64 v2] 25)
                  replace kb := Lib.hid (kb.out.keep hbo)
                  replace kd := Lib.hid (kd.out.keep hbo)
                  replace ku := Lib.hid (ku.out.keep hbo)
                  replace kv := Lib.hid (kv.out.keep hbo)
                  have zo : (w25.alloc (.cells #[.int .i64 u0, .int .i64 u1, .int .i64 u2, .int .i64 v0, .int .i64 v1, .int .i64 v2] 25)).heap.size = w25.heap.size + 1 := by simp
                  replace HB := Lib.hid (HB.out.trans (hbo.mono HB.out.size))
                  have ko := Lib.hid (Lok.new w25 25 #[.int .i64 u0, .int .i64 u1, .int .i64 u2, .int .i64 v0, .int .i64 v1, .int .i64 v2])
                  clear hbo
                  generalize w25.alloc (.cells #[.int .i64 u0, .int .i64 u1, .int .i64 u2, .int .i64 v0, .int .i64 v1, .int .i64 v2] 25) = Vo at *
                  clear zo
                  go_wp2_with fail
                  (((with_reducible refine (BD.out _).mono ?_); rintro e w26 ⟨rfl, hb26⟩); replace HB := Lib.hid (HB.out.trans (hb26.mono HB.out.size)); replace kb := Lib.hid (kb.out.keep hb26); replace kd := Lib.hid (kd.out.keep hb26); replace ku := Lib.hid (ku.out.keep hb26); replace kv := Lib.hid (kv.out.keep hb26); replace ko := Lib.hid (ko.out.keep hb26); clear hb26)
                  clear BD
                  have u0 := ku.out.cell (i := 0) rfl
                  have u1 := ku.out.cell (i := 1) rfl
                  have u2 := ku.out.cell (i := 2) rfl
                  have u3 := ku.out.cell (i := 3) rfl
                  have u4 := ku.out.cell (i := 4) rfl
                  have u5 := ku.out.cell (i := 5) rfl
                  have v0 := kv.out.cell (i := 0) rfl
                  have v1 := kv.out.cell (i := 1) rfl
                  have v2 := kv.out.cell (i := 2) rfl
                  have v3 := kv.out.cell (i := 3) rfl
                  have v4 := kv.out.cell (i := 4) rfl
                  have v5 := kv.out.cell (i := 5) rfl
                  have o0 := ko.out.cell (i := 0) rfl
                  have o1 := ko.out.cell (i := 1) rfl
                  have o2 := ko.out.cell (i := 2) rfl
                  have o3 := ko.out.cell (i := 3) rfl
                  have o4 := ko.out.cell (i := 4) rfl
                  have o5 := ko.out.cell (i := 5) rfl
                  have b0 := kb.out.cell (i := 0) rfl
                  have b1 := kb.out.cell (i := 1) rfl
                  have b2 := kb.out.cell (i := 2) rfl
                  have b3 := kb.out.cell (i := 3) rfl
                  have b4 := kb.out.cell (i := 4) rfl
                  have b5 := kb.out.cell (i := 5) rfl
                  have d0 := kd.out.cell (i := 0) rfl
                  have d1 := kd.out.cell (i := 1) rfl
                  have d2 := kd.out.cell (i := 2) rfl
                  have d3 := kd.out.cell (i := 3) rfl
                  have d4 := kd.out.cell (i := 4) rfl
                  have d5 := kd.out.cell (i := 5) rfl
                  go_wp2_with fail
                  clear u0 u1 u2 u3 u4 u5 v0 v1 v2 v3 v4 v5 o0 o1 o2 o3 o4 o5 b0 b1 b2 b3 b4 b5 d0 d1 d2 d3 d4 d5
                  (((with_reducible refine (S1.out _).mono ?_); rintro e w27 ⟨rfl, hb27⟩); replace HB := Lib.hid (HB.out.trans (hb27.mono HB.out.size)); replace kb := Lib.hid (kb.out.keep hb27); replace kd := Lib.hid (kd.out.keep hb27); replace ku := Lib.hid (ku.out.keep hb27); replace kv := Lib.hid (kv.out.keep hb27); replace ko := Lib.hid (ko.out.keep hb27); clear hb27)
                  clear S1 kv ko
                  have u0 := ku.out.cell (i := 0) rfl
                  have u1 := ku.out.cell (i := 1) rfl
                  have u2 := ku.out.cell (i := 2) rfl
                  have u3 := ku.out.cell (i := 3) rfl
                  have u4 := ku.out.cell (i := 4) rfl
                  have u5 := ku.out.cell (i := 5) rfl
                  have b0 := kb.out.cell (i := 0) rfl
                  have b1 := kb.out.cell (i := 1) rfl
                  have b2 := kb.out.cell (i := 2) rfl
                  have b3 := kb.out.cell (i := 3) rfl
                  have b4 := kb.out.cell (i := 4) rfl
                  have b5 := kb.out.cell (i := 5) rfl
                  go_wp2_with fail
                  clear u0 u1 u2 u3 u4 u5 b0 b1 b2 b3 b4 b5
                  (((with_reducible refine (S2.out _).mono ?_); rintro e w28 ⟨rfl, hb28⟩); replace HB := Lib.hid (HB.out.trans (hb28.mono HB.out.size)); replace kb := Lib.hid (kb.out.keep hb28); replace kd := Lib.hid (kd.out.keep hb28); replace ku := Lib.hid (ku.out.keep hb28); clear hb28)
                  clear S2 kb
                  have u0 := ku.out.cell (i := 0) rfl
                  have u1 := ku.out.cell (i := 1) rfl
                  have u2 := ku.out.cell (i := 2) rfl
                  have u3 := ku.out.cell (i := 3) rfl
                  have u4 := ku.out.cell (i := 4) rfl
                  have u5 := ku.out.cell (i := 5) rfl
                  have d0 := kd.out.cell (i := 0) rfl
                  have d1 := kd.out.cell (i := 1) rfl
                  have d2 := kd.out.cell (i := 2) rfl
                  have d3 := kd.out.cell (i := 3) rfl
                  have d4 := kd.out.cell (i := 4) rfl
                  have d5 := kd.out.cell (i := 5) rfl
                  go_wp2_with fail
                  clear u0 u1 u2 u3 u4 u5 d0 d1 d2 d3 d4 d5
                  (((with_reducible refine (S3.out _).mono ?_); rintro e w29 ⟨rfl, hb29⟩); replace HB := Lib.hid (HB.out.trans (hb29.mono HB.out.size)); replace kd := Lib.hid (kd.out.keep hb29); replace ku := Lib.hid (ku.out.keep hb29); clear hb29)
                  clear S3
                  have u0 := ku.out.cell (i := 0) rfl
                  have u1 := ku.out.cell (i := 1) rfl
                  have u2 := ku.out.cell (i := 2) rfl
                  have u3 := ku.out.cell (i := 3) rfl
                  have u4 := ku.out.cell (i := 4) rfl
                  have u5 := ku.out.cell (i := 5) rfl
                  have d0 := kd.out.cell (i := 0) rfl
                  have d1 := kd.out.cell (i := 1) rfl
                  have d2 := kd.out.cell (i := 2) rfl
                  have d3 := kd.out.cell (i := 3) rfl
                  have d4 := kd.out.cell (i := 4) rfl
                  have d5 := kd.out.cell (i := 5) rfl
                  go_wp2_with fail
                  clear u0 u1 u2 u3 u4 u5 d0 d1 d2 d3 d4 d5
                  (((with_reducible refine (S4.out _).mono ?_); rintro e w30 ⟨rfl, hb30⟩); replace HB := Lib.hid (HB.out.trans (hb30.mono HB.out.size)); replace kd := Lib.hid (kd.out.keep hb30); replace ku := Lib.hid (ku.out.keep hb30); clear hb30)
                  clear S4 ku kd
                  go_wp2
                  go_ret
                  exact ⟨rfl, HB.out⟩
end Go.Proofs.Ytfghjfgdjlkooaa
