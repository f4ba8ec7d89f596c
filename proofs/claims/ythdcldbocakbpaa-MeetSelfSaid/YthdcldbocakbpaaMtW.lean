/-
  MeetSelf, walked. (gen/MtW.py)
-/
import Derived.Test.YthdcldbocakbpaaMtJ
import Derived.Test.YthdcldbocakbpaaMtM
namespace Go.Proofs.Ythdcldbocakbpaa
open Go.RowKit

theorem corner_sq {a1 a2 b1 b2 c1 c2 x y : Int} (ht : rT a1 a2 b1 b2 c1 c2 = true) (hx : r1 a1 a2 b1 b2 c1 c2 x y = 0) : sqE (sqS x y 1) true = 5 ∨ (sqE (sqS x y 1) true = 0 ∧ sqV x y 1 a1 a2 b1 b2 c1 c2 = true) := by
  cases hs : sqS x y 1 with
  | false => exact .inl rfl
  | true => exact .inr ⟨rfl, sqV_point (p := x) (q := y) hs ht (by omega) (Int.le_refl _) (Int.le_refl _) (by omega) (by omega)⟩
set_option maxRecDepth 100000 in
set_option maxHeartbeats 8000000 in
theorem law_self (a1 a2 b1 b2 c1 c2 d1 d2 e1 e2 f1 f2 : Int) (w : World) :
    Calls Try.prog 6 #[.agg #[.int .i64 a1, .int .i64 a2, .int .i64 b1, .int .i64 b2, .int .i64 c1, .int .i64 c2], .agg #[.int .i64 d1, .int .i64 d2, .int .i64 e1, .int .i64 e2, .int .i64 f1, .int .i64 f2]] w fun e' w' => e' = .returned (.bool true) ∧ Below w.heap.size w w' := by
  have HB := Lib.hid (Below.refl w.heap.size w)
  have ME := Lib.hid (fun W => met_any W)
  have R1 := Lib.hid (fun W => right_any a1 a2 b1 b2 c1 c2 W)
  have O1 := Lib.hid (fun W => overlap_any a1 a2 b1 b2 c1 c2 a1 a2 b1 b2 c1 c2 _ rfl W)
  cases ha : rT a1 a2 b1 b2 c1 c2 with
  | false =>
    rw [ha] at R1 O1
    rw [show (mV (false && false) (mu a1 a2 b1 b2 c1 c2 a1 a2 b1 b2 c1 c2) == 1) = false from rfl, show mE (false && false) = 1 from rfl] at O1
    clear ha
    go_enter Try.func6, Try.ntmps6
    go_upto_region 1 with fail
    have hbk := below_new1 w (.cells #[.int .i64 a1, .int .i64 a2, .int .i64 b1, .int .i64 b2, .int .i64 c1, .int .i64 c2] 24)
    have zk : (w.alloc (.cells #[.int .i64 a1, .int .i64 a2, .int .i64 b1, .int .i64 b2, .int .i64 c1, .int .i64 c2] 24)).heap.size = w.heap.size + 1 := by simp
    have HB := Lib.hid hbk
    have kk := Lib.hid (Lok.new w 24 #[.int .i64 a1, .int .i64 a2, .int .i64 b1, .int .i64 b2, .int .i64 c1, .int .i64 c2])
    clear hbk
    generalize w.alloc (.cells #[.int .i64 a1, .int .i64 a2, .int .i64 b1, .int .i64 b2, .int .i64 c1, .int .i64 c2] 24) = Vk at *
    have hbl := below_new1 Vk (.cells #[.int .i64 d1, .int .i64 d2, .int .i64 e1, .int .i64 e2, .int .i64 f1, .int .i64 f2] 24)
    replace kk := Lib.hid (kk.out.keep hbl)
    have zl : (Vk.alloc (.cells #[.int .i64 d1, .int .i64 d2, .int .i64 e1, .int .i64 e2, .int .i64 f1, .int .i64 f2] 24)).heap.size = Vk.heap.size + 1 := by simp
    replace HB := Lib.hid (HB.out.trans (hbl.mono HB.out.size))
    have kl := Lib.hid (Lok.new Vk 24 #[.int .i64 d1, .int .i64 d2, .int .i64 e1, .int .i64 e2, .int .i64 f1, .int .i64 f2])
    clear hbl
    generalize Vk.alloc (.cells #[.int .i64 d1, .int .i64 d2, .int .i64 e1, .int .i64 e2, .int .i64 f1, .int .i64 f2] 24) = Vl at *
    rw [zk] at kl
    clear zk zl
    have k0 := kk.out.cell (i := 0) rfl
    have k1 := kk.out.cell (i := 1) rfl
    have k2 := kk.out.cell (i := 2) rfl
    have k3 := kk.out.cell (i := 3) rfl
    have k4 := kk.out.cell (i := 4) rfl
    have k5 := kk.out.cell (i := 5) rfl
    go_wp2_with fail
    clear k0 k1 k2 k3 k4 k5
    (((with_reducible refine (O1.out _).mono ?_); rintro e w1 ⟨rfl, hb1⟩); replace HB := Lib.hid (HB.out.trans (hb1.mono HB.out.size)); replace kk := Lib.hid (kk.out.keep hb1); replace kl := Lib.hid (kl.out.keep hb1); clear hb1)
    go_wp2_with fail
    (((with_reducible refine (ME.out _).mono ?_); rintro e w2 ⟨rfl, hb2⟩); replace HB := Lib.hid (HB.out.trans (hb2.mono HB.out.size)); replace kk := Lib.hid (kk.out.keep hb2); replace kl := Lib.hid (kl.out.keep hb2); clear hb2)
    have k0 := kk.out.cell (i := 0) rfl
    have k1 := kk.out.cell (i := 1) rfl
    have k2 := kk.out.cell (i := 2) rfl
    have k3 := kk.out.cell (i := 3) rfl
    have k4 := kk.out.cell (i := 4) rfl
    have k5 := kk.out.cell (i := 5) rfl
    go_wp2_with fail
    clear k0 k1 k2 k3 k4 k5
    (((with_reducible refine (R1.out _).mono ?_); rintro e w3 ⟨rfl, hb3⟩); replace HB := Lib.hid (HB.out.trans (hb3.mono HB.out.size)); replace kk := Lib.hid (kk.out.keep hb3); replace kl := Lib.hid (kl.out.keep hb3); clear hb3)
    go_wp2
    go_ret
    exact ⟨rfl, HB.out⟩
  | true =>
    rw [ha] at R1 O1
    have hA := (rT_iff.1 ha).2.2.2
    rw [show (mV (true && true) (mu a1 a2 b1 b2 c1 c2 a1 a2 b1 b2 c1 c2) == 1) = true from by rw [mu_self hA]; rfl, show mE (true && true) = 0 from rfl] at O1
    obtain ⟨z1, z2, z3⟩ := r1_self hA
    obtain ⟨s1, s2', s3'⟩ := small_of3 (rT_small ha)
    have I1 := Lib.hid (fun W => in_any a1 a2 a1 a2 b1 b2 c1 c2 W)
    rw [ha, s1, z1, show iV true true 0 = 1 from rfl, show iE true true = 0 from rfl] at I1
    have S1 := Lib.hid (fun W => square_any a1 a2 1 a1 a2 b1 b2 c1 c2 W)
    rw [ha] at S1
    have HQ1 := Lib.hid (corner_sq ha z1)
    generalize sqV a1 a2 1 a1 a2 b1 b2 c1 c2 = sv1 at *
    generalize sqE (sqS a1 a2 1) true = se1 at *
    have I2 := Lib.hid (fun W => in_any b1 b2 a1 a2 b1 b2 c1 c2 W)
    rw [ha, s2', z2, show iV true true 0 = 1 from rfl, show iE true true = 0 from rfl] at I2
    have S2 := Lib.hid (fun W => square_any b1 b2 1 a1 a2 b1 b2 c1 c2 W)
    rw [ha] at S2
    have HQ2 := Lib.hid (corner_sq ha z2)
    generalize sqV b1 b2 1 a1 a2 b1 b2 c1 c2 = sv2 at *
    generalize sqE (sqS b1 b2 1) true = se2 at *
    have I3 := Lib.hid (fun W => in_any c1 c2 a1 a2 b1 b2 c1 c2 W)
    rw [ha, s3', z3, show iV true true 0 = 1 from rfl, show iE true true = 0 from rfl] at I3
    have S3 := Lib.hid (fun W => square_any c1 c2 1 a1 a2 b1 b2 c1 c2 W)
    rw [ha] at S3
    have HQ3 := Lib.hid (corner_sq ha z3)
    generalize sqV c1 c2 1 a1 a2 b1 b2 c1 c2 = sv3 at *
    generalize sqE (sqS c1 c2 1) true = se3 at *
    have T1 := Lib.hid (fun W => touch_any a1 a2 b1 b2 c1 c2 d1 d2 e1 e2 f1 f2 _ rfl W)
    rw [ha, Bool.true_and] at T1
    obtain ⟨hx, g1⟩ : ∃ v, max (max a1 b1) c1 = v := ⟨_, rfl⟩
    obtain ⟨hy, g2⟩ : ∃ v, max (max a2 b2) c2 = v := ⟨_, rfl⟩
    obtain ⟨lx, g3⟩ : ∃ v, min (min d1 e1) f1 = v := ⟨_, rfl⟩
    obtain ⟨ly, g4⟩ : ∃ v, min (min d2 e2) f2 = v := ⟨_, rfl⟩
    obtain ⟨te, ht⟩ : ∃ v, mE (rT d1 d2 e1 e2 f1 f2) = v := ⟨_, rfl⟩
    obtain ⟨tv, hv⟩ : ∃ v, (mV (rT d1 d2 e1 e2 f1 f2) (mu a1 a2 b1 b2 c1 c2 d1 d2 e1 e2 f1 f2) != -1) = v := ⟨_, rfl⟩
    rw [ht, hv] at T1
    have HT : Hid (te = 1 ∨ (te = 0 ∧ ((hx < lx ∨ hy < ly) → tv = false))) := by
      cases hd : rT d1 d2 e1 e2 f1 f2 with
      | false => exact .inl (by rw [← ht, hd]; rfl)
      | true =>
        refine .inr ⟨by rw [← ht, hd]; rfl, fun q => ?_⟩
        have hD := (rT_iff.1 hd).2.2.2
        have hm : mu a1 a2 b1 b2 c1 c2 d1 d2 e1 e2 f1 f2 = -1 := by
          rcases q with q | q
          · exact sep_x hA hD (by omega)
          · exact sep_y hA hD (by omega)
        rw [← hv, hd, hm]; rfl
    clear ha hA z1 z2 z3 s1 s2' s3' ht hv
    go_enter Try.func6, Try.ntmps6
    go_upto_region 1 with fail
    have hbk := below_new1 w (.cells #[.int .i64 a1, .int .i64 a2, .int .i64 b1, .int .i64 b2, .int .i64 c1, .int .i64 c2] 24)
    have zk : (w.alloc (.cells #[.int .i64 a1, .int .i64 a2, .int .i64 b1, .int .i64 b2, .int .i64 c1, .int .i64 c2] 24)).heap.size = w.heap.size + 1 := by simp
    have HB := Lib.hid hbk
    have kk := Lib.hid (Lok.new w 24 #[.int .i64 a1, .int .i64 a2, .int .i64 b1, .int .i64 b2, .int .i64 c1, .int .i64 c2])
    clear hbk
    generalize w.alloc (.cells #[.int .i64 a1, .int .i64 a2, .int .i64 b1, .int .i64 b2, .int .i64 c1, .int .i64 c2] 24) = Vk at *
    have hbl := below_new1 Vk (.cells #[.int .i64 d1, .int .i64 d2, .int .i64 e1, .int .i64 e2, .int .i64 f1, .int .i64 f2] 24)
    replace kk := Lib.hid (kk.out.keep hbl)
    have zl : (Vk.alloc (.cells #[.int .i64 d1, .int .i64 d2, .int .i64 e1, .int .i64 e2, .int .i64 f1, .int .i64 f2] 24)).heap.size = Vk.heap.size + 1 := by simp
    replace HB := Lib.hid (HB.out.trans (hbl.mono HB.out.size))
    have kl := Lib.hid (Lok.new Vk 24 #[.int .i64 d1, .int .i64 d2, .int .i64 e1, .int .i64 e2, .int .i64 f1, .int .i64 f2])
    clear hbl
    generalize Vk.alloc (.cells #[.int .i64 d1, .int .i64 d2, .int .i64 e1, .int .i64 e2, .int .i64 f1, .int .i64 f2] 24) = Vl at *
    rw [zk] at kl
    clear zk zl
    have k0 := kk.out.cell (i := 0) rfl
    have k1 := kk.out.cell (i := 1) rfl
    have k2 := kk.out.cell (i := 2) rfl
    have k3 := kk.out.cell (i := 3) rfl
    have k4 := kk.out.cell (i := 4) rfl
    have k5 := kk.out.cell (i := 5) rfl
    go_wp2_with fail
    clear k0 k1 k2 k3 k4 k5
    (((with_reducible refine (O1.out _).mono ?_); rintro e w1 ⟨rfl, hb1⟩); replace HB := Lib.hid (HB.out.trans (hb1.mono HB.out.size)); replace kk := Lib.hid (kk.out.keep hb1); replace kl := Lib.hid (kl.out.keep hb1); clear hb1)
    clear O1
    have HB0 := HB
    clear HB
    go_wp2_with fail
    go_loopw [7] (fun i wr => ∃ j : Nat, i = .int .i64 j ∧ j ≤ 3 ∧ Below w1.heap.size w1 wr) (fun i _ => 3 - (intOf i).toNat)
    case atStart => exact ⟨0, rfl, Nat.zero_le _, Below.refl _ _⟩
    case round =>
      obtain ⟨j, rfl, hj, hB⟩ := hrel
      replace kk := Lib.hid (kk.out.keep hB)
      replace kl := Lib.hid (kl.out.keep hB)
      have HB := Lib.hid (HB0.out.trans (hB.mono HB0.out.size))
      have HB' := Lib.hid hB
      clear hB
      rcases (show j = 0 ∨ j = 1 ∨ j = 2 ∨ j = 3 by omega) with rfl | rfl | rfl | rfl
      · have HB1 := Lib.hid (Below.refl wr.heap.size wr)
        clear kl
        go_upto_region 7 with fail
        have qk0 : ∀ D : Of (PastV wr), _ := fun D => (kk.out.keep (show Below wr.heap.size wr D.world from D.holds)).cell (i := 0) rfl
        have qk1 : ∀ D : Of (PastV wr), _ := fun D => (kk.out.keep (show Below wr.heap.size wr D.world from D.holds)).cell (i := 1) rfl
        have qk2 : ∀ D : Of (PastV wr), _ := fun D => (kk.out.keep (show Below wr.heap.size wr D.world from D.holds)).cell (i := 2) rfl
        have qk3 : ∀ D : Of (PastV wr), _ := fun D => (kk.out.keep (show Below wr.heap.size wr D.world from D.holds)).cell (i := 3) rfl
        have qk4 : ∀ D : Of (PastV wr), _ := fun D => (kk.out.keep (show Below wr.heap.size wr D.world from D.holds)).cell (i := 4) rfl
        have qk5 : ∀ D : Of (PastV wr), _ := fun D => (kk.out.keep (show Below wr.heap.size wr D.world from D.holds)).cell (i := 5) rfl
        have ST := Lib.hid (pastV_stays wr)
        have ne : Nonempty (Of (PastV wr)) := ⟨⟨wr, Below.refl _ _⟩⟩
        refine wp_region_class (S := PastV wr) (by kernel_rfl) (by kernel_rfl) (Below.refl _ _).drew ?_
        repeat (go_big_quiet_step (first | (go_at_call 8; first | (with_reducible exact class_call ST.out _ (I1.out _)))))
        refine wpQuiet_nil ?_
        rintro _ ⟨D, rfl⟩
        have hD : Below wr.heap.size wr D.world := D.holds
        replace HB := Lib.hid (HB.out.trans (hD.mono HB.out.size))
        replace kk := Lib.hid (kk.out.keep hD)
        have HX := Lib.hid hD
        clear hD
        generalize D.world = v1 at *
        clear qk0 qk1 qk2 qk3 qk4 qk5 ne ST
        replace HB1 := Lib.hid (HB1.out.trans (HX.out.mono HB1.out.size))
        clear HX
        go_upto_region 8 with fail
        have qk0 : ∀ D : Of (PastV v1), _ := fun D => (kk.out.keep (show Below v1.heap.size v1 D.world from D.holds)).cell (i := 0) rfl
        have qk1 : ∀ D : Of (PastV v1), _ := fun D => (kk.out.keep (show Below v1.heap.size v1 D.world from D.holds)).cell (i := 1) rfl
        have qk2 : ∀ D : Of (PastV v1), _ := fun D => (kk.out.keep (show Below v1.heap.size v1 D.world from D.holds)).cell (i := 2) rfl
        have qk3 : ∀ D : Of (PastV v1), _ := fun D => (kk.out.keep (show Below v1.heap.size v1 D.world from D.holds)).cell (i := 3) rfl
        have qk4 : ∀ D : Of (PastV v1), _ := fun D => (kk.out.keep (show Below v1.heap.size v1 D.world from D.holds)).cell (i := 4) rfl
        have qk5 : ∀ D : Of (PastV v1), _ := fun D => (kk.out.keep (show Below v1.heap.size v1 D.world from D.holds)).cell (i := 5) rfl
        have ST := Lib.hid (pastV_stays v1)
        have ne : Nonempty (Of (PastV v1)) := ⟨⟨v1, Below.refl _ _⟩⟩
        refine wp_region_class (S := PastV v1) (by kernel_rfl) (by kernel_rfl) (Below.refl _ _).drew ?_
        repeat (go_big_quiet_step (first | (go_at_call 14; first | (with_reducible exact class_call ST.out _ (S1.out _)))))
        refine wpQuiet_nil ?_
        rintro _ ⟨D, rfl⟩
        have hD : Below v1.heap.size v1 D.world := D.holds
        replace HB := Lib.hid (HB.out.trans (hD.mono HB.out.size))
        replace kk := Lib.hid (kk.out.keep hD)
        have HX := Lib.hid hD
        clear hD
        generalize D.world = v2 at *
        clear qk0 qk1 qk2 qk3 qk4 qk5 ne ST
        replace HB1 := Lib.hid (HB1.out.trans (HX.out.mono HB1.out.size))
        clear HX
        rcases HQ1.out with rfl | ⟨rfl, rfl⟩
        all_goals go_wp2
        all_goals go_roundw
        all_goals first | exact ⟨1, by go_num, by omega, HB'.out.trans (HB1.out.mono HB'.out.size)⟩ | (simp [intOf])
      · have HB1 := Lib.hid (Below.refl wr.heap.size wr)
        clear kl
        go_upto_region 7 with fail
        have qk0 : ∀ D : Of (PastV wr), _ := fun D => (kk.out.keep (show Below wr.heap.size wr D.world from D.holds)).cell (i := 0) rfl
        have qk1 : ∀ D : Of (PastV wr), _ := fun D => (kk.out.keep (show Below wr.heap.size wr D.world from D.holds)).cell (i := 1) rfl
        have qk2 : ∀ D : Of (PastV wr), _ := fun D => (kk.out.keep (show Below wr.heap.size wr D.world from D.holds)).cell (i := 2) rfl
        have qk3 : ∀ D : Of (PastV wr), _ := fun D => (kk.out.keep (show Below wr.heap.size wr D.world from D.holds)).cell (i := 3) rfl
        have qk4 : ∀ D : Of (PastV wr), _ := fun D => (kk.out.keep (show Below wr.heap.size wr D.world from D.holds)).cell (i := 4) rfl
        have qk5 : ∀ D : Of (PastV wr), _ := fun D => (kk.out.keep (show Below wr.heap.size wr D.world from D.holds)).cell (i := 5) rfl
        have ST := Lib.hid (pastV_stays wr)
        have ne : Nonempty (Of (PastV wr)) := ⟨⟨wr, Below.refl _ _⟩⟩
        refine wp_region_class (S := PastV wr) (by kernel_rfl) (by kernel_rfl) (Below.refl _ _).drew ?_
        repeat (go_big_quiet_step (first | (go_at_call 8; first | (with_reducible exact class_call ST.out _ (I2.out _)))))
        refine wpQuiet_nil ?_
        rintro _ ⟨D, rfl⟩
        have hD : Below wr.heap.size wr D.world := D.holds
        replace HB := Lib.hid (HB.out.trans (hD.mono HB.out.size))
        replace kk := Lib.hid (kk.out.keep hD)
        have HX := Lib.hid hD
        clear hD
        generalize D.world = v1 at *
        clear qk0 qk1 qk2 qk3 qk4 qk5 ne ST
        replace HB1 := Lib.hid (HB1.out.trans (HX.out.mono HB1.out.size))
        clear HX
        go_upto_region 8 with fail
        have qk0 : ∀ D : Of (PastV v1), _ := fun D => (kk.out.keep (show Below v1.heap.size v1 D.world from D.holds)).cell (i := 0) rfl
        have qk1 : ∀ D : Of (PastV v1), _ := fun D => (kk.out.keep (show Below v1.heap.size v1 D.world from D.holds)).cell (i := 1) rfl
        have qk2 : ∀ D : Of (PastV v1), _ := fun D => (kk.out.keep (show Below v1.heap.size v1 D.world from D.holds)).cell (i := 2) rfl
        have qk3 : ∀ D : Of (PastV v1), _ := fun D => (kk.out.keep (show Below v1.heap.size v1 D.world from D.holds)).cell (i := 3) rfl
        have qk4 : ∀ D : Of (PastV v1), _ := fun D => (kk.out.keep (show Below v1.heap.size v1 D.world from D.holds)).cell (i := 4) rfl
        have qk5 : ∀ D : Of (PastV v1), _ := fun D => (kk.out.keep (show Below v1.heap.size v1 D.world from D.holds)).cell (i := 5) rfl
        have ST := Lib.hid (pastV_stays v1)
        have ne : Nonempty (Of (PastV v1)) := ⟨⟨v1, Below.refl _ _⟩⟩
        refine wp_region_class (S := PastV v1) (by kernel_rfl) (by kernel_rfl) (Below.refl _ _).drew ?_
        repeat (go_big_quiet_step (first | (go_at_call 14; first | (with_reducible exact class_call ST.out _ (S2.out _)))))
        refine wpQuiet_nil ?_
        rintro _ ⟨D, rfl⟩
        have hD : Below v1.heap.size v1 D.world := D.holds
        replace HB := Lib.hid (HB.out.trans (hD.mono HB.out.size))
        replace kk := Lib.hid (kk.out.keep hD)
        have HX := Lib.hid hD
        clear hD
        generalize D.world = v2 at *
        clear qk0 qk1 qk2 qk3 qk4 qk5 ne ST
        replace HB1 := Lib.hid (HB1.out.trans (HX.out.mono HB1.out.size))
        clear HX
        rcases HQ2.out with rfl | ⟨rfl, rfl⟩
        all_goals go_wp2
        all_goals go_roundw
        all_goals first | exact ⟨2, by go_num, by omega, HB'.out.trans (HB1.out.mono HB'.out.size)⟩ | (simp [intOf])
      · have HB1 := Lib.hid (Below.refl wr.heap.size wr)
        clear kl
        go_upto_region 7 with fail
        have qk0 : ∀ D : Of (PastV wr), _ := fun D => (kk.out.keep (show Below wr.heap.size wr D.world from D.holds)).cell (i := 0) rfl
        have qk1 : ∀ D : Of (PastV wr), _ := fun D => (kk.out.keep (show Below wr.heap.size wr D.world from D.holds)).cell (i := 1) rfl
        have qk2 : ∀ D : Of (PastV wr), _ := fun D => (kk.out.keep (show Below wr.heap.size wr D.world from D.holds)).cell (i := 2) rfl
        have qk3 : ∀ D : Of (PastV wr), _ := fun D => (kk.out.keep (show Below wr.heap.size wr D.world from D.holds)).cell (i := 3) rfl
        have qk4 : ∀ D : Of (PastV wr), _ := fun D => (kk.out.keep (show Below wr.heap.size wr D.world from D.holds)).cell (i := 4) rfl
        have qk5 : ∀ D : Of (PastV wr), _ := fun D => (kk.out.keep (show Below wr.heap.size wr D.world from D.holds)).cell (i := 5) rfl
        have ST := Lib.hid (pastV_stays wr)
        have ne : Nonempty (Of (PastV wr)) := ⟨⟨wr, Below.refl _ _⟩⟩
        refine wp_region_class (S := PastV wr) (by kernel_rfl) (by kernel_rfl) (Below.refl _ _).drew ?_
        repeat (go_big_quiet_step (first | (go_at_call 8; first | (with_reducible exact class_call ST.out _ (I3.out _)))))
        refine wpQuiet_nil ?_
        rintro _ ⟨D, rfl⟩
        have hD : Below wr.heap.size wr D.world := D.holds
        replace HB := Lib.hid (HB.out.trans (hD.mono HB.out.size))
        replace kk := Lib.hid (kk.out.keep hD)
        have HX := Lib.hid hD
        clear hD
        generalize D.world = v1 at *
        clear qk0 qk1 qk2 qk3 qk4 qk5 ne ST
        replace HB1 := Lib.hid (HB1.out.trans (HX.out.mono HB1.out.size))
        clear HX
        go_upto_region 8 with fail
        have qk0 : ∀ D : Of (PastV v1), _ := fun D => (kk.out.keep (show Below v1.heap.size v1 D.world from D.holds)).cell (i := 0) rfl
        have qk1 : ∀ D : Of (PastV v1), _ := fun D => (kk.out.keep (show Below v1.heap.size v1 D.world from D.holds)).cell (i := 1) rfl
        have qk2 : ∀ D : Of (PastV v1), _ := fun D => (kk.out.keep (show Below v1.heap.size v1 D.world from D.holds)).cell (i := 2) rfl
        have qk3 : ∀ D : Of (PastV v1), _ := fun D => (kk.out.keep (show Below v1.heap.size v1 D.world from D.holds)).cell (i := 3) rfl
        have qk4 : ∀ D : Of (PastV v1), _ := fun D => (kk.out.keep (show Below v1.heap.size v1 D.world from D.holds)).cell (i := 4) rfl
        have qk5 : ∀ D : Of (PastV v1), _ := fun D => (kk.out.keep (show Below v1.heap.size v1 D.world from D.holds)).cell (i := 5) rfl
        have ST := Lib.hid (pastV_stays v1)
        have ne : Nonempty (Of (PastV v1)) := ⟨⟨v1, Below.refl _ _⟩⟩
        refine wp_region_class (S := PastV v1) (by kernel_rfl) (by kernel_rfl) (Below.refl _ _).drew ?_
        repeat (go_big_quiet_step (first | (go_at_call 14; first | (with_reducible exact class_call ST.out _ (S3.out _)))))
        refine wpQuiet_nil ?_
        rintro _ ⟨D, rfl⟩
        have hD : Below v1.heap.size v1 D.world := D.holds
        replace HB := Lib.hid (HB.out.trans (hD.mono HB.out.size))
        replace kk := Lib.hid (kk.out.keep hD)
        have HX := Lib.hid hD
        clear hD
        generalize D.world = v2 at *
        clear qk0 qk1 qk2 qk3 qk4 qk5 ne ST
        replace HB1 := Lib.hid (HB1.out.trans (HX.out.mono HB1.out.size))
        clear HX
        rcases HQ3.out with rfl | ⟨rfl, rfl⟩
        all_goals go_wp2
        all_goals go_roundw
        all_goals first | exact ⟨3, by go_num, by omega, HB'.out.trans (HB1.out.mono HB'.out.size)⟩ | (simp [intOf])
      · clear I1 I2 I3 S1 S2 S3 HQ1 HQ2 HQ3 HB0 HB'
        have k0 := kk.out.cell (i := 0) rfl
        have k1 := kk.out.cell (i := 1) rfl
        have k2 := kk.out.cell (i := 2) rfl
        have k3 := kk.out.cell (i := 3) rfl
        have k4 := kk.out.cell (i := 4) rfl
        have k5 := kk.out.cell (i := 5) rfl
        have l0 := kl.out.cell (i := 0) rfl
        have l1 := kl.out.cell (i := 1) rfl
        have l2 := kl.out.cell (i := 2) rfl
        have l3 := kl.out.cell (i := 3) rfl
        have l4 := kl.out.cell (i := 4) rfl
        have l5 := kl.out.cell (i := 5) rfl
        go_wp2_with fail
        clear k0 k1 k2 k3 k4 k5 l0 l1 l2 l3 l4 l5
        (((with_reducible refine (T1.out _).mono ?_); rintro e w2 ⟨rfl, hb2⟩); replace HB := Lib.hid (HB.out.trans (hb2.mono HB.out.size)); replace kk := Lib.hid (kk.out.keep hb2); replace kl := Lib.hid (kl.out.keep hb2); clear hb2)
        clear T1
        rcases HT.out with rfl | ⟨rfl, hq⟩
        · clear HT
          by_cases n1 : hx < lx
          · have m1 : decide (hx < lx) = true := decide_eq_true n1
            have k0 := kk.out.cell (i := 0) rfl
            have k1 := kk.out.cell (i := 1) rfl
            have k2 := kk.out.cell (i := 2) rfl
            have k3 := kk.out.cell (i := 3) rfl
            have k4 := kk.out.cell (i := 4) rfl
            have k5 := kk.out.cell (i := 5) rfl
            have l0 := kl.out.cell (i := 0) rfl
            have l1 := kl.out.cell (i := 1) rfl
            have l2 := kl.out.cell (i := 2) rfl
            have l3 := kl.out.cell (i := 3) rfl
            have l4 := kl.out.cell (i := 4) rfl
            have l5 := kl.out.cell (i := 5) rfl
            go_upto_region 13 with fail
            clear k0 k1 k2 k3 k4 k5 l0 l1 l2 l3 l4 l5
            go_wp2_with fail
            (((with_reducible refine (ME.out _).mono ?_); rintro e w3 ⟨rfl, hb3⟩); replace HB := Lib.hid (HB.out.trans (hb3.mono HB.out.size)); replace kk := Lib.hid (kk.out.keep hb3); replace kl := Lib.hid (kl.out.keep hb3); clear hb3)
            have k0 := kk.out.cell (i := 0) rfl
            have k1 := kk.out.cell (i := 1) rfl
            have k2 := kk.out.cell (i := 2) rfl
            have k3 := kk.out.cell (i := 3) rfl
            have k4 := kk.out.cell (i := 4) rfl
            have k5 := kk.out.cell (i := 5) rfl
            go_wp2_with fail
            clear k0 k1 k2 k3 k4 k5
            (((with_reducible refine (R1.out _).mono ?_); rintro e w4 ⟨rfl, hb4⟩); replace HB := Lib.hid (HB.out.trans (hb4.mono HB.out.size)); replace kk := Lib.hid (kk.out.keep hb4); replace kl := Lib.hid (kl.out.keep hb4); clear hb4)
            go_wp2
            all_goals go_ret
            all_goals exact ⟨rfl, HB.out⟩
          · have m1 : decide (hx < lx) = false := decide_eq_false n1
            by_cases n2 : hy < ly
            · have m2 : decide (hy < ly) = true := decide_eq_true n2
              have k0 := kk.out.cell (i := 0) rfl
              have k1 := kk.out.cell (i := 1) rfl
              have k2 := kk.out.cell (i := 2) rfl
              have k3 := kk.out.cell (i := 3) rfl
              have k4 := kk.out.cell (i := 4) rfl
              have k5 := kk.out.cell (i := 5) rfl
              have l0 := kl.out.cell (i := 0) rfl
              have l1 := kl.out.cell (i := 1) rfl
              have l2 := kl.out.cell (i := 2) rfl
              have l3 := kl.out.cell (i := 3) rfl
              have l4 := kl.out.cell (i := 4) rfl
              have l5 := kl.out.cell (i := 5) rfl
              go_upto_region 13 with fail
              clear k0 k1 k2 k3 k4 k5 l0 l1 l2 l3 l4 l5
              go_wp2_with fail
              (((with_reducible refine (ME.out _).mono ?_); rintro e w3 ⟨rfl, hb3⟩); replace HB := Lib.hid (HB.out.trans (hb3.mono HB.out.size)); replace kk := Lib.hid (kk.out.keep hb3); replace kl := Lib.hid (kl.out.keep hb3); clear hb3)
              have k0 := kk.out.cell (i := 0) rfl
              have k1 := kk.out.cell (i := 1) rfl
              have k2 := kk.out.cell (i := 2) rfl
              have k3 := kk.out.cell (i := 3) rfl
              have k4 := kk.out.cell (i := 4) rfl
              have k5 := kk.out.cell (i := 5) rfl
              go_wp2_with fail
              clear k0 k1 k2 k3 k4 k5
              (((with_reducible refine (R1.out _).mono ?_); rintro e w4 ⟨rfl, hb4⟩); replace HB := Lib.hid (HB.out.trans (hb4.mono HB.out.size)); replace kk := Lib.hid (kk.out.keep hb4); replace kl := Lib.hid (kl.out.keep hb4); clear hb4)
              go_wp2
              all_goals go_ret
              all_goals exact ⟨rfl, HB.out⟩
            · have m2 : decide (hy < ly) = false := decide_eq_false n2
              have k0 := kk.out.cell (i := 0) rfl
              have k1 := kk.out.cell (i := 1) rfl
              have k2 := kk.out.cell (i := 2) rfl
              have k3 := kk.out.cell (i := 3) rfl
              have k4 := kk.out.cell (i := 4) rfl
              have k5 := kk.out.cell (i := 5) rfl
              have l0 := kl.out.cell (i := 0) rfl
              have l1 := kl.out.cell (i := 1) rfl
              have l2 := kl.out.cell (i := 2) rfl
              have l3 := kl.out.cell (i := 3) rfl
              have l4 := kl.out.cell (i := 4) rfl
              have l5 := kl.out.cell (i := 5) rfl
              go_upto_region 13 with fail
              clear k0 k1 k2 k3 k4 k5 l0 l1 l2 l3 l4 l5
              go_wp2_with fail
              (((with_reducible refine (ME.out _).mono ?_); rintro e w3 ⟨rfl, hb3⟩); replace HB := Lib.hid (HB.out.trans (hb3.mono HB.out.size)); replace kk := Lib.hid (kk.out.keep hb3); replace kl := Lib.hid (kl.out.keep hb3); clear hb3)
              have k0 := kk.out.cell (i := 0) rfl
              have k1 := kk.out.cell (i := 1) rfl
              have k2 := kk.out.cell (i := 2) rfl
              have k3 := kk.out.cell (i := 3) rfl
              have k4 := kk.out.cell (i := 4) rfl
              have k5 := kk.out.cell (i := 5) rfl
              go_wp2_with fail
              clear k0 k1 k2 k3 k4 k5
              (((with_reducible refine (R1.out _).mono ?_); rintro e w4 ⟨rfl, hb4⟩); replace HB := Lib.hid (HB.out.trans (hb4.mono HB.out.size)); replace kk := Lib.hid (kk.out.keep hb4); replace kl := Lib.hid (kl.out.keep hb4); clear hb4)
              go_wp2
              all_goals go_ret
              all_goals exact ⟨rfl, HB.out⟩
        · clear HT
          by_cases n1 : hx < lx
          · obtain rfl := hq (.inl n1)
            clear hq
            have m1 : decide (hx < lx) = true := decide_eq_true n1
            have k0 := kk.out.cell (i := 0) rfl
            have k1 := kk.out.cell (i := 1) rfl
            have k2 := kk.out.cell (i := 2) rfl
            have k3 := kk.out.cell (i := 3) rfl
            have k4 := kk.out.cell (i := 4) rfl
            have k5 := kk.out.cell (i := 5) rfl
            have l0 := kl.out.cell (i := 0) rfl
            have l1 := kl.out.cell (i := 1) rfl
            have l2 := kl.out.cell (i := 2) rfl
            have l3 := kl.out.cell (i := 3) rfl
            have l4 := kl.out.cell (i := 4) rfl
            have l5 := kl.out.cell (i := 5) rfl
            go_upto_region 13 with fail
            clear k0 k1 k2 k3 k4 k5 l0 l1 l2 l3 l4 l5
            go_wp2_with fail
            (((with_reducible refine (ME.out _).mono ?_); rintro e w3 ⟨rfl, hb3⟩); replace HB := Lib.hid (HB.out.trans (hb3.mono HB.out.size)); replace kk := Lib.hid (kk.out.keep hb3); replace kl := Lib.hid (kl.out.keep hb3); clear hb3)
            have k0 := kk.out.cell (i := 0) rfl
            have k1 := kk.out.cell (i := 1) rfl
            have k2 := kk.out.cell (i := 2) rfl
            have k3 := kk.out.cell (i := 3) rfl
            have k4 := kk.out.cell (i := 4) rfl
            have k5 := kk.out.cell (i := 5) rfl
            go_wp2_with fail
            clear k0 k1 k2 k3 k4 k5
            (((with_reducible refine (R1.out _).mono ?_); rintro e w4 ⟨rfl, hb4⟩); replace HB := Lib.hid (HB.out.trans (hb4.mono HB.out.size)); replace kk := Lib.hid (kk.out.keep hb4); replace kl := Lib.hid (kl.out.keep hb4); clear hb4)
            go_wp2
            all_goals go_ret
            all_goals exact ⟨rfl, HB.out⟩
          · have m1 : decide (hx < lx) = false := decide_eq_false n1
            by_cases n2 : hy < ly
            · obtain rfl := hq (.inr n2)
              clear hq
              have m2 : decide (hy < ly) = true := decide_eq_true n2
              have k0 := kk.out.cell (i := 0) rfl
              have k1 := kk.out.cell (i := 1) rfl
              have k2 := kk.out.cell (i := 2) rfl
              have k3 := kk.out.cell (i := 3) rfl
              have k4 := kk.out.cell (i := 4) rfl
              have k5 := kk.out.cell (i := 5) rfl
              have l0 := kl.out.cell (i := 0) rfl
              have l1 := kl.out.cell (i := 1) rfl
              have l2 := kl.out.cell (i := 2) rfl
              have l3 := kl.out.cell (i := 3) rfl
              have l4 := kl.out.cell (i := 4) rfl
              have l5 := kl.out.cell (i := 5) rfl
              go_upto_region 13 with fail
              clear k0 k1 k2 k3 k4 k5 l0 l1 l2 l3 l4 l5
              go_wp2_with fail
              (((with_reducible refine (ME.out _).mono ?_); rintro e w3 ⟨rfl, hb3⟩); replace HB := Lib.hid (HB.out.trans (hb3.mono HB.out.size)); replace kk := Lib.hid (kk.out.keep hb3); replace kl := Lib.hid (kl.out.keep hb3); clear hb3)
              have k0 := kk.out.cell (i := 0) rfl
              have k1 := kk.out.cell (i := 1) rfl
              have k2 := kk.out.cell (i := 2) rfl
              have k3 := kk.out.cell (i := 3) rfl
              have k4 := kk.out.cell (i := 4) rfl
              have k5 := kk.out.cell (i := 5) rfl
              go_wp2_with fail
              clear k0 k1 k2 k3 k4 k5
              (((with_reducible refine (R1.out _).mono ?_); rintro e w4 ⟨rfl, hb4⟩); replace HB := Lib.hid (HB.out.trans (hb4.mono HB.out.size)); replace kk := Lib.hid (kk.out.keep hb4); replace kl := Lib.hid (kl.out.keep hb4); clear hb4)
              go_wp2
              all_goals go_ret
              all_goals exact ⟨rfl, HB.out⟩
            · clear hq
              have m2 : decide (hy < ly) = false := decide_eq_false n2
              have k0 := kk.out.cell (i := 0) rfl
              have k1 := kk.out.cell (i := 1) rfl
              have k2 := kk.out.cell (i := 2) rfl
              have k3 := kk.out.cell (i := 3) rfl
              have k4 := kk.out.cell (i := 4) rfl
              have k5 := kk.out.cell (i := 5) rfl
              have l0 := kl.out.cell (i := 0) rfl
              have l1 := kl.out.cell (i := 1) rfl
              have l2 := kl.out.cell (i := 2) rfl
              have l3 := kl.out.cell (i := 3) rfl
              have l4 := kl.out.cell (i := 4) rfl
              have l5 := kl.out.cell (i := 5) rfl
              go_upto_region 13 with fail
              clear k0 k1 k2 k3 k4 k5 l0 l1 l2 l3 l4 l5
              go_wp2_with fail
              (((with_reducible refine (ME.out _).mono ?_); rintro e w3 ⟨rfl, hb3⟩); replace HB := Lib.hid (HB.out.trans (hb3.mono HB.out.size)); replace kk := Lib.hid (kk.out.keep hb3); replace kl := Lib.hid (kl.out.keep hb3); clear hb3)
              have k0 := kk.out.cell (i := 0) rfl
              have k1 := kk.out.cell (i := 1) rfl
              have k2 := kk.out.cell (i := 2) rfl
              have k3 := kk.out.cell (i := 3) rfl
              have k4 := kk.out.cell (i := 4) rfl
              have k5 := kk.out.cell (i := 5) rfl
              go_wp2_with fail
              clear k0 k1 k2 k3 k4 k5
              (((with_reducible refine (R1.out _).mono ?_); rintro e w4 ⟨rfl, hb4⟩); replace HB := Lib.hid (HB.out.trans (hb4.mono HB.out.size)); replace kk := Lib.hid (kk.out.keep hb4); replace kl := Lib.hid (kl.out.keep hb4); clear hb4)
              go_wp2
              all_goals go_ret
              all_goals exact ⟨rfl, HB.out⟩
end Go.Proofs.Ythdcldbocakbpaa
