/-
  Face, the reference's. (gen/FcM.py)
-/
import Derived.Test.YtlpfijdjkaijeaaDoorFcL
import Derived.Test.YtlpfijdjkaijeaaDoorFcG
namespace Go.Proofs.YtlpfijdjkaijeaaDoor
open Go.RowKit

def isN (x : Int) : Bool := decide (x < 0)
theorem place_ge (l : List UInt8) (m : Int) : -1 ≤ (placeO l m).1 := by
  unfold placeO
  split
  · decide
  · have := place_in l m; omega
theorem corner_ge (l : List UInt8) (v t n : Int) : -1 ≤ (cornerS l v t n).1 ∧ -1 ≤ (cornerS l v t n).2.1 ∧ -1 ≤ (cornerS l v t n).2.2.1 := by
  have z : ∀ e : Int, -1 ≤ ((0, 0, 0, e) : Int × Int × Int × Int).1 ∧ -1 ≤ ((0, 0, 0, e) : Int × Int × Int × Int).2.1 ∧ -1 ≤ ((0, 0, 0, e) : Int × Int × Int × Int).2.2.1 := fun e => ⟨show (-1 : Int) ≤ 0 by decide, show (-1 : Int) ≤ 0 by decide, show (-1 : Int) ≤ 0 by decide⟩
  unfold cornerS
  cases h : formS (partsS l) with
  | none => exact z 6
  | some p =>
    obtain ⟨a, b, c⟩ := p
    show -1 ≤ (cornerT a b c v t n).1 ∧ -1 ≤ (cornerT a b c v t n).2.1 ∧ -1 ≤ (cornerT a b c v t n).2.2.1
    unfold cornerT
    split
    · exact z _
    · split
      · exact z _
      · split
        · exact z _
        · exact ⟨place_ge _ _, place_ge _ _, place_ge _ _⟩
theorem corn_ge (F : Nat → ByteArray) (v t n : Int) (i j : Nat) : -1 ≤ cornF F v t n i j := by
  obtain ⟨h1, h2, h3⟩ := corner_ge (F i).data.toList v t n
  unfold cornF pick4
  split
  · exact h1
  · split
    · exact h2
    · exact h3
theorem isN_eq {x : Int} (h : -1 ≤ x) : isN x = isM x := by
  unfold isN isM
  by_cases k : x = -1
  · subst k; rfl
  · rw [decide_eq_false (by omega)]; symm; rw [beq_eq_false_iff_ne]; exact k
theorem alG_eq (F : Nat → ByteArray) (v t n : Int) (N : Nat) : alG isN (cornF F v t n) N = alG isM (cornF F v t n) N := by
  induction N with
  | zero => rfl
  | succ k ih =>
    show (alG isN _ k && _) = (alG isM _ k && _)
    rw [ih, isN_eq (corn_ge F v t n k 1), isN_eq (corn_ge F v t n 0 1), isN_eq (corn_ge F v t n k 2), isN_eq (corn_ge F v t n 0 2)]
set_option maxRecDepth 100000 in
set_option maxHeartbeats 8000000 in
theorem rface_any (v t n : Int) (A : Option Addr) (N c : Nat) (F : Nat → ByteArray) (w : World) (hr : RowS w A N c F) (hN : N ≤ 1000) (hs : ∀ i, i < N → (F i).size ≤ 100)
    (bv : -9223372036854775808 ≤ v ∧ v ≤ 9223372036854775807) (bt : -9223372036854775808 ≤ t ∧ t ≤ 9223372036854775807) (bn : -9223372036854775808 ≤ n ∧ n ≤ 9223372036854775807) :
    Calls Tryd.prog 16 #[.int .i64 v, .int .i64 t, .int .i64 n, .slice A N c] w (RetFace F v t n N w) := by
  have HB := Lib.hid (Below.refl w.heap.size w)
  have R := Lib.hid hr
  have HS := Lib.hid hs
  have BV := Lib.hid bv
  have BT := Lib.hid bt
  have BN := Lib.hid bn
  clear hr bv bt bn hs
  by_cases h3 : N < 3
  · have l3 : (N : Int) < 3 := by omega
    have E : Hid (faceE F v t n N = 6) := Lib.hid (if_pos h3)
    go_enter Tryd.func16, Tryd.ntmps16
    go_wp2_with fail
    go_ret2
    exact ⟨HB.out, .inl ⟨by rw [E.out]; decide, by rw [E.out]; rfl⟩⟩
  · have l3 : ¬ (N : Int) < 3 := by omega
    have E : Hid (faceE F v t n N = if erC F v t n N ≠ 0 then erC F v t n N else if alG isM (cornF F v t n) N = true then 0 else 6) := Lib.hid (if_neg h3)
    go_enter Tryd.func16, Tryd.ntmps16
    go_wp2_with fail
    go_loopw [10, 11] (fun vv x wr => ∃ k : Nat, x = .int .i64 k ∧ k ≤ N ∧ erC F v t n k = 0 ∧ wr.ownsRow w.heap.size 23 3 vv k (valsK k 3 (cornF F v t n)) ∧ Below w.heap.size w wr) (fun _ x _ => N - (intOf x).toNat)
    case atStart => exact ⟨0, rfl, Nat.zero_le _, rfl, World.ownsRow_nil _ _ _ _, HB.out⟩
    case round =>
      clear HB
      obtain ⟨k, rfl, hk, hE, hO, hB⟩ := hrel
      have HB := Lib.hid hB
      have HO : Hid (OwnR wr w.heap.size 23 3 u10 k (valsK k 3 (cornF F v t n))) := Lib.hid hO
      have HE := Lib.hid hE
      clear hB hO hE
      by_cases hlt : k < N
      · obtain ⟨b, off, rfl, hl, hc⟩ := (R.out.keep HB.out).at hlt
        have c1 := hc k hlt
        have i0 : (0 : Int) ≤ (k : Int) := by omega
        have i1 : (k : Int) < N := by omega
        have C := Lib.hid (fun W => rcorner_any (F k) v t n W (HS.out k hlt) BV.out BT.out BN.out)
        have VS : Hid (valsK (k + 1) 3 (cornF F v t n) = valsK k 3 (cornF F v t n) ++ [.int .i64 (cornerS (F k).data.toList v t n).1, .int .i64 (cornerS (F k).data.toList v t n).2.1, .int .i64 (cornerS (F k).data.toList v t n).2.2.1]) := Lib.hid (by rw [valsK_succ]; rfl)
        have E1 : Hid (erC F v t n (k + 1) = (cornerS (F k).data.toList v t n).2.2.2) := Lib.hid (by show (if erC F v t n k ≠ 0 then _ else _) = _; rw [if_neg (fun q => q HE.out)])
        unfold retC at C
        obtain ⟨p, hp⟩ : ∃ p, (cornerS (F k).data.toList v t n).1 = p := ⟨_, rfl⟩
        obtain ⟨q, hq⟩ : ∃ p, (cornerS (F k).data.toList v t n).2.1 = p := ⟨_, rfl⟩
        obtain ⟨r, hr⟩ : ∃ p, (cornerS (F k).data.toList v t n).2.2.1 = p := ⟨_, rfl⟩
        obtain ⟨x, hx⟩ : ∃ p, (cornerS (F k).data.toList v t n).2.2.2 = p := ⟨_, rfl⟩
        obtain ⟨S, hS⟩ : ∃ S, F k = S := ⟨_, rfl⟩
        rw [hp, hq, hr, hx] at C
        rw [hp, hq, hr] at VS
        rw [hx] at E1
        rw [hS] at C c1
        clear hp hq hr hx hS hc
        go_wp2_with fail
        (((with_reducible refine (C.out _).mono ?_); rintro e w2 ⟨rfl, hb2⟩); replace HB := Lib.hid (HB.out.trans (hb2.mono HB.out.size)); replace HO := Lib.hid (HO.out.keep hb2); clear hb2)
        by_cases h0 : x = 0
        · subst h0
          go_upto_region 8 with fail
          have hbs0 := HB.out.size
          have hbx := below_new1 w2 (.cells #[.int .i64 p, .int .i64 q, .int .i64 r] 23)
          replace HO := Lib.hid (HO.out.keep hbx)
          have zx : (w2.alloc (.cells #[.int .i64 p, .int .i64 q, .int .i64 r] 23)).heap.size = w2.heap.size + 1 := by simp
          replace HB := Lib.hid (HB.out.trans (hbx.mono HB.out.size))
          have kx := Lib.hid (Lok.new w2 23 #[.int .i64 p, .int .i64 q, .int .i64 r])
          clear hbx
          generalize w2.alloc (.cells #[.int .i64 p, .int .i64 q, .int .i64 r] 23) = Vx at *
          have x0 := kx.out.cell (i := 0) rfl
          have x1 := kx.out.cell (i := 1) rfl
          have x2 := kx.out.cell (i := 2) rfl
          have hkk : (k + 1) * 24 ≤ 140737488355328 := by omega
          have hk2 : k ≤ 1000000 := by omega
          have hbs := HB.out.size
          have hO := HO.out
          clear c1 zx
          go_wp2_with (at_builtin; refine app_one rfl _ _ 25 23 _ 3 24 Tryd.underlying25 infoC rfl (by decide) rfl w.heap.size u10 k (valsK k 3 (cornF F v t n)) [.int .i64 p, .int .i64 q, .int .i64 r] rfl (fun u hu => by simp at hu; rcases hu with rfl | rfl | rfl <;> rfl) rfl hO rfl hkk hk2 hbs ?_)
          intro v' w3 hO3 hB3
          rw [← VS.out] at hO3
          replace HB := Lib.hid (HB.out.trans hB3)
          clear hB3 HO hO x0 x1 x2
          go_wp2_with fail
          go_roundw
          case rel => exact ⟨k + 1, by go_num, hlt, E1.out, hO3, HB.out⟩
          case measure => simp [intOf]; omega
        · have q1 : (x != 0) = true := by simp [h0]
          have H0 := Lib.hid h0
          have EN : Hid (erC F v t n N = x) := Lib.hid (by
            have := erC_stop F v t n (k := k + 1) (by rw [E1.out]; exact h0) (N - (k + 1))
            rw [show k + 1 + (N - (k + 1)) = N from by omega, E1.out] at this; exact this)
          have E2 : Hid (faceE F v t n N = x) := Lib.hid (E.out.trans ((if_pos (by rw [EN.out]; exact h0)).trans EN.out))
          clear h0 E
          go_wp2_with fail
          go_ret2
          exact ⟨HB.out.alloc HB.out.size _, .inl ⟨by rw [E2.out]; exact H0.out, by rw [E2.out]; rfl⟩⟩
      · obtain rfl : k = N := by omega
        have E2 : Hid (faceE F v t n k = if alG isM (cornF F v t n) k = true then 0 else 6) := Lib.hid (E.out.trans (if_neg (fun q => q HE.out)))
        have AE := Lib.hid (alG_eq F v t n k)
        obtain ⟨a, c', rfl, -, -, hc', hr⟩ := rowK_of_own2 HO.out
        have R1 := Lib.hid hr
        have FA := Lib.hid (fun W (h : RowK W a k 3 (cornF F v t n)) => rfan_any a k c' _ W h hN)
        clear HO hr E HS
        obtain ⟨G, hG⟩ : ∃ G, cornF F v t n = G := ⟨_, rfl⟩
        rw [hG] at E2 AE R1 FA
        have GE := Lib.hid hG
        clear hG
        go_wp2_with fail
        go_loopw [14] (fun x ws => ∃ j : Nat, x = .int .i64 j ∧ j ≤ k ∧ alG isN G j = true ∧ RowK ws a k 3 G ∧ Below w.heap.size w ws) (fun x _ => k - (intOf x).toNat)
        case atStart => exact ⟨0, rfl, Nat.zero_le _, rfl, R1.out, HB.out⟩
        case round =>
          clear HB R1
          obtain ⟨j, rfl, hj, hA, hr, hB⟩ := hrel
          have HB := Lib.hid hB
          have HA := Lib.hid hA
          have R1 := Lib.hid hr
          clear hB hA hr
          by_cases hltj : j < k
          · have E6 : Hid (alG isM G k = false → faceE F v t n k = 6) := Lib.hid (fun h => by rw [E2.out, h]; rfl)
            have N1 : Hid ((((decide (G j 1 < 0)) == (decide (G 0 1 < 0))) && ((decide (G j 2 < 0)) == (decide (G 0 2 < 0)))) = false → faceE F v t n k = 6) := Lib.hid (fun h => E6.out (AE.out.symm.trans (alG_no (p := isN) hltj h)))
            have Y1 : Hid ((((decide (G j 1 < 0)) == (decide (G 0 1 < 0))) && ((decide (G j 2 < 0)) == (decide (G 0 2 < 0)))) = true → alG isN G (j + 1) = true) := Lib.hid (fun h => alG_yes HA.out h)
            obtain ⟨b, off, rfl, hl, hc⟩ := R1.out.at hltj
            have i0 : (0 : Int) ≤ (j : Int) := by omega
            have i1 : (j : Int) < k := by omega
            have n0 : 0 < k := by omega
            have c1 := hc j hltj 1 (by decide)
            have c2 := hc j hltj 2 (by decide)
            have d1 := hc 0 n0 1 (by decide)
            have d2 := hc 0 n0 2 (by decide)
            rw [← Nat.add_assoc] at c1 c2
            rw [Nat.zero_mul, Nat.zero_add] at d1 d2
            obtain ⟨x1, hx1⟩ : ∃ x, G j 1 = x := ⟨_, rfl⟩
            obtain ⟨x2, hx2⟩ : ∃ x, G j 2 = x := ⟨_, rfl⟩
            obtain ⟨y1, hy1⟩ : ∃ x, G 0 1 = x := ⟨_, rfl⟩
            obtain ⟨y2, hy2⟩ : ∃ x, G 0 2 = x := ⟨_, rfl⟩
            rw [hx1] at c1 N1 Y1
            rw [hx2] at c2 N1 Y1
            rw [hy1] at d1 N1 Y1
            rw [hy2] at d2 N1 Y1
            clear hx1 hx2 hy1 hy2 hc E6 FA
            go_upto_region 14 with fail
            by_cases a4 : x1 < 0
            · have qa4 : decide (x1 < 0) = true := decide_eq_true a4
              by_cases b4 : y1 < 0
              · have qb4 : decide (y1 < 0) = true := decide_eq_true b4
                by_cases c4 : x2 < 0
                · have qc4 : decide (x2 < 0) = true := decide_eq_true c4
                  by_cases d4 : y2 < 0
                  · have qd4 : decide (y2 < 0) = true := decide_eq_true d4
                    have AY := Lib.hid (Y1.out (by simp [qa4, qb4, qc4, qd4]))
                    go_quiet (fail)
                    go_wp2_with fail
                    go_roundw
                    case rel => exact ⟨j + 1, by go_num, hltj, AY.out, R1.out.keep (below_drewN (Below.refl _ _) _), below_drewN HB.out _⟩
                    case measure => simp [intOf]; omega
                  · have qd4 : decide (y2 < 0) = false := decide_eq_false d4
                    have AN := Lib.hid (N1.out (by simp [qa4, qb4, qc4, qd4]))
                    go_quiet (fail)
                    go_wp2_with fail
                    go_ret2
                    exact ⟨below_drewN HB.out _, .inl ⟨by rw [AN.out]; decide, by rw [AN.out]; rfl⟩⟩
                · have qc4 : decide (x2 < 0) = false := decide_eq_false c4
                  by_cases d4 : y2 < 0
                  · have qd4 : decide (y2 < 0) = true := decide_eq_true d4
                    have AN := Lib.hid (N1.out (by simp [qa4, qb4, qc4, qd4]))
                    go_quiet (fail)
                    go_wp2_with fail
                    go_ret2
                    exact ⟨below_drewN HB.out _, .inl ⟨by rw [AN.out]; decide, by rw [AN.out]; rfl⟩⟩
                  · have qd4 : decide (y2 < 0) = false := decide_eq_false d4
                    have AY := Lib.hid (Y1.out (by simp [qa4, qb4, qc4, qd4]))
                    go_quiet (fail)
                    go_wp2_with fail
                    go_roundw
                    case rel => exact ⟨j + 1, by go_num, hltj, AY.out, R1.out.keep (below_drewN (Below.refl _ _) _), below_drewN HB.out _⟩
                    case measure => simp [intOf]; omega
              · have qb4 : decide (y1 < 0) = false := decide_eq_false b4
                have AN := Lib.hid (N1.out (by simp [qa4, qb4]))
                go_quiet (fail)
                go_wp2_with fail
                go_ret2
                exact ⟨below_drewN HB.out _, .inl ⟨by rw [AN.out]; decide, by rw [AN.out]; rfl⟩⟩
            · have qa4 : decide (x1 < 0) = false := decide_eq_false a4
              by_cases b4 : y1 < 0
              · have qb4 : decide (y1 < 0) = true := decide_eq_true b4
                have AN := Lib.hid (N1.out (by simp [qa4, qb4]))
                go_quiet (fail)
                go_wp2_with fail
                go_ret2
                exact ⟨below_drewN HB.out _, .inl ⟨by rw [AN.out]; decide, by rw [AN.out]; rfl⟩⟩
              · have qb4 : decide (y1 < 0) = false := decide_eq_false b4
                by_cases c4 : x2 < 0
                · have qc4 : decide (x2 < 0) = true := decide_eq_true c4
                  by_cases d4 : y2 < 0
                  · have qd4 : decide (y2 < 0) = true := decide_eq_true d4
                    have AY := Lib.hid (Y1.out (by simp [qa4, qb4, qc4, qd4]))
                    go_quiet (fail)
                    go_wp2_with fail
                    go_roundw
                    case rel => exact ⟨j + 1, by go_num, hltj, AY.out, R1.out.keep (below_drewN (Below.refl _ _) _), below_drewN HB.out _⟩
                    case measure => simp [intOf]; omega
                  · have qd4 : decide (y2 < 0) = false := decide_eq_false d4
                    have AN := Lib.hid (N1.out (by simp [qa4, qb4, qc4, qd4]))
                    go_quiet (fail)
                    go_wp2_with fail
                    go_ret2
                    exact ⟨below_drewN HB.out _, .inl ⟨by rw [AN.out]; decide, by rw [AN.out]; rfl⟩⟩
                · have qc4 : decide (x2 < 0) = false := decide_eq_false c4
                  by_cases d4 : y2 < 0
                  · have qd4 : decide (y2 < 0) = true := decide_eq_true d4
                    have AN := Lib.hid (N1.out (by simp [qa4, qb4, qc4, qd4]))
                    go_quiet (fail)
                    go_wp2_with fail
                    go_ret2
                    exact ⟨below_drewN HB.out _, .inl ⟨by rw [AN.out]; decide, by rw [AN.out]; rfl⟩⟩
                  · have qd4 : decide (y2 < 0) = false := decide_eq_false d4
                    have AY := Lib.hid (Y1.out (by simp [qa4, qb4, qc4, qd4]))
                    go_quiet (fail)
                    go_wp2_with fail
                    go_roundw
                    case rel => exact ⟨j + 1, by go_num, hltj, AY.out, R1.out.keep (below_drewN (Below.refl _ _) _), below_drewN HB.out _⟩
                    case measure => simp [intOf]; omega
          · obtain rfl : j = k := by omega
            have AY : Hid (faceE F v t n j = 0) := Lib.hid (by rw [E2.out, ← AE.out, HA.out]; rfl)
            go_wp2_with fail
            (with_reducible refine (FA.out _ R1.out).mono ?_); rintro e w3 ⟨hb, a2, c2, rfl, hr2, hc2⟩
            replace HB := Lib.hid (HB.out.trans (hb.mono HB.out.size))
            have R2 := Lib.hid hr2
            clear hb hr2
            go_wp2_with fail
            go_ret2
            exact ⟨HB.out, .inr ⟨AY.out, by omega, a2, c2, rfl, (by rw [GE.out]; exact R2.out), hc2⟩⟩
end Go.Proofs.YtlpfijdjkaijeaaDoor
