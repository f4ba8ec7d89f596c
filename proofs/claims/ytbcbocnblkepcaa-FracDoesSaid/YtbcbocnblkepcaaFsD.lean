/-
  The reference of package frac: a row of fractions, sorted by laying one behind the other.
-/
import Derived.Test.YtbcbocnblkepcaaFsC
namespace Go.Proofs.Ytbcbocnblkepcaa
open Go.RowKit

/-- What the reference's Sort leaves. -/
def RSortPost (F : Nat → Nat → Int) (n : Nat) (w : World) (e : Ending) (w' : World) : Prop :=
  ∃ (A : Option Addr) (c : Nat) (D : Nat → Nat), e = .returned (.slice A n c) ∧ Below w.heap.size w w' ∧ RowK w' A n 2 (fun t j => F (D t) j) ∧ Pm 0 n id D ∧ Srt (cmpK F) D 0 n
/-- The rows that are laid behind one another make the row with one more. -/
theorem ins_row (F : Nat → Nat → Int) (D : Nat → Nat) {j k : Nat} (hj : j ≤ k) (hD : D k = k) (t : Nat) (ht : t < k + 1) (q : Nat) (hq : q < 2) :
    catK (j + 1) (catK j (fun t q => F (D t) q) (fun _ q => if q = 0 then F k 0 else F k 1)) (fun t q => F (D (j + t)) q) t q = F (rotD D j k (k + 1) t) q := by
  by_cases h1 : t < j
  · rw [catK_lo _ _ _ (by omega), catK_lo _ _ _ h1, rot_out hj (.inl h1)]
  · by_cases h2 : t = j
    · subst h2
      rw [catK_lo _ _ _ (by omega), catK_hi _ _ _ (Nat.le_refl _), rot_lo (Nat.le_refl _) (by omega), show t - t + k = k from by omega, hD]
      match q, hq with
      | 0, _ => rfl
      | 1, _ => rfl
    · rw [catK_hi _ _ _ (by omega), rot_hi (by omega) ht, show j + (t - (j + 1)) = t - (k + 1 - k) from by omega]
theorem ownsRow_cast {w : World} {base n m : Nat} {e : TypeId} {v : Value} {F G : Nat → Nat → Int} (h : w.ownsRow base e 2 v n (valsK n 2 F)) (hm : n = m) (e2 : ∀ t, t < m → ∀ q, q < 2 → F t q = G t q) : w.ownsRow base e 2 v m (valsK m 2 G) := by
  subst hm
  rwa [valsK_congr e2] at h
/-- What the search in the row finds: one place on. -/
theorem ins_srt {F : Nat → Nat → Int} {D : Nat → Nat} {j k : Nat} (p : Pm 0 k id D) (s : Srt (cmpK F) D 0 k) (hj : j ≤ k) (lo : ∀ t, t < j → cmpK F (D t) k ≤ 0) (hi : j = k ∨ 0 < cmpK F (D j) k) :
    Pm 0 (k + 1) id (rotD D j k (k + 1)) ∧ Srt (cmpK F) (rotD D j k (k + 1)) 0 (k + 1) := by
  have T := tot_cmpK F
  have hD : D k = k := p.out (.inr (Nat.le_refl _))
  refine ⟨(p.mono (Nat.le_refl _) (Nat.le_succ k)).trans ((Pm.rot D hj (Nat.le_succ k)).mono (Nat.zero_le _) (Nat.le_refl _)), Srt.down T s (Nat.zero_le _) hj ?_ ?_⟩
  · rcases Nat.eq_zero_or_pos j with z | z
    · exact .inl z
    · refine .inr ?_
      rw [hD]
      have a := lo (j - 1) (by omega)
      obtain ⟨u, _, u2, e⟩ := p.at (Nat.zero_le (j - 1)) (by omega)
      have hu : D (j - 1) < k := by rw [e]; exact u2
      rcases Int.lt_or_eq_of_le a with a | a
      · exact .inl a
      · exact .inr ⟨a, hu⟩
  · rcases hi with z | z
    · exact .inl z
    · refine .inr ?_
      rw [hD]
      have b := cmpF_both (F (D j) 0) (F (D j) 1) (F k 0) (F k 1)
      unfold cmpK at z
      refine .inl ?_
      unfold cmpK
      omega

set_option maxRecDepth 100000 in
set_option maxHeartbeats 16000000 in
theorem rsort_any (A : Option Addr) (n c : Nat) (F : Nat → Nat → Int) (w : World) (hr : RowK w A n 2 F) (hn : n ≤ 30) :
    Calls Try.prog 17 #[.slice A n c] w (RSortPost F n w) := by
  have R := Lib.hid hr
  clear hr
  obtain ⟨i0, hi, hz0, hz1, hz2⟩ := info_parts infoF
  go_enter Try.func17, Try.ntmps17
  go_wp2_with fail
  go_loopw [3, 4] (fun x y wr => ∃ (k : Nat) (B : Option Addr) (cb : Nat) (D : Nat → Nat), x = .slice B k cb ∧ y = .int .i64 k ∧ k ≤ n ∧ ((B = none ∧ k = 0 ∧ cb = 0) ∨ ∃ g, B = some ⟨g, 0, none⟩) ∧ k ≤ cb ∧ cb ≤ 9223372036854775807 ∧ Below w.heap.size w wr ∧ RowK wr B k 2 (fun t q => F (D t) q) ∧ Pm 0 k id D ∧ Srt (cmpK F) D 0 k) (fun _ y _ => n - (intOf y).toNat)
  case atStart => exact ⟨0, none, 0, id, rfl, rfl, Nat.zero_le _, .inl ⟨rfl, rfl, rfl⟩, Nat.le_refl _, by omega, by (repeat (first | exact Below.refl _ _ | assumption | refine Below.drew ?_ | refine below_drewN ?_ _ | refine Below.setCell ?_ (by first | omega | (simp; done) | (simp; omega)) _ | refine Below.alloc ?_ (by first | omega | (simp; done) | (simp; omega)) _)), .inl rfl, Pm.refl _ _ _, Srt.tiny _ _ (by omega)⟩
  case round =>
    obtain ⟨k, B, cb, D, rfl, rfl, hk, hBn, hkc, hcm, hB, hG, pD, sD⟩ := hrel
    have HBr := Lib.hid hB
    have HG := Lib.hid hG
    have HP := Lib.hid pD
    have HS := Lib.hid sD
    have HN := Lib.hid hBn
    clear hB hG pD sD hBn
    by_cases hlt : k < n
    · have hkl : (k : Int) < (n : Int) := by omega
      obtain ⟨b, o, rfl, hb, hc⟩ := (R.out.keep HBr.out).at hlt
      have c0 := hc k hlt 0 (by omega)
      have c1 := hc k hlt 1 (by omega)
      rw [Nat.add_zero] at c0
      rw [← Nat.add_assoc] at c1
      have X0 := Lib.hid c0
      have X1 := Lib.hid c1
      clear hc c0 c1
      go_wp2_with fail
      generalize wr = wo at *
      clear wr
      go_loopw [5] (fun x wv => ∃ j : Nat, x = .int .i64 j ∧ j ≤ k ∧ (∀ t, t < j → cmpK F (D t) k ≤ 0) ∧ Below wo.heap.size wo wv) (fun x _ => k - (intOf x).toNat)
      case atStart => exact ⟨0, rfl, Nat.zero_le _, fun t ht => absurd ht (by omega), by (repeat (first | exact Below.refl _ _ | assumption | refine Below.drew ?_ | refine below_drewN ?_ _ | refine Below.setCell ?_ (by first | omega | (simp; done) | (simp; omega)) _ | refine Below.alloc ?_ (by first | omega | (simp; done) | (simp; omega)) _))⟩
      case round =>
        obtain ⟨j, rfl, hj, hlo, hBv⟩ := hrel
        have HV := Lib.hid hBv
        have HL := Lib.hid hlo
        clear hBv hlo
        generalize wr = wv at *
        clear wr
        have ne : Nonempty (Of (PastF wv)) := ⟨⟨wv, Below.refl _ _⟩⟩
        have ST := Lib.hid (past_stays wv)
        go_upto_region 6 with fail
        go_cut [28] from 13 to 28 (fun x wx => ((x = .bool true ∧ j < k ∧ cmpK F (D j) k ≤ 0) ∨ (x = .bool false ∧ (j = k ∨ 0 < cmpK F (D j) k))) ∧ Below wv.heap.size wv wx)
        case first =>
          rcases Nat.lt_or_ge j k with hjk | hjk
          · have dj : decide ((j : Int) < (k : Int)) = true := decide_eq_true (by omega)
            have q1 : (j : Int) < (k : Int) := by omega
            have q2 : (k : Int) < (n : Int) := by omega
            obtain ⟨b2, o2, rfl, _, hc2⟩ := (HG.out.keep HV.out).at hjk
            have y0 := hc2 j hjk 0 (by omega)
            have y1 := hc2 j hjk 1 (by omega)
            rw [Nat.add_zero] at y0
            rw [← Nat.add_assoc] at y1
            have a0 : ∀ d : Of (PastF wv), d.world.cell? ⟨b2, o2 + j * 2, none⟩ = some (.int .i64 (F (D j) 0)) := fun d => keepc d.holds y0
            have a1 : ∀ d : Of (PastF wv), d.world.cell? ⟨b2, o2 + j * 2 + 1, none⟩ = some (.int .i64 (F (D j) 1)) := fun d => keepc d.holds y1
            have a2 : ∀ d : Of (PastF wv), d.world.cell? ⟨b, o + k * 2, none⟩ = some (.int .i64 (F k 0)) := fun d => keepc d.holds (keepc HV.out X0.out)
            have a3 : ∀ d : Of (PastF wv), d.world.cell? ⟨b, o + k * 2 + 1, none⟩ = some (.int .i64 (F k 1)) := fun d => keepc d.holds (keepc HV.out X1.out)
            have C := Lib.hid (fun W => rcmp_any (F (D j) 0) (F (D j) 1) (F k 0) (F k 1) W)
            have CZ : Hid (cmpK F (D j) k = cmpF (F (D j) 0) (F (D j) 1) (F k 0) (F k 1)) := Lib.hid rfl
            clear hc2 y0 y1 X0 X1 HL HG HP HS R HBr
            generalize cmpF (F (D j) 0) (F (D j) 1) (F k 0) (F k 1) = z at *
            generalize F (D j) 0 = f0 at *
            generalize F (D j) 1 = f1 at *
            generalize F k 0 = f2 at *
            generalize F k 1 = f3 at *
            refine wp_region_class (S := PastF wv) (by kernel_rfl) (by kernel_rfl) (Below.refl _ _).drew ?_
            repeat (go_big_quiet_step (first | (go_at_call 22; exact class_call ST.out _ (C.out _))))
            refine wpQuiet_nil ?_
            rintro _ ⟨d, rfl⟩
            have HD := Lib.hid (show Below wv.heap.size wv d.world from d.holds)
            clear a0 a1 a2 a3
            by_cases hz : z ≤ 0
            · have dz : decide (z ≤ 0) = true := decide_eq_true hz
              go_wp2_with fail
              go_meet
              case rel => exact ⟨.inl ⟨by first | rfl | rw [dz], hjk, by rw [CZ.out]; exact hz⟩, HD.out⟩
            · have dz : decide (z ≤ 0) = false := decide_eq_false hz
              go_wp2_with fail
              go_meet
              case rel => exact ⟨.inr ⟨by first | rfl | rw [dz], .inr (by rw [CZ.out]; omega)⟩, HD.out⟩
          · obtain rfl : j = k := by omega
            clear HL HG HP HS R HBr X0 X1
            refine wp_region_class (S := PastF wv) (by kernel_rfl) (by kernel_rfl) (Below.refl _ _).drew ?_
            repeat (go_big_quiet_step (first | fail))
            refine wpQuiet_nil ?_
            rintro _ ⟨d, rfl⟩
            have HD := Lib.hid (show Below wv.heap.size wv d.world from d.holds)
            go_wp2_with fail
            go_meet
            case rel => exact ⟨.inr ⟨rfl, .inl (by first | trivial | rfl)⟩, HD.out⟩
        case rest =>
          obtain ⟨hx, hBc⟩ := hcut
          replace HV := Lib.hid (HV.out.trans (hBc.mono HV.out.size))
          clear hBc ne ST
          rcases hx with ⟨rfl, hjk, hz⟩ | ⟨rfl, hz⟩
          · have HZ := Lib.hid hz
            clear hz
            go_wp2
            go_roundw
            case rel => exact ⟨j + 1, by go_num, hjk, fun t ht => if h : t = j then by rw [h]; exact HZ.out else HL.out t (by omega), HV.out⟩
            case measure => simp [intOf]; omega
          · have INS := Lib.hid (ins_srt HP.out HS.out hj HL.out hz)
            have ED : Hid (D k = k) := Lib.hid (HP.out.out (.inr (Nat.le_refl _)))
            clear hz HL HP HS
            rcases HN.out with ⟨rfl, rfl, rfl⟩ | ⟨b2, rfl⟩
            · obtain rfl : j = 0 := by omega
              go_wp2_with (first
                | (at_builtin; refine wpList_append_catk rfl _ _ 24 rfl wo.heap.size 23 i0 _ 2 16 Try.underlying24 hi hz0 hz1 hz2 rfl (by decide) (.slice none 0 0) 0 (fun _ _ => 0) rfl (World.ownsRow_nil _ _ _ _) none 0 0 (fun _ _ => 0) rfl (fun _ => ⟨rfl, rfl⟩) (.inl rfl) (by unfold maxLen; omega) (by omega) HV.out.size ?_))
              intro v1 w1 own1 hb1
              have HB1 := Lib.hid (HV.out.trans hb1)
              have O1 := Lib.hid (ownsRow_cast (m := 0) (G := fun t q => F (D t) q) own1 (by omega) (fun t ht q hq => by first | (exact absurd ht (by omega)) | (rw [catK_hi _ _ _ (Nat.zero_le _)]; rfl)))
              clear own1 hb1
              have c0 := keepc HB1.out X0.out
              have c1 := keepc HB1.out X1.out
              have z1 := HB1.out.size
              simp only [Nat.zero_mul, Nat.add_zero] at c0 c1
              go_wp2_with (first
                | (at_builtin; refine wpList_append_catk rfl _ _ 24 rfl wo.heap.size 23 i0 _ 2 16 Try.underlying24 hi hz0 hz1 hz2 rfl (by decide) v1 0 (fun t q => F (D t) q) rfl (ownK_keep O1.out (below_new1 _ _)) _ 1 1 (fun _ q => if q = 0 then F 0 0 else F 0 1) rfl (fun h => by cases h) (rowK_new _ _ _ _) (by unfold maxLen; omega) (by omega) (by simp; omega) ?_))
              intro v2 w2 own2 hb2
              have HB2 := Lib.hid ((HB1.out.alloc z1 _).trans hb2)
              have O2 := Lib.hid own2
              clear own2 hb2 c0 c1
              have z2 := HB2.out.size
              go_wp2_with (first
                | (at_builtin; refine wpList_append_catk rfl _ _ 24 rfl wo.heap.size 23 i0 _ 2 16 Try.underlying24 hi hz0 hz1 hz2 rfl (by decide) v2 (0 + 1) (catK 0 (fun t q => F (D t) q) (fun _ q => if q = 0 then F 0 0 else F 0 1)) rfl O2.out none 0 0 (fun t q => F (D (0 + t)) q) rfl (fun _ => ⟨rfl, rfl⟩) (.inl rfl) (by unfold maxLen; omega) (by omega) z2 ?_))
              intro v3 w3 own3 hb3
              have HB3 := Lib.hid (HB2.out.trans hb3)
              have O3 := Lib.hid (ownsRow_cast (m := 0 + 1) own3 (by omega) (fun t ht q hq => by have z := ins_row F D hj ED.out t ht q hq; simpa using z))
              clear own3 hb3
              obtain ⟨A3, c3, rfl, u1, u2, u3, u4⟩ := rowK_of_own2 O3.out
              have U := Lib.hid (And.intro u1 (And.intro u2 (And.intro u3 u4)))
              clear u1 u2 u3 u4 O1 O2 O3
              go_wp2
              go_roundw
              case rel => exact ⟨0 + 1, A3, c3, rotD D 0 0 (0 + 1), rfl, by go_num, by omega, U.out.1, U.out.2.1, U.out.2.2.1, HBr.out.trans (HB3.out.mono HBr.out.size), U.out.2.2.2, INS.out.1, INS.out.2⟩
              case measure => simp [intOf]; omega
            · by_cases hjc : j = cb
              · obtain rfl : cb = j := hjc.symm
                obtain rfl : k = cb := by omega
                go_wp2_with (first
                  | (at_builtin; refine wpList_append_catk rfl _ _ 24 rfl wo.heap.size 23 i0 _ 2 16 Try.underlying24 hi hz0 hz1 hz2 rfl (by decide) (.slice none 0 0) 0 (fun _ _ => 0) rfl (World.ownsRow_nil _ _ _ _) (some ⟨b2, 0, none⟩) k k (fun t q => F (D t) q) rfl (fun h => by cases h) (RowK.part (HG.out.keep HV.out) hj) (by unfold maxLen; omega) (by omega) HV.out.size ?_))
                intro v1 w1 own1 hb1
                have HB1 := Lib.hid (HV.out.trans hb1)
                have O1 := Lib.hid (ownsRow_cast (m := k) (G := fun t q => F (D t) q) own1 (by omega) (fun t ht q hq => by first | (exact absurd ht (by omega)) | (rw [catK_hi _ _ _ (Nat.zero_le _)]; rfl)))
                clear own1 hb1
                have c0 := keepc HB1.out X0.out
                have c1 := keepc HB1.out X1.out
                have z1 := HB1.out.size
                go_wp2_with (first
                  | (at_builtin; refine wpList_append_catk rfl _ _ 24 rfl wo.heap.size 23 i0 _ 2 16 Try.underlying24 hi hz0 hz1 hz2 rfl (by decide) v1 k (fun t q => F (D t) q) rfl (ownK_keep O1.out (below_new1 _ _)) _ 1 1 (fun _ q => if q = 0 then F k 0 else F k 1) rfl (fun h => by cases h) (rowK_new _ _ _ _) (by unfold maxLen; omega) (by omega) (by simp; omega) ?_))
                intro v2 w2 own2 hb2
                have HB2 := Lib.hid ((HB1.out.alloc z1 _).trans hb2)
                have O2 := Lib.hid own2
                clear own2 hb2 c0 c1
                have z2 := HB2.out.size
                go_wp2_with (first
                  | (at_builtin; refine wpList_append_catk rfl _ _ 24 rfl wo.heap.size 23 i0 _ 2 16 Try.underlying24 hi hz0 hz1 hz2 rfl (by decide) v2 (k + 1) (catK k (fun t q => F (D t) q) (fun _ q => if q = 0 then F k 0 else F k 1)) rfl O2.out _ _ _ (fun t q => F (D (k + t)) q) rfl (fun h => by cases h) (.inl (by omega)) (by unfold maxLen; omega) (by omega) z2 ?_))
                intro v3 w3 own3 hb3
                have HB3 := Lib.hid (HB2.out.trans hb3)
                have O3 := Lib.hid (ownsRow_cast (m := k + 1) own3 (by omega) (fun t ht q hq => by have z := ins_row F D hj ED.out t ht q hq; simpa using z))
                clear own3 hb3
                obtain ⟨A3, c3, rfl, u1, u2, u3, u4⟩ := rowK_of_own2 O3.out
                have U := Lib.hid (And.intro u1 (And.intro u2 (And.intro u3 u4)))
                clear u1 u2 u3 u4 O1 O2 O3
                go_wp2
                go_roundw
                case rel => exact ⟨k + 1, A3, c3, rotD D k k (k + 1), rfl, by go_num, by omega, U.out.1, U.out.2.1, U.out.2.2.1, HBr.out.trans (HB3.out.mono HBr.out.size), U.out.2.2.2, INS.out.1, INS.out.2⟩
                case measure => simp [intOf]; omega
              · have j1 : j < cb := by omega
                have j2 : ¬ cb - j = 0 := by omega
                have j3 : ¬ cb = j := by omega
                go_wp2_with (first
                  | (at_builtin; refine wpList_append_catk rfl _ _ 24 rfl wo.heap.size 23 i0 _ 2 16 Try.underlying24 hi hz0 hz1 hz2 rfl (by decide) (.slice none 0 0) 0 (fun _ _ => 0) rfl (World.ownsRow_nil _ _ _ _) (some ⟨b2, 0, none⟩) j cb (fun t q => F (D t) q) rfl (fun h => by cases h) (RowK.part (HG.out.keep HV.out) hj) (by unfold maxLen; omega) (by omega) HV.out.size ?_))
                intro v1 w1 own1 hb1
                have HB1 := Lib.hid (HV.out.trans hb1)
                have O1 := Lib.hid (ownsRow_cast (m := j) (G := fun t q => F (D t) q) own1 (by omega) (fun t ht q hq => by first | (exact absurd ht (by omega)) | (rw [catK_hi _ _ _ (Nat.zero_le _)]; rfl)))
                clear own1 hb1
                have c0 := keepc HB1.out X0.out
                have c1 := keepc HB1.out X1.out
                have z1 := HB1.out.size
                go_wp2_with (first
                  | (at_builtin; refine wpList_append_catk rfl _ _ 24 rfl wo.heap.size 23 i0 _ 2 16 Try.underlying24 hi hz0 hz1 hz2 rfl (by decide) v1 j (fun t q => F (D t) q) rfl (ownK_keep O1.out (below_new1 _ _)) _ 1 1 (fun _ q => if q = 0 then F k 0 else F k 1) rfl (fun h => by cases h) (rowK_new _ _ _ _) (by unfold maxLen; omega) (by omega) (by simp; omega) ?_))
                intro v2 w2 own2 hb2
                have HB2 := Lib.hid ((HB1.out.alloc z1 _).trans hb2)
                have O2 := Lib.hid own2
                clear own2 hb2 c0 c1
                have z2 := HB2.out.size
                have GW := Lib.hid (HG.out.keep HB2.out)
                go_wp2_with (first
                  | (at_builtin; refine wpList_append_catk rfl _ _ 24 rfl wo.heap.size 23 i0 _ 2 16 Try.underlying24 hi hz0 hz1 hz2 rfl (by decide) v2 (j + 1) (catK j (fun t q => F (D t) q) (fun _ q => if q = 0 then F k 0 else F k 1)) rfl O2.out (some ⟨b2, j * 2, none⟩) (k - j) (cb - j) (fun t q => F (D (j + t)) q) rfl (fun h => by cases h) (by have z := RowK.from GW.out j; rwa [Nat.zero_add] at z) (by unfold maxLen; omega) (by omega) z2 ?_))
                intro v3 w3 own3 hb3
                have HB3 := Lib.hid (HB2.out.trans hb3)
                have O3 := Lib.hid (ownsRow_cast (m := k + 1) own3 (by omega) (fun t ht q hq => by have z := ins_row F D hj ED.out t ht q hq; simpa using z))
                clear own3 hb3
                obtain ⟨A3, c3, rfl, u1, u2, u3, u4⟩ := rowK_of_own2 O3.out
                have U := Lib.hid (And.intro u1 (And.intro u2 (And.intro u3 u4)))
                clear u1 u2 u3 u4 O1 O2 O3
                go_wp2
                go_roundw
                case rel => exact ⟨k + 1, A3, c3, rotD D j k (k + 1), rfl, by go_num, by omega, U.out.1, U.out.2.1, U.out.2.2.1, HBr.out.trans (HB3.out.mono HBr.out.size), U.out.2.2.2, INS.out.1, INS.out.2⟩
                case measure => simp [intOf]; omega
    · obtain rfl : k = n := by omega
      go_wp2
      go_ret
      exact ⟨B, cb, D, rfl, HBr.out, HG.out, HP.out, HS.out⟩
end Go.Proofs.Ytbcbocnblkepcaa
