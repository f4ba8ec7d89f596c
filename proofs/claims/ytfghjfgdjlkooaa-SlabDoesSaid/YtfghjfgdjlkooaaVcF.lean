/-
  Contracts of package vec: Cross3.
-/
import Derived.Test.YtfghjfgdjlkooaaVcE
namespace Go.Proofs.Ytfghjfgdjlkooaa
open Go.RowKit

/-- Cross3's part along axis k. -/
def cX (a b c d e f : Int) (k : Nat) : Int := dX a b c k * dY d e f k - dY a b c k * dX d e f k
def cV (a b c d e f : Int) (k j : Nat) : Int := if j < k then cX a b c d e f j else 0
def cC (a b c d e f : Int) (k : Nat) : Array Value := #[.int .i64 (cV a b c d e f k 0), .int .i64 (cV a b c d e f k 1), .int .i64 (cV a b c d e f k 2)]
theorem cC_set (a b c d e f : Int) {k : Nat} (h : k < 3) : (cC a b c d e f k).setIfInBounds k (.int .i64 (cX a b c d e f k)) = cC a b c d e f (k + 1) := by
  rcases show k = 0 ∨ k = 1 ∨ k = 2 by omega with rfl | rfl | rfl <;> simp [cC, cV]
theorem cC_at (a b c d e f : Int) {k : Nat} (h : k < 3) : (cC a b c d e f k)[k]? = some (.int .i64 0) := by
  rcases show k = 0 ∨ k = 1 ∨ k = 2 by omega with rfl | rfl | rfl <;> simp [cC, cV]
theorem cC_0 (a b c d e f : Int) : cC a b c d e f 0 = #[.int .i64 0, .int .i64 0, .int .i64 0] := by simp [cC, cV]
theorem cC_3 (a b c d e f : Int) : cC a b c d e f 3 = #[.int .i64 (b * f - c * e), .int .i64 (c * d - a * f), .int .i64 (a * e - b * d)] := by simp [cC, cV, cX, dX, dY, pt]
theorem drop_near {a b c : Int} (ha : NR a) (hb : NR b) (hc : NR c) (k : Nat) : n2 (dX a b c k) (dY a b c k) = true := n2_iff.2 ⟨pt_near ha hb hc _, pt_near ha hb hc _⟩

set_option maxRecDepth 100000 in
set_option maxHeartbeats 4000000 in
theorem cross3_any (a b c d e f : Int) (w : World) :
    Calls Try.prog 56 #[.agg #[.int .i64 a, .int .i64 b, .int .i64 c], .agg #[.int .i64 d, .int .i64 e, .int .i64 f]] w fun e' w' => e' = .returned (.tuple #[.agg #[.int .i64 (xF (n3 a b c && n3 d e f) b c e f), .int .i64 (xF (n3 a b c && n3 d e f) c a f d), .int .i64 (xF (n3 a b c && n3 d e f) a b d e)], .int .i64 (rE (n3 a b c && n3 d e f))]) ∧ Below w.heap.size w w' := by
  have HB := Lib.hid (Below.refl w.heap.size w)
  cases ht : n3 a b c && n3 d e f with
  | false =>
    have I := Lib.hid (fun g T W h => is3_b a b c d e f false ht g T W h)
    rw [show xF false b c e f = 0 from rfl, show xF false c a f d = 0 from rfl, show xF false a b d e = 0 from rfl, show rE false = 5 from rfl]
    clear ht
    go_enter Try.func56, Try.ntmps56
    go_upto_region 1 with fail
    have hbx := below_new1 w (.cells #[.int .i64 a, .int .i64 b, .int .i64 c] 23)
    have zx : (w.alloc (.cells #[.int .i64 a, .int .i64 b, .int .i64 c] 23)).heap.size = w.heap.size + 1 := by simp
    have HB := Lib.hid hbx
    have kx := Lib.hid (Lok.new w 23 #[.int .i64 a, .int .i64 b, .int .i64 c])
    clear hbx
    generalize w.alloc (.cells #[.int .i64 a, .int .i64 b, .int .i64 c] 23) = Vx at *
    have hby := below_new1 Vx (.cells #[.int .i64 d, .int .i64 e, .int .i64 f] 23)
    replace kx := Lib.hid (kx.out.keep hby)
    have zy : (Vx.alloc (.cells #[.int .i64 d, .int .i64 e, .int .i64 f] 23)).heap.size = Vx.heap.size + 1 := by simp
    replace HB := Lib.hid (HB.out.trans (hby.mono HB.out.size))
    have ky := Lib.hid (Lok.new Vx 23 #[.int .i64 d, .int .i64 e, .int .i64 f])
    clear hby
    generalize Vx.alloc (.cells #[.int .i64 d, .int .i64 e, .int .i64 f] 23) = Vy at *
    rw [zx] at ky zy
    have hbz := below_new1 Vy (.cells #[.int .i64 0, .int .i64 0, .int .i64 0] 23)
    replace kx := Lib.hid (kx.out.keep hbz)
    replace ky := Lib.hid (ky.out.keep hbz)
    have zz : (Vy.alloc (.cells #[.int .i64 0, .int .i64 0, .int .i64 0] 23)).heap.size = Vy.heap.size + 1 := by simp
    replace HB := Lib.hid (HB.out.trans (hbz.mono HB.out.size))
    have kz := Lib.hid (Lok.new Vy 23 #[.int .i64 0, .int .i64 0, .int .i64 0])
    clear hbz
    generalize Vy.alloc (.cells #[.int .i64 0, .int .i64 0, .int .i64 0] 23) = Vz at *
    rw [zy] at kz
    clear zx zy zz
    have x0 := kx.out.cell (i := 0) rfl
    have x1 := kx.out.cell (i := 1) rfl
    have x2 := kx.out.cell (i := 2) rfl
    have y0 := ky.out.cell (i := 0) rfl
    have y1 := ky.out.cell (i := 1) rfl
    have y2 := ky.out.cell (i := 2) rfl
    go_wp2_with fail
    clear x0 x1 x2 y0 y1 y2
    have hbr := below_new1 Vz (.cells #[.int .i64 a, .int .i64 b, .int .i64 c, .int .i64 d, .int .i64 e, .int .i64 f] 23)
    replace kz := Lib.hid (kz.out.keep hbr)
    have zr : (Vz.alloc (.cells #[.int .i64 a, .int .i64 b, .int .i64 c, .int .i64 d, .int .i64 e, .int .i64 f] 23)).heap.size = Vz.heap.size + 1 := by simp
    replace HB := Lib.hid (HB.out.trans (hbr.mono HB.out.size))
    have kr := Lib.hid (Lok.new Vz 23 #[.int .i64 a, .int .i64 b, .int .i64 c, .int .i64 d, .int .i64 e, .int .i64 f])
    clear hbr
    generalize Vz.alloc (.cells #[.int .i64 a, .int .i64 b, .int .i64 c, .int .i64 d, .int .i64 e, .int .i64 f] 23) = Vr at *
    clear zr
    generalize Vz.heap.size = gr at *
    (((with_reducible refine (I.out _ _ _ kr.out).mono ?_); rintro e w1 ⟨rfl, hb1⟩); replace HB := Lib.hid (HB.out.trans (hb1.mono HB.out.size)); replace kz := Lib.hid (kz.out.keep hb1); clear hb1)
    have z0 := kz.out.cell (i := 0) rfl
    have z1 := kz.out.cell (i := 1) rfl
    have z2 := kz.out.cell (i := 2) rfl
    have f0 := kz.out.frozen 0
    have f1 := kz.out.frozen 1
    have f2 := kz.out.frozen 2
    go_wp2_with fail
    exact bodyPost_ret (v := .tuple #[.agg #[.int .i64 0, .int .i64 0, .int .i64 0], .int .i64 5]) (by simp [results, Try.results56, go_sem, z0, z1, z2]) rfl ⟨rfl, ((HB.out.setCell (by simp <;> omega) _).setCell (by simp <;> omega) _).setCell (by simp <;> omega) _⟩
  | true =>
    have I := Lib.hid (fun g T W h => is3_b a b c d e f true ht g T W h)
    rw [show xF true b c e f = b * f - c * e from rfl, show xF true c a f d = c * d - a * f from rfl, show xF true a b d e = a * e - b * d from rfl, show rE true = 0 from rfl]
    rw [Bool.and_eq_true, n3_iff, n3_iff] at ht
    have C3 := Lib.hid (cC_3 a b c d e f)
    have C := Lib.hid (fun k W => cross_any (dX a b c k) (dY a b c k) (dX d e f k) (dY d e f k) W (drop_near ht.1.1 ht.1.2.1 ht.1.2.2 k) (drop_near ht.2.1 ht.2.2.1 ht.2.2.2 k))
    have D1 := Lib.hid (fun k W h => drop_any a b c k W h)
    have D2 := Lib.hid (fun k W h => drop_any d e f k W h)
    clear ht
    go_enter Try.func56, Try.ntmps56
    go_upto_region 1 with fail
    have hbx := below_new1 w (.cells #[.int .i64 a, .int .i64 b, .int .i64 c] 23)
    have zx : (w.alloc (.cells #[.int .i64 a, .int .i64 b, .int .i64 c] 23)).heap.size = w.heap.size + 1 := by simp
    have HB := Lib.hid hbx
    have kx := Lib.hid (Lok.new w 23 #[.int .i64 a, .int .i64 b, .int .i64 c])
    clear hbx
    generalize w.alloc (.cells #[.int .i64 a, .int .i64 b, .int .i64 c] 23) = Vx at *
    have hby := below_new1 Vx (.cells #[.int .i64 d, .int .i64 e, .int .i64 f] 23)
    replace kx := Lib.hid (kx.out.keep hby)
    have zy : (Vx.alloc (.cells #[.int .i64 d, .int .i64 e, .int .i64 f] 23)).heap.size = Vx.heap.size + 1 := by simp
    replace HB := Lib.hid (HB.out.trans (hby.mono HB.out.size))
    have ky := Lib.hid (Lok.new Vx 23 #[.int .i64 d, .int .i64 e, .int .i64 f])
    clear hby
    generalize Vx.alloc (.cells #[.int .i64 d, .int .i64 e, .int .i64 f] 23) = Vy at *
    rw [zx] at ky zy
    have hbz := below_new1 Vy (.cells #[.int .i64 0, .int .i64 0, .int .i64 0] 23)
    replace kx := Lib.hid (kx.out.keep hbz)
    replace ky := Lib.hid (ky.out.keep hbz)
    have zz : (Vy.alloc (.cells #[.int .i64 0, .int .i64 0, .int .i64 0] 23)).heap.size = Vy.heap.size + 1 := by simp
    replace HB := Lib.hid (HB.out.trans (hbz.mono HB.out.size))
    have kz := Lib.hid (Lok.new Vy 23 #[.int .i64 0, .int .i64 0, .int .i64 0])
    clear hbz
    generalize Vy.alloc (.cells #[.int .i64 0, .int .i64 0, .int .i64 0] 23) = Vz at *
    rw [zy] at kz
    clear zx zy zz
    have x0 := kx.out.cell (i := 0) rfl
    have x1 := kx.out.cell (i := 1) rfl
    have x2 := kx.out.cell (i := 2) rfl
    have y0 := ky.out.cell (i := 0) rfl
    have y1 := ky.out.cell (i := 1) rfl
    have y2 := ky.out.cell (i := 2) rfl
    go_wp2_with fail
    clear x0 x1 x2 y0 y1 y2
    have hbr := below_new1 Vz (.cells #[.int .i64 a, .int .i64 b, .int .i64 c, .int .i64 d, .int .i64 e, .int .i64 f] 23)
    replace kx := Lib.hid (kx.out.keep hbr)
    replace ky := Lib.hid (ky.out.keep hbr)
    replace kz := Lib.hid (kz.out.keep hbr)
    have zr : (Vz.alloc (.cells #[.int .i64 a, .int .i64 b, .int .i64 c, .int .i64 d, .int .i64 e, .int .i64 f] 23)).heap.size = Vz.heap.size + 1 := by simp
    replace HB := Lib.hid (HB.out.trans (hbr.mono HB.out.size))
    have kr := Lib.hid (Lok.new Vz 23 #[.int .i64 a, .int .i64 b, .int .i64 c, .int .i64 d, .int .i64 e, .int .i64 f])
    clear hbr
    generalize Vz.alloc (.cells #[.int .i64 a, .int .i64 b, .int .i64 c, .int .i64 d, .int .i64 e, .int .i64 f] 23) = Vr at *
    clear zr
    generalize Vz.heap.size = gr at *
    (((with_reducible refine (I.out _ _ _ kr.out).mono ?_); rintro e w1 ⟨rfl, hb1⟩); replace HB := Lib.hid (HB.out.trans (hb1.mono HB.out.size)); replace kx := Lib.hid (kx.out.keep hb1); replace ky := Lib.hid (ky.out.keep hb1); replace kz := Lib.hid (kz.out.keep hb1); clear hb1)
    clear kr
    go_upto_region 4 with fail
    have gz := kz.out.lt
    have hbp := below_new1 w1 (.cells #[.int .i64 0, .int .i64 0, .int .i64 0] 47)
    replace kx := Lib.hid (kx.out.keep hbp)
    replace ky := Lib.hid (ky.out.keep hbp)
    replace kz := Lib.hid (kz.out.keep hbp)
    have zp : (w1.alloc (.cells #[.int .i64 0, .int .i64 0, .int .i64 0] 47)).heap.size = w1.heap.size + 1 := by simp
    replace HB := Lib.hid (HB.out.trans (hbp.mono HB.out.size))
    have kp := Lib.hid (Lok.new w1 47 #[.int .i64 0, .int .i64 0, .int .i64 0])
    clear hbp
    generalize w1.alloc (.cells #[.int .i64 0, .int .i64 0, .int .i64 0] 47) = Vp at *
    generalize w1.heap.size = gc at *
    go_wp2_with fail
    go_loopw [14] (fun x wr => ∃ k : Nat, x = .int .i64 k ∧ k ≤ 3 ∧ Below gc Vp wr ∧ Lok wr gc 47 (cC a b c d e f k)) (fun x _ => 3 - (intOf x).toNat)
    case atStart => exact ⟨0, rfl, Nat.zero_le _, Below.refl _ _, by rw [cC_0]; exact kp.out⟩
    case round =>
      obtain ⟨k, rfl, hk, hB, hK⟩ := hrel
      have B := Lib.hid hB
      have KC := Lib.hid hK
      have KX := Lib.hid (kx.out.keepB hB (by omega))
      have KY := Lib.hid (ky.out.keepB hB (by omega))
      have KZ := Lib.hid (kz.out.keepB hB (by omega))
      have hbound := hK.lt
      replace hbound := Nat.le_of_lt hbound
      have gx : w.heap.size < gc := by omega
      have gy : w.heap.size + 1 < gc := by omega
      clear hB hK kx ky kz kp zp
      by_cases hlt : k < 3
      · have CS := Lib.hid (cC_set a b c d e f hlt)
        have hc := cC_at a b c d e f hlt
        have C1 := Lib.hid (C.out k)
        have E1 := Lib.hid (fun W => D1.out k W hlt)
        have E2 := Lib.hid (fun W => D2.out k W hlt)
        rw [show dX a b c k * dY d e f k - dY a b c k * dX d e f k = cX a b c d e f k from rfl] at C1
        have o3 := KC.out
        obtain ⟨CN, hCN⟩ : ∃ CN, CN = cC a b c d e f (k + 1) := ⟨_, rfl⟩
        rw [← hCN] at CS
        have HCN := Lib.hid hCN
        clear hCN C D1 D2 KC
        generalize cC a b c d e f k = CK at *
        generalize cX a b c d e f k = X at *
        generalize dX a b c k = p at *
        generalize dY a b c k = q at *
        generalize dX d e f k = s at *
        generalize dY d e f k = t at *
        have i0 : (0 : Int) ≤ (k : Int) := by omega
        have i1 : (k : Int) < 3 := by omega
        have i2 : ((k : Int)).toNat = k := by omega
        go_wp2_with fail
        refine wp_region_rel (by kernel_rfl) [17, 18, 19, 20, 21, 22, 23, 24, 25] ?Fr1 ?hFr1
          (fun L u W => Below gc wr W ∧ (L 0 = true → u 17 = .int .i64 k) ∧ (L 1 = true → u 18 = .agg #[.int .i64 a, .int .i64 b, .int .i64 c]) ∧ (L 2 = true → u 19 = .int .i64 k) ∧ (L 3 = true → u 20 = .agg #[.int .i64 p, .int .i64 q]) ∧ (L 4 = true → u 21 = .agg #[.int .i64 d, .int .i64 e, .int .i64 f]) ∧ (L 5 = true → u 22 = .int .i64 k) ∧ (L 6 = true → u 23 = .agg #[.int .i64 s, .int .i64 t]) ∧ (L 7 = true → u 24 = .int .i64 X) ∧ (L 8 = true → u 25 = .pointer (some ⟨gc, k, none⟩)) ∧ (L 9 = false → Lok W (gc) 47 (CK)) ∧ (L 9 = true → Lok W (gc) 47 ((CK).setIfInBounds (k) (.int .i64 X)))) (by kernel_rfl) (by kernel_rfl) 10 rfl ?h0r1 ?stepr1 ?finr1
        case hFr1 => intro u; simp only [putAll, Act.put, List.setIfInBounds_toArray, List.set]; exact rfl
        case h0r1 => intro L u hL; exact ⟨(Below.refl _ _).drew, (fun h => by simp [hL] at h), (fun h => by simp [hL] at h), (fun h => by simp [hL] at h), (fun h => by simp [hL] at h), (fun h => by simp [hL] at h), (fun h => by simp [hL] at h), (fun h => by simp [hL] at h), (fun h => by simp [hL] at h), (fun h => by simp [hL] at h), (fun _ => by assumption), (fun h => by simp [hL] at h)⟩
        case stepr1 =>
          refine ops_all (ops_cons ?s0r1 (ops_cons ?s1r1 (ops_cons ?s2r1 (ops_cons ?s3r1 (ops_cons ?s4r1 (ops_cons ?s5r1 (ops_cons ?s6r1 (ops_cons ?s7r1 (ops_cons ?s8r1 (ops_cons ?s9r1 (ops_nil)))))))))))
          case s0r1 =>
            rintro L u W ⟨hB, c0, c1, c2, c3, c4, c5, c6, c7, c8, o9, wn9⟩ hf hd K hK
            dsimp only at hK
            clear hd
            go_simp
            refine hK _ _ ?_ (fun h => by cases h)
            intro s hs
            cases hs
            exact ⟨hB, (fun _ => rfl), c1, c2, c3, c4, c5, c6, c7, c8, o9, wn9⟩
          case s1r1 =>
            rintro L u W ⟨hB, c0, c1, c2, c3, c4, c5, c6, c7, c8, o9, wn9⟩ hf hd K hK
            dsimp only at hK
            have t0 := (KX.out.keepB hB gx).cell (i := 0) rfl
            have t1 := (KX.out.keepB hB gx).cell (i := 1) rfl
            have t2 := (KX.out.keepB hB gx).cell (i := 2) rfl
            clear hd
            go_simp
            refine hK _ _ ?_ (fun h => by cases h)
            intro s hs
            cases hs
            exact ⟨hB, c0, (fun _ => rfl), c2, c3, c4, c5, c6, c7, c8, o9, wn9⟩
          case s2r1 =>
            rintro L u W ⟨hB, c0, c1, c2, c3, c4, c5, c6, c7, c8, o9, wn9⟩ hf hd K hK
            dsimp only at hK
            clear hd
            go_simp
            refine hK _ _ ?_ (fun h => by cases h)
            intro s hs
            cases hs
            exact ⟨hB, c0, c1, (fun _ => rfl), c3, c4, c5, c6, c7, c8, o9, wn9⟩
          case s3r1 =>
            rintro L u W ⟨hB, c0, c1, c2, c3, c4, c5, c6, c7, c8, o9, wn9⟩ hf hd K hK
            dsimp only at hK
            have hd1 : L 1 = true := (by first | (refine hd ⟨1, .data⟩ ?_ rfl; simp; done) | (refine hd ⟨1, .guard⟩ ?_ rfl; simp; done) | (refine hd ⟨1, .phase⟩ ?_ rfl; simp; done) | (refine hd ⟨1, .chain⟩ ?_ rfl; simp; done))
            have hd2 : L 2 = true := (by first | (refine hd ⟨2, .data⟩ ?_ rfl; simp; done) | (refine hd ⟨2, .guard⟩ ?_ rfl; simp; done) | (refine hd ⟨2, .phase⟩ ?_ rfl; simp; done) | (refine hd ⟨2, .chain⟩ ?_ rfl; simp; done))
            have e1 := c1 hd1
            rw [e1] at hK
            have e2 := c2 hd2
            rw [e2] at hK
            clear hd1
            clear hd2
            clear hd
            go_simp
            go_wp2_with (go_at_call 65; ((with_reducible refine (E1.out _).mono ?_); rintro e w5 ⟨rfl, hb⟩))
            refine hK _ _ ?_ (fun h => by cases h)
            intro s hs
            cases hs
            exact ⟨hB.trans (hb.mono (Nat.le_trans hbound hB.size)), c0, c1, c2, (fun _ => rfl), c4, c5, c6, c7, c8, (fun h => (o9 h).keep hb), (fun h => (wn9 h).keep hb)⟩
          case s4r1 =>
            rintro L u W ⟨hB, c0, c1, c2, c3, c4, c5, c6, c7, c8, o9, wn9⟩ hf hd K hK
            dsimp only at hK
            have t0 := (KY.out.keepB hB gy).cell (i := 0) rfl
            have t1 := (KY.out.keepB hB gy).cell (i := 1) rfl
            have t2 := (KY.out.keepB hB gy).cell (i := 2) rfl
            clear hd
            go_simp
            refine hK _ _ ?_ (fun h => by cases h)
            intro s hs
            cases hs
            exact ⟨hB, c0, c1, c2, c3, (fun _ => rfl), c5, c6, c7, c8, o9, wn9⟩
          case s5r1 =>
            rintro L u W ⟨hB, c0, c1, c2, c3, c4, c5, c6, c7, c8, o9, wn9⟩ hf hd K hK
            dsimp only at hK
            clear hd
            go_simp
            refine hK _ _ ?_ (fun h => by cases h)
            intro s hs
            cases hs
            exact ⟨hB, c0, c1, c2, c3, c4, (fun _ => rfl), c6, c7, c8, o9, wn9⟩
          case s6r1 =>
            rintro L u W ⟨hB, c0, c1, c2, c3, c4, c5, c6, c7, c8, o9, wn9⟩ hf hd K hK
            dsimp only at hK
            have hd4 : L 4 = true := (by first | (refine hd ⟨4, .data⟩ ?_ rfl; simp; done) | (refine hd ⟨4, .guard⟩ ?_ rfl; simp; done) | (refine hd ⟨4, .phase⟩ ?_ rfl; simp; done) | (refine hd ⟨4, .chain⟩ ?_ rfl; simp; done))
            have hd5 : L 5 = true := (by first | (refine hd ⟨5, .data⟩ ?_ rfl; simp; done) | (refine hd ⟨5, .guard⟩ ?_ rfl; simp; done) | (refine hd ⟨5, .phase⟩ ?_ rfl; simp; done) | (refine hd ⟨5, .chain⟩ ?_ rfl; simp; done))
            have e4 := c4 hd4
            rw [e4] at hK
            have e5 := c5 hd5
            rw [e5] at hK
            clear hd4
            clear hd5
            clear hd
            go_simp
            go_wp2_with (go_at_call 65; ((with_reducible refine (E2.out _).mono ?_); rintro e w5 ⟨rfl, hb⟩))
            refine hK _ _ ?_ (fun h => by cases h)
            intro s hs
            cases hs
            exact ⟨hB.trans (hb.mono (Nat.le_trans hbound hB.size)), c0, c1, c2, c3, c4, c5, (fun _ => rfl), c7, c8, (fun h => (o9 h).keep hb), (fun h => (wn9 h).keep hb)⟩
          case s7r1 =>
            rintro L u W ⟨hB, c0, c1, c2, c3, c4, c5, c6, c7, c8, o9, wn9⟩ hf hd K hK
            dsimp only at hK
            have hd3 : L 3 = true := (by first | (refine hd ⟨3, .data⟩ ?_ rfl; simp; done) | (refine hd ⟨3, .guard⟩ ?_ rfl; simp; done) | (refine hd ⟨3, .phase⟩ ?_ rfl; simp; done) | (refine hd ⟨3, .chain⟩ ?_ rfl; simp; done))
            have hd6 : L 6 = true := (by first | (refine hd ⟨6, .data⟩ ?_ rfl; simp; done) | (refine hd ⟨6, .guard⟩ ?_ rfl; simp; done) | (refine hd ⟨6, .phase⟩ ?_ rfl; simp; done) | (refine hd ⟨6, .chain⟩ ?_ rfl; simp; done))
            have e3 := c3 hd3
            rw [e3] at hK
            have e6 := c6 hd6
            rw [e6] at hK
            clear hd3
            clear hd6
            clear hd
            go_simp
            go_wp2_with (go_at_call 64; ((with_reducible refine (C1.out _).mono ?_); rintro e w5 ⟨rfl, hb⟩))
            refine hK _ _ ?_ (fun h => by cases h)
            intro s hs
            cases hs
            exact ⟨hB.trans (hb.mono (Nat.le_trans hbound hB.size)), c0, c1, c2, c3, c4, c5, c6, (fun _ => rfl), c8, (fun h => (o9 h).keep hb), (fun h => (wn9 h).keep hb)⟩
          case s8r1 =>
            rintro L u W ⟨hB, c0, c1, c2, c3, c4, c5, c6, c7, c8, o9, wn9⟩ hf hd K hK
            dsimp only at hK
            have hd0 : L 0 = true := (by first | (refine hd ⟨0, .data⟩ ?_ rfl; simp; done) | (refine hd ⟨0, .guard⟩ ?_ rfl; simp; done) | (refine hd ⟨0, .phase⟩ ?_ rfl; simp; done) | (refine hd ⟨0, .chain⟩ ?_ rfl; simp; done))
            have e0 := c0 hd0
            rw [e0] at hK
            clear hd0
            clear hd
            go_simp
            refine hK _ _ ?_ (fun h => by cases h)
            intro s hs
            cases hs
            exact ⟨hB, c0, c1, c2, c3, c4, c5, c6, c7, (fun _ => rfl), o9, wn9⟩
          case s9r1 =>
            rintro L u W ⟨hB, c0, c1, c2, c3, c4, c5, c6, c7, c8, o9, wn9⟩ hf hd K hK
            dsimp only at hK
            have hd7 : L 7 = true := (by first | (refine hd ⟨7, .data⟩ ?_ rfl; simp; done) | (refine hd ⟨7, .phase⟩ ?_ rfl; simp; done))
            have hd8 : L 8 = true := (by first | (refine hd ⟨8, .data⟩ ?_ rfl; simp; done) | (refine hd ⟨8, .phase⟩ ?_ rfl; simp; done))
            have k3 := o9 hf
            have e7 := c7 hd7
            rw [e7] at hK
            have e8 := c8 hd8
            rw [e8] at hK
            have t0 := k3.cell (i := k) (v := .int .i64 0) (by first | assumption | rfl)
            have f0 := k3.frozen (k)
            clear hd
            have hd7' := Lib.hid hd7
            clear hd7
            have hd8' := Lib.hid hd8
            clear hd8
            go_simp
            have hd7 := hd7'.out
            have hd8 := hd8'.out
            have hlok := k3.set (i := k) (v := .int .i64 X)
            refine hK undef _ (fun s h => by cases h) (fun _ => ?_)
            exact ⟨hB.setCell (by first | exact Nat.le_refl _ | assumption | (show _ ≤ _; omega) | (show (gc) ≤ (gc); omega)) _, c0, c1, c2, c3, c4, c5, c6, (fun _ => rfl), (fun _ => rfl), (fun h => by cases h), (fun _ => hlok)⟩
        case finr1 =>
          rintro L u W hL ⟨hB, c0, c1, c2, c3, c4, c5, c6, c7, c8, o9, wn9⟩
          have e0 := c0 (hL 0 (by decide))
          have e1 := c1 (hL 1 (by decide))
          have e2 := c2 (hL 2 (by decide))
          have e3 := c3 (hL 3 (by decide))
          have e4 := c4 (hL 4 (by decide))
          have e5 := c5 (hL 5 (by decide))
          have e6 := c6 (hL 6 (by decide))
          have e7 := c7 (hL 7 (by decide))
          have e8 := c8 (hL 8 (by decide))
          have hlok9 := wn9 (hL 9 (by decide))
          clear hL c0 c1 c2 c3 c4 c5 c6 c7 c8 o9 wn9
          try simp only [e0, e1, e2, e3, e4, e5, e6, e7, e8]
          clear e0 e1 e2 e3 e4 e5 e6 e7 e8
          go_wp2_with fail
          rw [CS.out] at hlok9
          exact ⟨⟨k + 1, by go_num, hlt, B.out.trans (hB.mono (Nat.le_refl _)), by rw [← HCN.out]; exact hlok9⟩, by simp [intOf]; omega⟩
      · obtain rfl : k = 3 := by omega
        rw [C3.out] at KC
        have c0 := KC.out.cell (i := 0) rfl
        have c1 := KC.out.cell (i := 1) rfl
        have c2 := KC.out.cell (i := 2) rfl
        have z0 := KZ.out.cell (i := 0) rfl
        have z1 := KZ.out.cell (i := 1) rfl
        have z2 := KZ.out.cell (i := 2) rfl
        have f0 := KZ.out.frozen 0
        have f1 := KZ.out.frozen 1
        have f2 := KZ.out.frozen 2
        go_wp2_with fail
        exact bodyPost_ret (v := .tuple #[.agg #[.int .i64 (b * f - c * e), .int .i64 (c * d - a * f), .int .i64 (a * e - b * d)], .int .i64 0]) (by simp [results, Try.results56, go_sem, z0, z1, z2]) rfl ⟨rfl, (((HB.out.trans (B.out.mono (Nat.le_of_lt gx))).setCell (by simp <;> omega) _).setCell (by simp <;> omega) _).setCell (by simp <;> omega) _⟩
end Go.Proofs.Ytfghjfgdjlkooaa
