/-
  The reference's Add.
-/
import Derived.Test.YtjndajndllimhaaDoorRefR
import Derived.Test.YtjndajndllimhaaDoorRel
namespace Go.Proofs.YtjndajndllimhaaDoor
open Go.RowKit
open Go.BigFrame

theorem isB_no {hi lo : Int} (h : ¬ Rt hi lo) : isB hi lo = false := decide_eq_false h
theorem sum_at (X Y H L : Int) : (X * 1000000000000000000 + Y + (H * 1000000000000000000 + L)) / 1000000000000000000 = (Y + L) / 1000000000000000000 + (X + H) ∧ (X * 1000000000000000000 + Y + (H * 1000000000000000000 + L)) % 1000000000000000000 = (Y + L) % 1000000000000000000 := by
  omega

theorem set_one {W : World} {g : Nat} {u v : Value} (h : W.cell? ⟨g, 1, none⟩ = some u) : (W.setCell ⟨g, 1, none⟩ v).cell? ⟨g, 1, none⟩ = some v := by
  simp [go_sem, h]
/-- What told answers for the next sum, and which way Add goes. -/
theorem told_way (X Y H L : Int) : ∃ h' l' e' : Int, ToldS (X * 1000000000000000000 + Y + (H * 1000000000000000000 + L)) h' l' e' ∧
    ((Rt ((Y + L) / 1000000000000000000 + (X + H)) ((Y + L) % 1000000000000000000) ∧ h' = (Y + L) / 1000000000000000000 + (X + H) ∧ l' = (Y + L) % 1000000000000000000 ∧ e' = 0) ∨
     (¬ Rt ((Y + L) / 1000000000000000000 + (X + H)) ((Y + L) % 1000000000000000000) ∧ h' = 0 ∧ l' = 0 ∧ e' = 4)) := by
  obtain ⟨s1, s2⟩ := sum_at X Y H L
  by_cases hr : Rt ((Y + L) / 1000000000000000000 + (X + H)) ((Y + L) % 1000000000000000000)
  · have hf : fits (X * 1000000000000000000 + Y + (H * 1000000000000000000 + L)) = true := by unfold fits isB; rw [s1, s2]; exact decide_eq_true hr
    exact ⟨_, _, 0, ⟨fun _ => ⟨s1.symm, s2.symm, rfl⟩, (fun h => by rw [hf] at h; cases h)⟩, .inl ⟨hr, rfl, rfl, rfl⟩⟩
  · have hf : fits (X * 1000000000000000000 + Y + (H * 1000000000000000000 + L)) = false := by unfold fits isB; rw [s1, s2]; exact decide_eq_false hr
    exact ⟨0, 0, 4, ⟨(fun h => by rw [hf] at h; cases h), fun _ => ⟨rfl, rfl, rfl⟩⟩, .inr ⟨hr, rfl, rfl, rfl⟩⟩

set_option maxRecDepth 100000 in
set_option maxHeartbeats 4000000 in
theorem radd_any (H L : Nat → Int) (b off n c : Nat) (w : World) (hn : n ≤ 9223372036854775807)
    (h0 : ∀ i, i < n → w.cell? ⟨b, off + i * 2, none⟩ = some (.int .i64 (H i)) ∧ w.cell? ⟨b, off + i * 2 + 1, none⟩ = some (.int .i64 (L i))) :
    Calls Tryd.prog 8 #[.slice (some ⟨b, off, none⟩) n c] w (AddPost H L n w) := by
  have C := Lib.hid h0
  clear h0
  go_enter Tryd.func8, Tryd.ntmps8
  go_wp2_with fail
  obtain ⟨W, hW⟩ : ∃ W : World, W = w.alloc (.cells #[.int .i64 0, .int .i64 0] 24) := ⟨_, rfl⟩
  have B0 : Below w.heap.size w W := by rw [hW]; (repeat (first | exact Below.refl _ _ | assumption | refine Below.drew ?_ | refine below_drewN ?_ _ | refine Below.setCell ?_ (by first | omega | (simp; done) | (simp; omega)) _ | refine Below.alloc ?_ (by first | omega | (simp; done) | (simp; omega)) _))
  have r0 : W.cell? ⟨w.heap.size, 0, none⟩ = some (.int .i64 0) := by rw [hW]; simp [go_sem]
  have r1 : W.cell? ⟨w.heap.size, 1, none⟩ = some (.int .i64 0) := by rw [hW]; simp [go_sem]
  have f0 : ∀ o, W.frozen? ⟨w.heap.size, o, none⟩ = false := by intro o; rw [hW]; simp [go_sem]
  have z0 : w.heap.size < W.heap.size := by rw [hW]; simp
  rw [← hW]
  have HB0 := Lib.hid B0
  clear hW B0
  go_loopw [4] (fun i wr => ∃ k : Nat, k ≤ n ∧ i = .int .i64 k ∧ (∀ j, j < k → Rt (H j) (L j)) ∧ Below W.heap.size W wr) (fun i _ => n - (intOf i).toNat)
  case atStart => exact ⟨0, Nat.zero_le _, rfl, fun j hj => absurd hj (by omega), Below.refl _ _⟩
  case round =>
    obtain ⟨k, hk, rfl, hR, hB⟩ := hrel
    by_cases hlt : k < n
    · have cb : b < w.heap.size := cell_lt (C.out k hlt).1
      have c0 : wr.cell? ⟨b, off + k * 2, none⟩ = some (.int .i64 (H k)) := by rw [hB.cell (p := ⟨b, off + k * 2, none⟩) (by show b < _; omega), HB0.out.cell (p := ⟨b, off + k * 2, none⟩) cb]; exact (C.out k hlt).1
      have c1 : wr.cell? ⟨b, off + k * 2 + 1, none⟩ = some (.int .i64 (L k)) := by rw [hB.cell (p := ⟨b, off + k * 2 + 1, none⟩) (by show b < _; omega), HB0.out.cell (p := ⟨b, off + k * 2 + 1, none⟩) cb]; exact (C.out k hlt).2
      have HBr := Lib.hid hB
      have HR := Lib.hid hR
      clear hB hR
      by_cases hr : Rt (H k) (L k)
      · have HK := Lib.hid hr
        clear hr
        go_wp2_with fail
        refine (ris_yes _ _ _ HK.out).mono ?_
        rintro e w1 ⟨rfl, hb⟩
        have hB1 := HBr.out.trans (hb.mono HBr.out.size)
        have HB1 := Lib.hid hB1
        clear hb hB1
        go_wp2_with fail
        go_roundw
        case rel => exact ⟨k + 1, by omega, by go_num, fun j hj => if h : j = k then by rw [h]; exact HK.out else HR.out j (by omega), HB1.out⟩
        case measure => simp [intOf]; omega
      · have HK := Lib.hid hr
        clear hr
        go_wp2_with fail
        refine (ris_no _ _ _ HK.out).mono ?_
        rintro e w1 ⟨rfl, hb⟩
        have hB1 := HBr.out.trans (hb.mono HBr.out.size)
        have HB1 := Lib.hid hB1
        have t0 : w1.cell? ⟨w.heap.size, 0, none⟩ = some (.int .i64 0) := (hB1.cell (p := ⟨w.heap.size, 0, none⟩) z0).trans r0
        have t1 : w1.cell? ⟨w.heap.size, 1, none⟩ = some (.int .i64 0) := (hB1.cell (p := ⟨w.heap.size, 1, none⟩) z0).trans r1
        have t2 : ∀ o, w1.frozen? ⟨w.heap.size, o, none⟩ = false := fun o => (hB1.frozen (p := ⟨w.heap.size, o, none⟩) z0).trans (f0 o)
        clear hb hB1
        go_wp2_with fail
        exact bodyPost_ret (v := .tuple #[.agg #[.int .i64 0, .int .i64 0], .int .i64 1]) (by simp [results, Tryd.results8, go_sem, t0, t1]) rfl ⟨((HB0.out.trans (HB1.out.mono (by omega))).setCell (Nat.le_refl _) _).setCell (Nat.le_refl _) _, .inl ⟨fun h => HK.out (h k hlt), rfl⟩⟩
    · obtain rfl : n = k := by omega
      have HR := Lib.hid hR
      have z1 : W.heap.size ≤ wr.heap.size := hB.size
      go_wp2_with fail
      have hB2 : Below w.heap.size w (wr.alloc (.cells #[.int .i64 0, .int .i64 0] 24)) := (HB0.out.trans (hB.mono (by omega))).alloc (by omega) _
      have t0 : (wr.alloc (.cells #[.int .i64 0, .int .i64 0] 24)).cell? ⟨w.heap.size, 0, none⟩ = some (.int .i64 0) := keepa (keepc hB r0)
      have t1 : (wr.alloc (.cells #[.int .i64 0, .int .i64 0] 24)).cell? ⟨w.heap.size, 1, none⟩ = some (.int .i64 0) := keepa (keepc hB r1)
      have t2 : ∀ o, (wr.alloc (.cells #[.int .i64 0, .int .i64 0] 24)).frozen? ⟨w.heap.size, o, none⟩ = false := fun o => by
        rw [World.frozen?_alloc_past _ _ _ (by omega)]; exact (hB.frozen (p := ⟨w.heap.size, o, none⟩) z0).trans (f0 o)
      have s0 : (wr.alloc (.cells #[.int .i64 0, .int .i64 0] 24)).cell? ⟨wr.heap.size, 0, none⟩ = some (.int .i64 0) := by simp
      have s1 : (wr.alloc (.cells #[.int .i64 0, .int .i64 0] 24)).cell? ⟨wr.heap.size, 1, none⟩ = some (.int .i64 0) := by simp
      have s2 : ∀ o, (wr.alloc (.cells #[.int .i64 0, .int .i64 0] 24)).frozen? ⟨wr.heap.size, o, none⟩ = false := fun o => by simp
      generalize (wr.alloc (.cells #[.int .i64 0, .int .i64 0] 24)) = V at *
      have zG : w.heap.size < wr.heap.size := by omega
      have nG : ¬ w.heap.size = wr.heap.size := by omega
      generalize wr.heap.size = G at *
      clear hB hR z1
      go_loopw [6] (fun i wv => ∃ k : Nat, k ≤ n ∧ i = .int .i64 k ∧ (∀ j, j ≤ k → Rt (sumTo H L j).1 (sumTo H L j).2) ∧ Below w.heap.size w wv ∧
          wv.cell? ⟨w.heap.size, 0, none⟩ = some (.int .i64 0) ∧ wv.cell? ⟨w.heap.size, 1, none⟩ = some (.int .i64 0) ∧ (∀ o, wv.frozen? ⟨w.heap.size, o, none⟩ = false) ∧
          wv.cell? ⟨G, 0, none⟩ = some (.int .i64 (sumTo H L k).1) ∧ wv.cell? ⟨G, 1, none⟩ = some (.int .i64 (sumTo H L k).2) ∧ (∀ o, wv.frozen? ⟨G, o, none⟩ = false)) (fun i _ => n - (intOf i).toNat)
      case atStart => exact ⟨0, Nat.zero_le _, rfl, fun j hj => by rw [Nat.le_zero.1 hj]; exact (by decide : Rt 0 0), hB2, t0, t1, t2, s0, s1, s2⟩
      case round =>
        clear t0 t1 t2 s0 s1 s2 hB2
        obtain ⟨k, hk, rfl, hS, hB, t0, t1, t2, s0, s1, s2⟩ := hrel
        have HS := Lib.hid hS
        have HBv := Lib.hid hB
        have zv : w.heap.size < wr.heap.size := cell_lt t0
        have zg : G < wr.heap.size := cell_lt s0
        by_cases hlt : k < n
        · have cb : b < w.heap.size := cell_lt (C.out k hlt).1
          have c0' : wr.cell? ⟨b, off + k * 2, none⟩ = some (.int .i64 (H k)) := by rw [hB.cell (p := ⟨b, off + k * 2, none⟩) cb]; exact (C.out k hlt).1
          have c1' : wr.cell? ⟨b, off + k * 2 + 1, none⟩ = some (.int .i64 (L k)) := by rw [hB.cell (p := ⟨b, off + k * 2 + 1, none⟩) cb]; exact (C.out k hlt).2
          have ra := HR.out k hlt
          have rs := hS k (Nat.le_refl _)
          have E : (((sumTo H L k).2 + L k) / 1000000000000000000 + ((sumTo H L k).1 + H k), ((sumTo H L k).2 + L k) % 1000000000000000000) = sumTo H L (k + 1) := rfl
          generalize (sumTo H L k).1 = X at *
          generalize (sumTo H L k).2 = Y at *
          generalize hHk : H k = h at *
          generalize hLk : L k = l at *
          have HE := Lib.hid E
          have N1 := Lib.hid (fun W => number_any X Y W rs)
          have N2 := Lib.hid (fun W => number_any h l W ra)
          have sm1 : Small (X * 1000000000000000000 + Y) := small_of (by unfold Rt at rs; omega)
          have sm2 : Small (h * 1000000000000000000 + l) := small_of (by unfold Rt at ra; omega)
          have sm3 : Small (X * 1000000000000000000 + Y + (h * 1000000000000000000 + l)) := small_of (by unfold Rt at ra rs; omega)
          have S1 := Lib.hid (fun (W : World) (va vb : Value) (p : NumV W va (X * 1000000000000000000 + Y)) (q : NumV W vb (h * 1000000000000000000 + l)) => sum_any p q sm1 sm2)
          obtain ⟨h', l', e', hT, hE⟩ := told_way X Y h l
          have TD := Lib.hid (fun (W : World) (v : Value) (q : NumV W v (X * 1000000000000000000 + Y + (h * 1000000000000000000 + l))) => told_at q sm3 h' l' e' hT.1 hT.2)
          have HX := Lib.hid hE
          clear hS hT hE hHk hLk ra rs sm1 sm2 sm3
          have i0 : (0 : Int) ≤ (k : Int) := by omega
          have i1 : (k : Int) < (n : Int) := by omega
          have i2 : ((k : Int)).toNat = k := by omega
          go_upto_region 10 with fail
          refine wp_region_rel (by kernel_rfl) [7, 8, 29, 30, 31, 32, 33, 34, 35, 36, 37, 38, 39, 40] ?F ?hF
            (fun L u W => Below wr.heap.size wr W ∧ (L 0 = true → u 30 = .agg #[.int .i64 X, .int .i64 Y]) ∧ (L 1 = true → L 7 = false → NumV W (u 31) (X * 1000000000000000000 + Y)) ∧ (L 2 = true → u 32 = .slice (some ⟨b, off, none⟩) n c) ∧ (L 3 = true → u 33 = .int .i64 k) ∧ (L 4 = true → u 34 = .pointer (some ⟨b, off + k * 2, none⟩)) ∧ (L 5 = true → u 35 = .agg #[.int .i64 h, .int .i64 l]) ∧ (L 6 = true → L 7 = false → NumV W (u 36) (h * 1000000000000000000 + l)) ∧ (L 7 = true → L 8 = false → NumV W (u 37) (X * 1000000000000000000 + Y + (h * 1000000000000000000 + l))) ∧ (L 8 = true → u 38 = .tuple #[.agg #[.int .i64 h', .int .i64 l'], .int .i64 e']) ∧ (L 9 = true → u 29 = .tuple #[.agg #[.int .i64 h', .int .i64 l'], .int .i64 e']) ∧ (L 10 = true → u 39 = .agg #[.int .i64 h', .int .i64 l']) ∧ (L 11 = true → u 40 = .int .i64 e') ∧ (L 14 = true → u 8 = .int .i64 e') ∧ (L 12 = true → ∃ (g : Nat) (x12_0 x12_1 : Value), u 7 = .pointer (some ⟨g, 0, none⟩) ∧ wr.heap.size ≤ g ∧ Lok W g 24 #[x12_0, x12_1] ∧ (L 13 = true → x12_0 = .int .i64 h' ∧ x12_1 = .int .i64 l')) ∧ (L 13 = true → L 12 = true)) (by kernel_rfl) (by kernel_rfl) 15 rfl ?h0 ?step ?fin
          case hF => intro u; simp only [putAll, Act.put, List.setIfInBounds_toArray, List.set]; exact rfl
          case h0 => intro L u hL; exact ⟨(Below.refl _ _).drew, (fun h => by simp [hL] at h), (fun h => by simp [hL] at h), (fun h => by simp [hL] at h), (fun h => by simp [hL] at h), (fun h => by simp [hL] at h), (fun h => by simp [hL] at h), (fun h => by simp [hL] at h), (fun h => by simp [hL] at h), (fun h => by simp [hL] at h), (fun h => by simp [hL] at h), (fun h => by simp [hL] at h), (fun h => by simp [hL] at h), (fun h => by simp [hL] at h), (fun h => by simp [hL] at h), (fun h => by simp [hL] at h)⟩
          case step =>
            refine ops_all (ops_cons ?s0 (ops_cons ?s1 (ops_cons ?s2 (ops_cons ?s3 (ops_cons ?s4 (ops_cons ?s5 (ops_cons ?s6 (ops_cons ?s7 (ops_cons ?s8 (ops_cons ?s9 (ops_cons ?s10 (ops_cons ?s11 (ops_cons ?s12 (ops_cons ?s13 (ops_cons ?s14 (ops_nil))))))))))))))))
            case s0 =>
              rintro L u W ⟨hB, c0, c1, c2, c3, c4, c5, c6, c7, c8, c9, c10, c11, c14, c12, d13⟩ hf hd K hK
              dsimp only at hK
              have p0 := keepc hB s0
              have p1 := keepc hB s1
              clear hd
              go_simp
              refine hK _ _ ?_ (fun h => by cases h)
              intro s hs
              cases hs
              exact ⟨hB, (fun _ => rfl), c1, c2, c3, c4, c5, c6, c7, c8, c9, c10, c11, c14, c12, d13⟩
            case s1 =>
              rintro L u W ⟨hB, c0, c1, c2, c3, c4, c5, c6, c7, c8, c9, c10, c11, c14, c12, d13⟩ hf hd K hK
              dsimp only at hK
              have hd0 : L 0 = true := hd ⟨0, .data⟩ (by simp) rfl
              have e0 := c0 hd0
              rw [e0] at hK
              clear hd0
              clear hd
              go_simp
              go_wp2_with (go_at_call 32; ((with_reducible refine (N1.out _).mono ?_); rintro e w5 ⟨hb, v5, rfl, q⟩))
              refine hK _ _ ?_ (fun h => by cases h)
              intro s hs
              cases hs
              exact ⟨hB.trans (hb.mono hB.size), c0, (fun _ _ => q), c2, c3, c4, c5, (fun h k => (c6 h k).keep hb), (fun h k => (c7 h k).keep hb), c8, c9, c10, c11, c14, (fun h => by obtain ⟨g, x12_0, x12_1, k1, k2, k3, k4⟩ := c12 h; exact ⟨g, x12_0, x12_1, k1, k2, k3.keep hb, k4⟩), d13⟩
            case s2 =>
              rintro L u W ⟨hB, c0, c1, c2, c3, c4, c5, c6, c7, c8, c9, c10, c11, c14, c12, d13⟩ hf hd K hK
              dsimp only at hK
              clear hd
              go_simp
              refine hK _ _ ?_ (fun h => by cases h)
              intro s hs
              cases hs
              exact ⟨hB, c0, c1, (fun _ => rfl), c3, c4, c5, c6, c7, c8, c9, c10, c11, c14, c12, d13⟩
            case s3 =>
              rintro L u W ⟨hB, c0, c1, c2, c3, c4, c5, c6, c7, c8, c9, c10, c11, c14, c12, d13⟩ hf hd K hK
              dsimp only at hK
              clear hd
              go_simp
              refine hK _ _ ?_ (fun h => by cases h)
              intro s hs
              cases hs
              exact ⟨hB, c0, c1, c2, (fun _ => rfl), c4, c5, c6, c7, c8, c9, c10, c11, c14, c12, d13⟩
            case s4 =>
              rintro L u W ⟨hB, c0, c1, c2, c3, c4, c5, c6, c7, c8, c9, c10, c11, c14, c12, d13⟩ hf hd K hK
              dsimp only at hK
              have hd2 : L 2 = true := hd ⟨2, .data⟩ (by simp) rfl
              have hd3 : L 3 = true := hd ⟨3, .data⟩ (by simp) rfl
              have e2 := c2 hd2
              rw [e2] at hK
              have e3 := c3 hd3
              rw [e3] at hK
              clear hd2
              clear hd3
              clear hd
              go_simp
              refine hK _ _ ?_ (fun h => by cases h)
              intro s hs
              cases hs
              exact ⟨hB, c0, c1, c2, c3, (fun _ => rfl), c5, c6, c7, c8, c9, c10, c11, c14, c12, d13⟩
            case s5 =>
              rintro L u W ⟨hB, c0, c1, c2, c3, c4, c5, c6, c7, c8, c9, c10, c11, c14, c12, d13⟩ hf hd K hK
              dsimp only at hK
              have hd4 : L 4 = true := hd ⟨4, .data⟩ (by simp) rfl
              have e4 := c4 hd4
              rw [e4] at hK
              have p0 := keepc hB c0'
              have p1 := keepc hB c1'
              clear hd4
              clear hd
              go_simp
              refine hK _ _ ?_ (fun h => by cases h)
              intro s hs
              cases hs
              exact ⟨hB, c0, c1, c2, c3, c4, (fun _ => rfl), c6, c7, c8, c9, c10, c11, c14, c12, d13⟩
            case s6 =>
              rintro L u W ⟨hB, c0, c1, c2, c3, c4, c5, c6, c7, c8, c9, c10, c11, c14, c12, d13⟩ hf hd K hK
              dsimp only at hK
              have hd5 : L 5 = true := hd ⟨5, .data⟩ (by simp) rfl
              have e5 := c5 hd5
              rw [e5] at hK
              clear hd5
              clear hd
              go_simp
              go_wp2_with (go_at_call 32; ((with_reducible refine (N2.out _).mono ?_); rintro e w5 ⟨hb, v5, rfl, q⟩))
              refine hK _ _ ?_ (fun h => by cases h)
              intro s hs
              cases hs
              exact ⟨hB.trans (hb.mono hB.size), c0, (fun h k => (c1 h k).keep hb), c2, c3, c4, c5, (fun _ _ => q), (fun h k => (c7 h k).keep hb), c8, c9, c10, c11, c14, (fun h => by obtain ⟨g, x12_0, x12_1, k1, k2, k3, k4⟩ := c12 h; exact ⟨g, x12_0, x12_1, k1, k2, k3.keep hb, k4⟩), d13⟩
            case s7 =>
              rintro L u W ⟨hB, c0, c1, c2, c3, c4, c5, c6, c7, c8, c9, c10, c11, c14, c12, d13⟩ hf hd K hK
              dsimp only at hK
              have hd1 : L 1 = true := hd ⟨1, .data⟩ (by simp) rfl
              have hd6 : L 6 = true := hd ⟨6, .data⟩ (by simp) rfl
              have e1 := c1 hd1 (by first | exact hf | assumption)
              have e6 := c6 hd6 (by first | exact hf | assumption)
              clear hd1
              clear hd6
              clear hd
              go_simp
              go_wp2_with (go_at_call 31; ((with_reducible refine (S1.out _ _ _ e1 e6).mono ?_); rintro e w5 ⟨hb, v5, rfl, q⟩))
              refine hK _ _ ?_ (fun h => by cases h)
              intro s hs
              cases hs
              exact ⟨hB.trans (hb.mono hB.size), c0, (fun _ h => by cases h), c2, c3, c4, c5, (fun _ h => by cases h), (fun _ _ => q), c8, c9, c10, c11, c14, (fun h => by obtain ⟨g, x12_0, x12_1, k1, k2, k3, k4⟩ := c12 h; exact ⟨g, x12_0, x12_1, k1, k2, k3.keep hb, k4⟩), d13⟩
            case s8 =>
              rintro L u W ⟨hB, c0, c1, c2, c3, c4, c5, c6, c7, c8, c9, c10, c11, c14, c12, d13⟩ hf hd K hK
              dsimp only at hK
              have hd7 : L 7 = true := hd ⟨7, .data⟩ (by simp) rfl
              have e7 := c7 hd7 (by first | exact hf | assumption)
              clear hd7
              clear hd
              go_simp
              go_wp2_with (go_at_call 28; ((with_reducible refine (TD.out _ _ e7).mono ?_); rintro e w5 ⟨rfl, hb⟩))
              refine hK _ _ ?_ (fun h => by cases h)
              intro s hs
              cases hs
              exact ⟨hB.trans (hb.mono hB.size), c0, (fun h k => (c1 h k).keep hb), c2, c3, c4, c5, (fun h k => (c6 h k).keep hb), (fun _ h => by cases h), (fun _ => rfl), c9, c10, c11, c14, (fun h => by obtain ⟨g, x12_0, x12_1, k1, k2, k3, k4⟩ := c12 h; exact ⟨g, x12_0, x12_1, k1, k2, k3.keep hb, k4⟩), d13⟩
            case s9 =>
              rintro L u W ⟨hB, c0, c1, c2, c3, c4, c5, c6, c7, c8, c9, c10, c11, c14, c12, d13⟩ hf hd K hK
              dsimp only at hK
              have hd8 : L 8 = true := hd ⟨8, .data⟩ (by simp) rfl
              have e8 := c8 hd8
              rw [e8] at hK
              clear hd8
              clear hd
              go_simp
              refine hK _ _ ?_ (fun h => by cases h)
              intro s hs
              cases hs
              exact ⟨hB, c0, c1, c2, c3, c4, c5, c6, c7, c8, (fun _ => rfl), c10, c11, c14, c12, d13⟩
            case s10 =>
              rintro L u W ⟨hB, c0, c1, c2, c3, c4, c5, c6, c7, c8, c9, c10, c11, c14, c12, d13⟩ hf hd K hK
              dsimp only at hK
              have hd9 : L 9 = true := hd ⟨9, .data⟩ (by simp) rfl
              have e9 := c9 hd9
              rw [e9] at hK
              clear hd9
              clear hd
              go_simp
              refine hK _ _ ?_ (fun h => by cases h)
              intro s hs
              cases hs
              exact ⟨hB, c0, c1, c2, c3, c4, c5, c6, c7, c8, c9, (fun _ => rfl), c11, c14, c12, d13⟩
            case s11 =>
              rintro L u W ⟨hB, c0, c1, c2, c3, c4, c5, c6, c7, c8, c9, c10, c11, c14, c12, d13⟩ hf hd K hK
              dsimp only at hK
              have hd9 : L 9 = true := hd ⟨9, .data⟩ (by simp) rfl
              have e9 := c9 hd9
              rw [e9] at hK
              clear hd9
              clear hd
              go_simp
              refine hK _ _ ?_ (fun h => by cases h)
              intro s hs
              cases hs
              exact ⟨hB, c0, c1, c2, c3, c4, c5, c6, c7, c8, c9, c10, (fun _ => rfl), c14, c12, d13⟩
            case s12 =>
              rintro L u W ⟨hB, c0, c1, c2, c3, c4, c5, c6, c7, c8, c9, c10, c11, c14, c12, d13⟩ hf hd K hK
              dsimp only at hK
              go_simp
              have hb : Below W.heap.size W (W.alloc (.cells #[.int .i64 0, .int .i64 0] 24)) := (Below.refl _ W).alloc (Nat.le_refl _) _
              refine hK _ _ ?_ (fun h => by cases h)
              intro s hs
              cases hs
              exact ⟨hB.trans (hb.mono hB.size), c0, (fun h k => (c1 h k).keep hb), c2, c3, c4, c5, (fun h k => (c6 h k).keep hb), (fun h k => (c7 h k).keep hb), c8, c9, c10, c11, c14, (fun _ => ⟨_, _, _, rfl, hB.size, Lok.new _ _ _, fun h => absurd (d13 h) (by rw [hf]; decide)⟩), (fun _ => rfl)⟩
            case s13 =>
              rintro L u W ⟨hB, c0, c1, c2, c3, c4, c5, c6, c7, c8, c9, c10, c11, c14, c12, d13⟩ hf hd K hK
              dsimp only at hK
              have hd12 : L 12 = true := hd ⟨12, .data⟩ (by simp) rfl
              have hd10 : L 10 = true := hd ⟨10, .data⟩ (by simp) rfl
              have hdx7 : L 7 = true := hd ⟨7, .phase⟩ (by simp) rfl
              have hdx8 : L 8 = true := hd ⟨8, .phase⟩ (by simp) rfl
              obtain ⟨g, x12_0, x12_1, e12, k2, k3, k4⟩ := c12 hd12
              rw [e12] at hK
              have e10 := c10 hd10
              rw [e10] at hK
              have t0 := k3.cell (i := 0) rfl
              have f0 := k3.frozen 0
              have t1 := k3.cell (i := 1) rfl
              have f1 := k3.frozen 1
              have HH := Lib.hid (And.intro trivial trivial)
              clear hd
              have hd12' := Lib.hid hd12
              clear hd12
              have hd10' := Lib.hid hd10
              clear hd10
              have hdx7' := Lib.hid hdx7
              clear hdx7
              have hdx8' := Lib.hid hdx8
              clear hdx8
              go_simp
              have hd12 := hd12'.out
              have hd10 := hd10'.out
              have hdx7 := hdx7'.out
              have hdx8 := hdx8'.out
              have hlok := (k3.set (i := 0) (v := .int .i64 h')).set (i := 1) (v := .int .i64 l')
              refine hK undef _ (fun s h => by cases h) (fun _ => ?_)
              exact ⟨(hB.setCell k2 _).setCell k2 _, c0, (fun _ h => absurd hdx7 (by rw [show L 7 = false from h]; decide)), c2, c3, c4, c5, (fun _ h => absurd hdx7 (by rw [show L 7 = false from h]; decide)), (fun _ h => absurd hdx8 (by rw [show L 8 = false from h]; decide)), c8, c9, (fun _ => rfl), c11, c14, (fun _ => ⟨g, _, _, rfl, k2, hlok, fun _ => ⟨rfl, rfl⟩⟩), (fun _ => hd12)⟩
            case s14 =>
              rintro L u W ⟨hB, c0, c1, c2, c3, c4, c5, c6, c7, c8, c9, c10, c11, c14, c12, d13⟩ hf hd K hK
              dsimp only at hK
              have hd11 : L 11 = true := hd ⟨11, .data⟩ (by simp) rfl
              have e11 := c11 hd11
              rw [e11] at hK
              clear hd11
              clear hd
              go_simp
              refine hK _ _ ?_ (fun h => by cases h)
              intro s hs
              cases hs
              exact ⟨hB, c0, c1, c2, c3, c4, c5, c6, c7, c8, c9, c10, c11, (fun _ => rfl), c12, d13⟩
          case fin =>
            rintro L u W hL ⟨hB, c0, c1, c2, c3, c4, c5, c6, c7, c8, c9, c10, c11, c14, c12, d13⟩
            have e0 := c0 (hL 0 (by decide))
            have e2 := c2 (hL 2 (by decide))
            have e3 := c3 (hL 3 (by decide))
            have e4 := c4 (hL 4 (by decide))
            have e5 := c5 (hL 5 (by decide))
            have e8 := c8 (hL 8 (by decide))
            have e9 := c9 (hL 9 (by decide))
            have e10 := c10 (hL 10 (by decide))
            have e11 := c11 (hL 11 (by decide))
            have e14 := c14 (hL 14 (by decide))
            obtain ⟨g12, x12_0, x12_1, e12, hg12, hlok12, hst12⟩ := c12 (hL 12 (by decide))
            obtain ⟨rfl, rfl⟩ := hst12 (hL 13 (by decide))
            clear hst12
            clear hL c0 c1 c2 c3 c4 c5 c6 c7 c8 c9 c10 c11 c14 c12 d13
            try simp only [e0, e2, e3, e4, e5, e8, e9, e10, e11, e14, e12]
            clear e0 e2 e3 e4 e5 e8 e9 e10 e11 e14 e12
            have zW : wr.heap.size ≤ W.heap.size := hB.size
            have zGw : w.heap.size < G := zG
            replace t0 := keepc hB t0
            replace t1 := keepc hB t1
            replace t2 := fun p => (hB.frozen (p := ⟨w.heap.size, p, none⟩) zv).trans (t2 p)
            replace s0 := keepc hB s0
            replace s1 := keepc hB s1
            replace s2 := fun p => (hB.frozen (p := ⟨G, p, none⟩) zg).trans (s2 p)
            have q0 := hlok12.cell (i := 0) rfl
            have q1 := hlok12.cell (i := 1) rfl
            have HB := Lib.hid (HBv.out.trans (hB.mono HBv.out.size))
            clear hB hlok12 c0' c1' hg12 N1 N2 S1 TD
            rcases HX.out with ⟨hr, rfl, rfl, rfl⟩ | ⟨hr, rfl, rfl, rfl⟩
            · have HK := Lib.hid hr
              clear HX hr
              go_wp2
              go_roundw
              case rel =>
                have n1 : w.heap.size ≠ G := by omega
                have z0 : W.cell? ⟨G, 0, none⟩ = some (.int .i64 X) := by assumption
                have z1 : W.cell? ⟨G, 1, none⟩ = some (.int .i64 Y) := by assumption
                refine ⟨k + 1, hlt, by go_num, fun j hj => if h : j = k + 1 then by rw [h, ← HE.out]; exact HK.out else HS.out j (by omega), (HB.out.setCell (Nat.le_of_lt zGw) _).setCell (Nat.le_of_lt zGw) _, cell_other (cell_other t0 n1) n1, cell_other (cell_other t1 n1) n1, fun p => (World.frozen?_setCell _ _ _ _).trans ((World.frozen?_setCell _ _ _ _).trans (t2 p)), ?_, ?_, fun p => (World.frozen?_setCell _ _ _ _).trans ((World.frozen?_setCell _ _ _ _).trans (s2 p))⟩
                · rw [← HE.out]; simp [go_sem, z0]
                · rw [← HE.out]; exact set_one (u := .int .i64 Y) (by simp [go_sem, z1])
              case measure => simp [intOf]; omega
            · have HK := Lib.hid hr
              clear HX hr
              go_wp2_with fail
              exact bodyPost_ret (v := .tuple #[.agg #[.int .i64 0, .int .i64 0], .int .i64 4]) (by simp [results, Tryd.results8, go_sem, t0, t1]) rfl ⟨((HB.out.setCell (Nat.le_refl _) _).setCell (Nat.le_refl _) _), .inr (.inl ⟨HR.out, fun q => HK.out (by have := q (k + 1) (by omega); rw [← HE.out] at this; exact this), rfl⟩)⟩
        · obtain rfl : n = k := by omega
          go_wp2_with fail
          exact bodyPost_ret (v := .tuple #[.agg #[.int .i64 (sumTo H L n).1, .int .i64 (sumTo H L n).2], .int .i64 0]) (by simp [results, Tryd.results8, go_sem, t0, t1]) rfl ⟨(HBv.out.setCell (Nat.le_refl _) _).setCell (Nat.le_refl _) _, .inr (.inr ⟨HR.out, HS.out, rfl⟩)⟩
end Go.Proofs.YtjndajndllimhaaDoor
