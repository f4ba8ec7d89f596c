/-
  The program's package edge: the closure by which edges are sorted.
-/
import Derived.Test.YtkheomaihhcokaaEcF
import Derived.Shelf.SlSortCmp.NoneTotal
namespace Go.Proofs.Ytkheomaihhcokaa
open Go.RowKit Go.Sort

theorem grow_of_below {w w' : World} (h : Below w.heap.size w w') (hd : w.drawn ≤ w'.drawn) : ∃ q os', w' = grow (w.drewN q) os' := by
  refine ⟨w'.drawn - w.drawn, w'.heap.extract w.heap.size, ?_⟩
  have e : w'.heap = w.heap ++ w'.heap.extract w.heap.size := by
    apply Array.ext_getElem?
    intro i
    rw [Array.getElem?_append]
    split
    · exact h.block i (by assumption)
    · rename_i hi
      rw [Array.getElem?_extract]
      have hs := h.size
      by_cases hl : i < w'.heap.size
      · rw [if_pos (by omega)]
        congr 1
        omega
      · rw [if_neg (by omega)]
        exact Array.getElem?_eq_none (by omega)
  obtain ⟨h1, h2, h3, _, _⟩ := h
  show w' = grow { w with drawn := w.drawn + (w'.drawn - w.drawn) } _
  unfold grow
  cases w'
  cases w
  simp only [World.mk.injEq] at *
  refine ⟨?_, ?_, ?_, ?_, ?_⟩ <;> first | assumption | omega
abbrev SdE := Int × Int × Option Addr × Nat × Nat
def encE (x : SdE) : List Value := [.int .i64 x.1, .int .i64 x.2.1, .slice x.2.2.1 x.2.2.2.1 x.2.2.2.2]
def orI (p q : Int) : Int := if p = 0 then q else p
def cfE (x y : SdE) : Int := orI (Lib.compareInt x.1 y.1) (Lib.compareInt x.2.1 y.2.1)
theorem cfE_lt (x y : SdE) : ltOf cfE x y = decide (x.1 < y.1 ∨ x.1 = y.1 ∧ x.2.1 < y.2.1) := by
  unfold ltOf cfE orI Lib.compareInt
  apply decide_eq_decide.2
  by_cases h1 : x.1 < y.1
  · simp [h1]
  · by_cases h2 : y.1 < x.1
    · simp [h1, h2]; omega
    · have e : x.1 = y.1 := by omega
      by_cases h3 : x.2.1 < y.2.1
      · simp [e, h3]
      · by_cases h4 : y.2.1 < x.2.1 <;> simp [e, h3, h4]
theorem swoE : SWO (ltOf cfE) where
  irrefl x := by rw [cfE_lt]; simp
  trans x y z h1 h2 := by rw [cfE_lt] at *; simp at *; omega
  ntrans x y z h1 h2 := by rw [cfE_lt] at *; simp at *; omega
theorem cmp_w (x y : Int) (W : World) : Calls Try.prog 34 #[.int .i64 x, .int .i64 y] W fun e w' => e = .returned (.int .i64 (Lib.compareInt x y)) ∧ Below W.heap.size W w' ∧ W.drawn ≤ w'.drawn := by
  refine (Try.cmp_Compare_int x y W).mono ?_
  rintro e w' ⟨rfl, rfl⟩
  exact ⟨rfl, Below.refl _ _, Nat.le_refl _⟩
set_option maxRecDepth 100000 in
set_option maxHeartbeats 4000000 in
theorem or_w (g : Nat) (p q : Int) (W : World) (h : Lok W g 3 #[.int .i64 p, .int .i64 q]) : Calls Try.prog 33 #[.slice (some ⟨g, 0, none⟩) 2 2] W fun e w' => e = .returned (.int .i64 (orI p q)) ∧ w' = W := by
  have k0 := Lib.hid h
  clear h
  by_cases hp : p = 0
  · have hp1 := Lib.hid hp
    have E : Hid (orI p q = q) := Lib.hid (if_pos hp)
    by_cases hq : q = 0
    · have hq1 := Lib.hid hq
      have t0 := k0.out.cell (i := 0) rfl
      have t1 := k0.out.cell (i := 1) rfl
      have n0 : (p != 0) = false := by rw [hp]; rfl
      have n1 : (q != 0) = false := by rw [hq]; rfl
      clear hp hq
      go_enter Try.func33, Try.ntmps33
      go_wp2_with fail
      go_loopw [5, 8] (fun _ x wr => (x = .int .i64 0 ∨ x = .int .i64 1 ∨ x = .int .i64 2) ∧ wr = W) (fun _ x _ => 2 - (intOf x).toNat)
      case atStart => exact ⟨.inl rfl, rfl⟩
      case round =>
        obtain ⟨h, rfl⟩ := hrel
        rcases h with rfl | rfl | rfl
        · go_wp2
          go_roundw
          case rel => exact ⟨.inr (.inl (by go_num)), by first | rfl | trivial⟩
          case measure => simp [intOf]
        · go_wp2
          go_roundw
          case rel => exact ⟨.inr (.inr (by go_num)), by first | rfl | trivial⟩
          case measure => simp [intOf]
        · go_wp2
          go_ret
          exact ⟨by rw [E.out, hq1.out]; rfl, rfl⟩
    · have t0 := k0.out.cell (i := 0) rfl
      have t1 := k0.out.cell (i := 1) rfl
      have n0 : (p != 0) = false := by rw [hp]; rfl
      have n1 : (q != 0) = true := by rw [bne_iff_ne]; exact hq
      have hq1 := Lib.hid hq
      clear hp hq
      go_enter Try.func33, Try.ntmps33
      go_wp2_with fail
      go_loopw [5, 8] (fun _ x wr => (x = .int .i64 0 ∨ x = .int .i64 1) ∧ wr = W) (fun _ x _ => 2 - (intOf x).toNat)
      case atStart => exact ⟨.inl rfl, rfl⟩
      case round =>
        obtain ⟨h, rfl⟩ := hrel
        rcases h with rfl | rfl
        · go_wp2
          go_roundw
          case rel => exact ⟨.inr (by go_num), by first | rfl | trivial⟩
          case measure => simp [intOf]
        · go_wp2
          go_ret
          exact ⟨by rw [E.out]; rfl, rfl⟩
  · have E : Hid (orI p q = p) := Lib.hid (if_neg hp)
    have t0 := k0.out.cell (i := 0) rfl
    have n0 : (p != 0) = true := by rw [bne_iff_ne]; exact hp
    clear hp
    go_enter Try.func33, Try.ntmps33
    go_wp2_with fail
    go_loopw [5, 8] (fun _ x wr => x = .int .i64 0 ∧ wr = W) (fun _ x _ => 2 - (intOf x).toNat)
    case atStart => exact ⟨rfl, rfl⟩
    case round =>
      obtain ⟨rfl, rfl⟩ := hrel
      go_wp2
      go_ret
      exact ⟨by rw [E.out]; rfl, rfl⟩
theorem or_w2 (v : Value) (p q : Int) (W : World) (h : RowAt W v 2 3 #[.int .i64 p, .int .i64 q]) : Calls Try.prog 33 #[v] W fun e w' => e = .returned (.int .i64 (orI p q)) ∧ Below W.heap.size W w' ∧ W.drawn ≤ w'.drawn := by
  obtain ⟨g, rfl, hl⟩ := h
  refine (or_w g p q W hl).mono ?_
  rintro e w' ⟨rfl, rfl⟩
  exact ⟨rfl, Below.refl _ _, Nat.le_refl _⟩
set_option maxRecDepth 100000 in
set_option maxHeartbeats 8000000 in
theorem sorts_any (x y : SdE) (w : World) : Calls Try.prog 32 #[.agg (encE x).toArray, .agg (encE y).toArray] w fun e w' => e = .returned (.int .i64 (cfE x y)) ∧ ∃ q os', w' = grow (w.drewN q) os' := by
  obtain ⟨a0, a1, pa, na, ca⟩ := x
  obtain ⟨b0, b1, pb, nb, cb⟩ := y
  show Calls Try.prog 32 #[.agg #[.int .i64 a0, .int .i64 a1, .slice pa na ca], .agg #[.int .i64 b0, .int .i64 b1, .slice pb nb cb]] w fun e w' => e = .returned (.int .i64 (orI (Lib.compareInt a0 b0) (Lib.compareInt a1 b1))) ∧ ∃ q os', w' = grow (w.drewN q) os'
  have C1 := Lib.hid (fun W => cmp_w a0 b0 W)
  have C2 := Lib.hid (fun W => cmp_w a1 b1 W)
  generalize Lib.compareInt a0 b0 = p at *
  generalize Lib.compareInt a1 b1 = r at *
  have HB := Lib.hid (Below.refl w.heap.size w)
  go_enter Try.func32, Try.ntmps32
  go_upto_region 1 with fail
  have DR : w.drawn ≤ ((w.alloc (.cells #[.int .i64 a0, .int .i64 a1, .slice pa na ca] 39)).alloc (.cells #[.int .i64 b0, .int .i64 b1, .slice pb nb cb] 39)).drawn := Nat.le_refl _
  have hbe := below_new1 w (.cells #[.int .i64 a0, .int .i64 a1, .slice pa na ca] 39)
  have ze : (w.alloc (.cells #[.int .i64 a0, .int .i64 a1, .slice pa na ca] 39)).heap.size = w.heap.size + 1 := by simp
  have HB := Lib.hid hbe
  have ke := Lib.hid (Lok.new w 39 #[.int .i64 a0, .int .i64 a1, .slice pa na ca])
  clear hbe
  generalize w.alloc (.cells #[.int .i64 a0, .int .i64 a1, .slice pa na ca] 39) = Ve at *
  have hbf := below_new1 Ve (.cells #[.int .i64 b0, .int .i64 b1, .slice pb nb cb] 39)
  replace ke := Lib.hid (ke.out.keep hbf)
  have zf : (Ve.alloc (.cells #[.int .i64 b0, .int .i64 b1, .slice pb nb cb] 39)).heap.size = Ve.heap.size + 1 := by simp
  replace HB := Lib.hid (HB.out.trans (hbf.mono HB.out.size))
  have kf := Lib.hid (Lok.new Ve 39 #[.int .i64 b0, .int .i64 b1, .slice pb nb cb])
  clear hbf
  generalize Ve.alloc (.cells #[.int .i64 b0, .int .i64 b1, .slice pb nb cb] 39) = Vf at *
  rw [ze] at kf zf
  clear ze zf
  refine wp_region_rel (by kernel_rfl) [4, 5, 6, 7, 8, 9, 10, 11, 12, 13, 14, 15, 16] ?Fr1 ?hFr1
    (fun L u W => Below Vf.heap.size Vf W ∧ (L 0 = true → u 5 = .pointer (some ⟨w.heap.size, 0, none⟩)) ∧ (L 1 = true → u 6 = .int .i64 a0) ∧ (L 2 = true → u 7 = .pointer (some ⟨w.heap.size + 1, 0, none⟩)) ∧ (L 3 = true → u 8 = .int .i64 b0) ∧ (L 4 = true → u 9 = .int .i64 p) ∧ (L 5 = true → u 10 = .pointer (some ⟨w.heap.size, 1, none⟩)) ∧ (L 6 = true → u 11 = .int .i64 a1) ∧ (L 7 = true → u 12 = .pointer (some ⟨w.heap.size + 1, 1, none⟩)) ∧ (L 8 = true → u 13 = .int .i64 b1) ∧ (L 9 = true → u 14 = .int .i64 r) ∧ (L 10 = true → L 11 = false → RowAt W (u 15) 2 3 #[.int .i64 p, .int .i64 r]) ∧ (L 11 = true → u 16 = .int .i64 (orI p r)) ∧ (L 12 = true → u 4 = .int .i64 (orI p r)) ∧ Vf.drawn ≤ W.drawn) (by kernel_rfl) (by kernel_rfl) 13 rfl ?h0r1 ?stepr1 ?finr1
  case hFr1 => intro u; simp only [putAll, Act.put, List.setIfInBounds_toArray, List.set]; exact rfl
  case h0r1 => intro L u hL; exact ⟨(Below.refl _ _).drew, (fun h => by simp [hL] at h), (fun h => by simp [hL] at h), (fun h => by simp [hL] at h), (fun h => by simp [hL] at h), (fun h => by simp [hL] at h), (fun h => by simp [hL] at h), (fun h => by simp [hL] at h), (fun h => by simp [hL] at h), (fun h => by simp [hL] at h), (fun h => by simp [hL] at h), (fun h => by simp [hL] at h), (fun h => by simp [hL] at h), (fun h => by simp [hL] at h), (Nat.le_succ _)⟩
  case stepr1 =>
    refine ops_all (ops_cons ?s0r1 (ops_cons ?s1r1 (ops_cons ?s2r1 (ops_cons ?s3r1 (ops_cons ?s4r1 (ops_cons ?s5r1 (ops_cons ?s6r1 (ops_cons ?s7r1 (ops_cons ?s8r1 (ops_cons ?s9r1 (ops_cons ?s10r1 (ops_cons ?s11r1 (ops_cons ?s12r1 (ops_nil))))))))))))))
    case s0r1 =>
      rintro L u W ⟨hB, c0, c1, c2, c3, c4, c5, c6, c7, c8, c9, c10, c11, c12, DRW⟩ hf hd K hK
      dsimp only at hK
      clear hd
      go_simp
      refine hK _ _ ?_ (fun h => by cases h)
      intro s hs
      cases hs
      exact ⟨hB, (fun _ => rfl), c1, c2, c3, c4, c5, c6, c7, c8, c9, c10, c11, c12, (by first | exact DRW | exact Nat.le_trans DRW hdr)⟩
    case s1r1 =>
      rintro L u W ⟨hB, c0, c1, c2, c3, c4, c5, c6, c7, c8, c9, c10, c11, c12, DRW⟩ hf hd K hK
      dsimp only at hK
      have hd0 : L 0 = true := (by first | (refine hd ⟨0, .data⟩ ?_ rfl; simp; done) | (refine hd ⟨0, .guard⟩ ?_ rfl; simp; done) | (refine hd ⟨0, .phase⟩ ?_ rfl; simp; done) | (refine hd ⟨0, .chain⟩ ?_ rfl; simp; done))
      have e0 := c0 hd0
      rw [e0] at hK
      have t0 := (ke.out.keep hB).cell (i := 0) rfl
      clear hd0
      clear hd
      go_simp
      refine hK _ _ ?_ (fun h => by cases h)
      intro s hs
      cases hs
      exact ⟨hB, c0, (fun _ => rfl), c2, c3, c4, c5, c6, c7, c8, c9, c10, c11, c12, (by first | exact DRW | exact Nat.le_trans DRW hdr)⟩
    case s2r1 =>
      rintro L u W ⟨hB, c0, c1, c2, c3, c4, c5, c6, c7, c8, c9, c10, c11, c12, DRW⟩ hf hd K hK
      dsimp only at hK
      clear hd
      go_simp
      refine hK _ _ ?_ (fun h => by cases h)
      intro s hs
      cases hs
      exact ⟨hB, c0, c1, (fun _ => rfl), c3, c4, c5, c6, c7, c8, c9, c10, c11, c12, (by first | exact DRW | exact Nat.le_trans DRW hdr)⟩
    case s3r1 =>
      rintro L u W ⟨hB, c0, c1, c2, c3, c4, c5, c6, c7, c8, c9, c10, c11, c12, DRW⟩ hf hd K hK
      dsimp only at hK
      have hd2 : L 2 = true := (by first | (refine hd ⟨2, .data⟩ ?_ rfl; simp; done) | (refine hd ⟨2, .guard⟩ ?_ rfl; simp; done) | (refine hd ⟨2, .phase⟩ ?_ rfl; simp; done) | (refine hd ⟨2, .chain⟩ ?_ rfl; simp; done))
      have e2 := c2 hd2
      rw [e2] at hK
      have t0 := (kf.out.keep hB).cell (i := 0) rfl
      clear hd2
      clear hd
      go_simp
      refine hK _ _ ?_ (fun h => by cases h)
      intro s hs
      cases hs
      exact ⟨hB, c0, c1, c2, (fun _ => rfl), c4, c5, c6, c7, c8, c9, c10, c11, c12, (by first | exact DRW | exact Nat.le_trans DRW hdr)⟩
    case s4r1 =>
      rintro L u W ⟨hB, c0, c1, c2, c3, c4, c5, c6, c7, c8, c9, c10, c11, c12, DRW⟩ hf hd K hK
      dsimp only at hK
      have hd1 : L 1 = true := (by first | (refine hd ⟨1, .data⟩ ?_ rfl; simp; done) | (refine hd ⟨1, .guard⟩ ?_ rfl; simp; done) | (refine hd ⟨1, .phase⟩ ?_ rfl; simp; done) | (refine hd ⟨1, .chain⟩ ?_ rfl; simp; done))
      have hd3 : L 3 = true := (by first | (refine hd ⟨3, .data⟩ ?_ rfl; simp; done) | (refine hd ⟨3, .guard⟩ ?_ rfl; simp; done) | (refine hd ⟨3, .phase⟩ ?_ rfl; simp; done) | (refine hd ⟨3, .chain⟩ ?_ rfl; simp; done))
      have e1 := c1 hd1
      rw [e1] at hK
      have e3 := c3 hd3
      rw [e3] at hK
      clear hd1
      clear hd3
      clear hd
      go_simp
      go_wp2_with (go_at_call 34; ((with_reducible refine (C1.out _).mono ?_); rintro e w5 ⟨rfl, hb, hdr⟩))
      refine hK _ _ ?_ (fun h => by cases h)
      intro s hs
      cases hs
      exact ⟨hB.trans (hb.mono hB.size), c0, c1, c2, c3, (fun _ => rfl), c5, c6, c7, c8, c9, (fun h k => (c10 h k).keep hb), c11, c12, (by first | exact DRW | exact Nat.le_trans DRW hdr)⟩
    case s5r1 =>
      rintro L u W ⟨hB, c0, c1, c2, c3, c4, c5, c6, c7, c8, c9, c10, c11, c12, DRW⟩ hf hd K hK
      dsimp only at hK
      clear hd
      go_simp
      refine hK _ _ ?_ (fun h => by cases h)
      intro s hs
      cases hs
      exact ⟨hB, c0, c1, c2, c3, c4, (fun _ => rfl), c6, c7, c8, c9, c10, c11, c12, (by first | exact DRW | exact Nat.le_trans DRW hdr)⟩
    case s6r1 =>
      rintro L u W ⟨hB, c0, c1, c2, c3, c4, c5, c6, c7, c8, c9, c10, c11, c12, DRW⟩ hf hd K hK
      dsimp only at hK
      have hd5 : L 5 = true := (by first | (refine hd ⟨5, .data⟩ ?_ rfl; simp; done) | (refine hd ⟨5, .guard⟩ ?_ rfl; simp; done) | (refine hd ⟨5, .phase⟩ ?_ rfl; simp; done) | (refine hd ⟨5, .chain⟩ ?_ rfl; simp; done))
      have e5 := c5 hd5
      rw [e5] at hK
      have t0 := (ke.out.keep hB).cell (i := 1) rfl
      clear hd5
      clear hd
      go_simp
      refine hK _ _ ?_ (fun h => by cases h)
      intro s hs
      cases hs
      exact ⟨hB, c0, c1, c2, c3, c4, c5, (fun _ => rfl), c7, c8, c9, c10, c11, c12, (by first | exact DRW | exact Nat.le_trans DRW hdr)⟩
    case s7r1 =>
      rintro L u W ⟨hB, c0, c1, c2, c3, c4, c5, c6, c7, c8, c9, c10, c11, c12, DRW⟩ hf hd K hK
      dsimp only at hK
      clear hd
      go_simp
      refine hK _ _ ?_ (fun h => by cases h)
      intro s hs
      cases hs
      exact ⟨hB, c0, c1, c2, c3, c4, c5, c6, (fun _ => rfl), c8, c9, c10, c11, c12, (by first | exact DRW | exact Nat.le_trans DRW hdr)⟩
    case s8r1 =>
      rintro L u W ⟨hB, c0, c1, c2, c3, c4, c5, c6, c7, c8, c9, c10, c11, c12, DRW⟩ hf hd K hK
      dsimp only at hK
      have hd7 : L 7 = true := (by first | (refine hd ⟨7, .data⟩ ?_ rfl; simp; done) | (refine hd ⟨7, .guard⟩ ?_ rfl; simp; done) | (refine hd ⟨7, .phase⟩ ?_ rfl; simp; done) | (refine hd ⟨7, .chain⟩ ?_ rfl; simp; done))
      have e7 := c7 hd7
      rw [e7] at hK
      have t0 := (kf.out.keep hB).cell (i := 1) rfl
      clear hd7
      clear hd
      go_simp
      refine hK _ _ ?_ (fun h => by cases h)
      intro s hs
      cases hs
      exact ⟨hB, c0, c1, c2, c3, c4, c5, c6, c7, (fun _ => rfl), c9, c10, c11, c12, (by first | exact DRW | exact Nat.le_trans DRW hdr)⟩
    case s9r1 =>
      rintro L u W ⟨hB, c0, c1, c2, c3, c4, c5, c6, c7, c8, c9, c10, c11, c12, DRW⟩ hf hd K hK
      dsimp only at hK
      have hd6 : L 6 = true := (by first | (refine hd ⟨6, .data⟩ ?_ rfl; simp; done) | (refine hd ⟨6, .guard⟩ ?_ rfl; simp; done) | (refine hd ⟨6, .phase⟩ ?_ rfl; simp; done) | (refine hd ⟨6, .chain⟩ ?_ rfl; simp; done))
      have hd8 : L 8 = true := (by first | (refine hd ⟨8, .data⟩ ?_ rfl; simp; done) | (refine hd ⟨8, .guard⟩ ?_ rfl; simp; done) | (refine hd ⟨8, .phase⟩ ?_ rfl; simp; done) | (refine hd ⟨8, .chain⟩ ?_ rfl; simp; done))
      have e6 := c6 hd6
      rw [e6] at hK
      have e8 := c8 hd8
      rw [e8] at hK
      clear hd6
      clear hd8
      clear hd
      go_simp
      go_wp2_with (go_at_call 34; ((with_reducible refine (C2.out _).mono ?_); rintro e w5 ⟨rfl, hb, hdr⟩))
      refine hK _ _ ?_ (fun h => by cases h)
      intro s hs
      cases hs
      exact ⟨hB.trans (hb.mono hB.size), c0, c1, c2, c3, c4, c5, c6, c7, c8, (fun _ => rfl), (fun h k => (c10 h k).keep hb), c11, c12, (by first | exact DRW | exact Nat.le_trans DRW hdr)⟩
    case s10r1 =>
      rintro L u W ⟨hB, c0, c1, c2, c3, c4, c5, c6, c7, c8, c9, c10, c11, c12, DRW⟩ hf hd K hK
      dsimp only at hK
      have hd4 : L 4 = true := (by first | (refine hd ⟨4, .data⟩ ?_ rfl; simp; done) | (refine hd ⟨4, .guard⟩ ?_ rfl; simp; done) | (refine hd ⟨4, .phase⟩ ?_ rfl; simp; done) | (refine hd ⟨4, .chain⟩ ?_ rfl; simp; done))
      have hd9 : L 9 = true := (by first | (refine hd ⟨9, .data⟩ ?_ rfl; simp; done) | (refine hd ⟨9, .guard⟩ ?_ rfl; simp; done) | (refine hd ⟨9, .phase⟩ ?_ rfl; simp; done) | (refine hd ⟨9, .chain⟩ ?_ rfl; simp; done))
      have e4 := c4 hd4
      rw [e4] at hK
      have e9 := c9 hd9
      rw [e9] at hK
      clear hd4
      clear hd9
      clear hd
      go_simp
      have hb : Below W.heap.size W (W.alloc (.cells #[.int .i64 p, .int .i64 r] 3)) := (Below.refl _ W).alloc (Nat.le_refl _) _
      refine hK _ _ ?_ (fun h => by cases h)
      intro s hs
      cases hs
      exact ⟨hB.trans (hb.mono hB.size), c0, c1, c2, c3, c4, c5, c6, c7, c8, c9, (fun _ _ => ⟨_, rfl, Lok.new _ _ _⟩), c11, c12, (by first | exact DRW | exact Nat.le_trans DRW hdr)⟩
    case s11r1 =>
      rintro L u W ⟨hB, c0, c1, c2, c3, c4, c5, c6, c7, c8, c9, c10, c11, c12, DRW⟩ hf hd K hK
      dsimp only at hK
      have hd10 : L 10 = true := (by first | (refine hd ⟨10, .data⟩ ?_ rfl; simp; done) | (refine hd ⟨10, .guard⟩ ?_ rfl; simp; done) | (refine hd ⟨10, .phase⟩ ?_ rfl; simp; done) | (refine hd ⟨10, .chain⟩ ?_ rfl; simp; done))
      have e10 := c10 hd10 (by first | exact hf | assumption)
      clear hd10
      clear hd
      go_simp
      go_wp2_with (go_at_call 33; ((with_reducible refine (or_w2 _ p r _ e10).mono ?_); rintro e w5 ⟨rfl, hb, hdr⟩))
      refine hK _ _ ?_ (fun h => by cases h)
      intro s hs
      cases hs
      exact ⟨hB.trans (hb.mono hB.size), c0, c1, c2, c3, c4, c5, c6, c7, c8, c9, (fun _ h => by cases h), (fun _ => rfl), c12, (by first | exact DRW | exact Nat.le_trans DRW hdr)⟩
    case s12r1 =>
      rintro L u W ⟨hB, c0, c1, c2, c3, c4, c5, c6, c7, c8, c9, c10, c11, c12, DRW⟩ hf hd K hK
      dsimp only at hK
      have hd11 : L 11 = true := (by first | (refine hd ⟨11, .data⟩ ?_ rfl; simp; done) | (refine hd ⟨11, .guard⟩ ?_ rfl; simp; done) | (refine hd ⟨11, .phase⟩ ?_ rfl; simp; done) | (refine hd ⟨11, .chain⟩ ?_ rfl; simp; done))
      have e11 := c11 hd11
      rw [e11] at hK
      clear hd11
      clear hd
      go_simp
      refine hK _ _ ?_ (fun h => by cases h)
      intro s hs
      cases hs
      exact ⟨hB, c0, c1, c2, c3, c4, c5, c6, c7, c8, c9, c10, c11, (fun _ => rfl), (by first | exact DRW | exact Nat.le_trans DRW hdr)⟩
  case finr1 =>
    rintro L u W hL ⟨hB, c0, c1, c2, c3, c4, c5, c6, c7, c8, c9, c10, c11, c12, DRW⟩
    have e0 := c0 (hL 0 (by decide))
    have e1 := c1 (hL 1 (by decide))
    have e2 := c2 (hL 2 (by decide))
    have e3 := c3 (hL 3 (by decide))
    have e4 := c4 (hL 4 (by decide))
    have e5 := c5 (hL 5 (by decide))
    have e6 := c6 (hL 6 (by decide))
    have e7 := c7 (hL 7 (by decide))
    have e8 := c8 (hL 8 (by decide))
    have e9 := c9 (hL 9 (by decide))
    have e11 := c11 (hL 11 (by decide))
    have e12 := c12 (hL 12 (by decide))
    clear hL c0 c1 c2 c3 c4 c5 c6 c7 c8 c9 c10 c11 c12
    try simp only [e0, e1, e2, e3, e4, e5, e6, e7, e8, e9, e11, e12]
    clear e0 e1 e2 e3 e4 e5 e6 e7 e8 e9 e11 e12
    have HZ := Lib.hid (HB.out.trans (hB.mono HB.out.size))
    have DZ := Lib.hid (Nat.le_trans DR DRW)
    clear hB DRW
    go_wp2
    go_ret
    exact ⟨rfl, grow_of_below HZ.out DZ.out⟩
theorem eg_sorts : ∀ args w, (callFunc 32 args).run Try.prog w = .ok (.enter 32 args) w := enters_of Try.func32 (by kernel_rfl) rfl
theorem laysE (blk off size : Nat) (w : World) : CmpLays Try.prog 32 #[] encE 3 cfE blk off size w := fun _ _ _ _ x y => sorts_any x y _
end Go.Proofs.Ytkheomaihhcokaa
