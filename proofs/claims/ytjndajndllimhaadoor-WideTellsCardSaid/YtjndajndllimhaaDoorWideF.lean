/-
  Contracts of package wide: Add, over any slice.
-/
import Derived.Test.YtjndajndllimhaaDoorWideE
import Derived.LoopTactic
import Derived.Deep.LoopGhost
namespace Go.Proofs.YtjndajndllimhaaDoor
open Go.RowKit

/-- The sum of the first k. -/
def sumTo (H L : Nat → Int) : Nat → Int × Int
  | 0 => (0, 0)
  | k + 1 => (((sumTo H L k).2 + L k) / 1000000000000000000 + ((sumTo H L k).1 + H k), ((sumTo H L k).2 + L k) % 1000000000000000000)
def AllR (H L : Nat → Int) (n : Nat) : Prop := ∀ i, i < n → Rt (H i) (L i)
def AllS (H L : Nat → Int) (n : Nat) : Prop := ∀ i, i ≤ n → Rt (sumTo H L i).1 (sumTo H L i).2
/-- What Add answers. -/
def AddPost (H L : Nat → Int) (n : Nat) (w : World) (e : Ending) (w' : World) : Prop :=
  Below w.heap.size w w' ∧
  ((¬ AllR H L n ∧ e = .returned (.tuple #[.agg #[.int .i64 0, .int .i64 0], .int .i64 1])) ∨
   (AllR H L n ∧ ¬ AllS H L n ∧ e = .returned (.tuple #[.agg #[.int .i64 0, .int .i64 0], .int .i64 4])) ∨
   (AllR H L n ∧ AllS H L n ∧ e = .returned (.tuple #[.agg #[.int .i64 (sumTo H L n).1, .int .i64 (sumTo H L n).2], .int .i64 0])))

set_option maxHeartbeats 1000000 in
theorem add_any (H L : Nat → Int) (b off n c : Nat) (w : World) (hn : n ≤ 9223372036854775807)
    (h0 : ∀ i, i < n → w.cell? ⟨b, off + i * 2, none⟩ = some (.int .i64 (H i)) ∧ w.cell? ⟨b, off + i * 2 + 1, none⟩ = some (.int .i64 (L i))) :
    Calls Tryd.prog 7 #[.slice (some ⟨b, off, none⟩) n c] w (AddPost H L n w) := by
  have C := Lib.hid h0
  clear h0
  go_enter Tryd.func7, Tryd.ntmps7
  go_wp2_with fail
  obtain ⟨W, hW⟩ : ∃ W : World, W = w.alloc (.cells #[.int .i64 0, .int .i64 0] 24) := ⟨_, rfl⟩
  have B0 : Below w.heap.size w W := by rw [hW]; (repeat (first | exact Below.refl _ _ | assumption | refine Below.drew ?_ | refine below_drewN ?_ _ | refine Below.setCell ?_ (by first | omega | (simp; done) | (simp; omega)) _ | refine Below.alloc ?_ (by first | omega | (simp; done) | (simp; omega)) _))
  have r0 : W.cell? ⟨w.heap.size, 0, none⟩ = some (.int .i64 0) := by rw [hW]; simp [go_sem]
  have r1 : W.cell? ⟨w.heap.size, 1, none⟩ = some (.int .i64 0) := by rw [hW]; simp [go_sem]
  have f0 : ∀ o, W.frozen? ⟨w.heap.size, o, none⟩ = false := by intro o; rw [hW]; simp [go_sem]
  have z0 : w.heap.size < W.heap.size := by rw [hW]; simp
  rw [← hW]
  have HB0 := Lib.hid B0
  clear hW B0
  go_loopw [11] (fun i wr => ∃ k : Nat, k ≤ n ∧ i = .int .i64 k ∧ (∀ j, j < k → Rt (H j) (L j)) ∧ Below W.heap.size W wr) (fun i _ => n - (intOf i).toNat)
  case atStart => exact ⟨0, Nat.zero_le _, rfl, fun j hj => absurd hj (by omega), Below.refl _ _⟩
  case round =>
    obtain ⟨k, hk, rfl, hR, hB⟩ := hrel
    by_cases hlt : k < n
    · have cb : b < w.heap.size := cell_lt (C.out k hlt).1
      have c0 : wr.cell? ⟨b, off + k * 2, none⟩ = some (.int .i64 (H k)) := by rw [hB.cell (p := ⟨b, off + k * 2, none⟩) (by show b < _; omega), HB0.out.cell (p := ⟨b, off + k * 2, none⟩) cb]; exact (C.out k hlt).1
      have c1 : wr.cell? ⟨b, off + k * 2 + 1, none⟩ = some (.int .i64 (L k)) := by rw [hB.cell (p := ⟨b, off + k * 2 + 1, none⟩) (by show b < _; omega), HB0.out.cell (p := ⟨b, off + k * 2 + 1, none⟩) cb]; exact (C.out k hlt).2
      have HBr := Lib.hid hB
      have HR := Lib.hid hR
      clear hB hR
      by_cases hr : Rt (H k) (L k)
      · have HK := Lib.hid hr
        clear hr
        go_wp2_with fail
        refine (is_yes _ _ _ HK.out).mono ?_
        rintro e w1 ⟨rfl, hb⟩
        have hB1 := HBr.out.trans ((((Below.refl _ _).alloc (Nat.le_refl _) _).trans (hb.mono (by simp))).mono HBr.out.size)
        have HB1 := Lib.hid hB1
        clear hb hB1
        go_wp2_with fail
        go_roundw
        case rel => exact ⟨k + 1, by omega, by go_num, fun j hj => if h : j = k then by rw [h]; exact HK.out else HR.out j (by omega), HB1.out⟩
        case measure => simp [intOf]; omega
      · have HK := Lib.hid hr
        clear hr
        go_wp2_with fail
        refine (is_no _ _ _ HK.out).mono ?_
        rintro e w1 ⟨rfl, hb⟩
        have hB1 := HBr.out.trans ((((Below.refl _ _).alloc (Nat.le_refl _) _).trans (hb.mono (by simp))).mono HBr.out.size)
        have HB1 := Lib.hid hB1
        have t0 : w1.cell? ⟨w.heap.size, 0, none⟩ = some (.int .i64 0) := (hB1.cell (p := ⟨w.heap.size, 0, none⟩) z0).trans r0
        have t1 : w1.cell? ⟨w.heap.size, 1, none⟩ = some (.int .i64 0) := (hB1.cell (p := ⟨w.heap.size, 1, none⟩) z0).trans r1
        have t2 : ∀ o, w1.frozen? ⟨w.heap.size, o, none⟩ = false := fun o => (hB1.frozen (p := ⟨w.heap.size, o, none⟩) z0).trans (f0 o)
        clear hb hB1
        go_wp2_with fail
        exact bodyPost_ret (v := .tuple #[.agg #[.int .i64 0, .int .i64 0], .int .i64 1]) (by simp [results, Tryd.results7, go_sem, t0, t1]) rfl ⟨((HB0.out.trans (HB1.out.mono (by omega))).setCell (Nat.le_refl _) _).setCell (Nat.le_refl _) _, .inl ⟨fun h => HK.out (h k hlt), rfl⟩⟩
    · obtain rfl : n = k := by omega
      have HR := Lib.hid hR
      have z1 : W.heap.size ≤ wr.heap.size := hB.size
      go_wp2_with fail
      have hB2 : Below w.heap.size w (wr.alloc (.cells #[.int .i64 0, .int .i64 0] 24)) := (HB0.out.trans (hB.mono (by omega))).alloc (by omega) _
      have t0 : (wr.alloc (.cells #[.int .i64 0, .int .i64 0] 24)).cell? ⟨w.heap.size, 0, none⟩ = some (.int .i64 0) := by
        rw [World.cell?_alloc_past _ _ _ (by omega)]; exact (hB.cell (p := ⟨w.heap.size, 0, none⟩) z0).trans r0
      have t1 : (wr.alloc (.cells #[.int .i64 0, .int .i64 0] 24)).cell? ⟨w.heap.size, 1, none⟩ = some (.int .i64 0) := by
        rw [World.cell?_alloc_past _ _ _ (by omega)]; exact (hB.cell (p := ⟨w.heap.size, 1, none⟩) z0).trans r1
      have t2 : ∀ o, (wr.alloc (.cells #[.int .i64 0, .int .i64 0] 24)).frozen? ⟨w.heap.size, o, none⟩ = false := fun o => by
        rw [World.frozen?_alloc_past _ _ _ (by omega)]; exact (hB.frozen (p := ⟨w.heap.size, o, none⟩) z0).trans (f0 o)
      have s0 : (wr.alloc (.cells #[.int .i64 0, .int .i64 0] 24)).cell? ⟨wr.heap.size, 0, none⟩ = some (.int .i64 0) := by simp
      have s1 : (wr.alloc (.cells #[.int .i64 0, .int .i64 0] 24)).cell? ⟨wr.heap.size, 1, none⟩ = some (.int .i64 0) := by simp
      have s2 : ∀ o, (wr.alloc (.cells #[.int .i64 0, .int .i64 0] 24)).frozen? ⟨wr.heap.size, o, none⟩ = false := fun o => by simp
      generalize (wr.alloc (.cells #[.int .i64 0, .int .i64 0] 24)) = V at *
      have zG : w.heap.size < wr.heap.size := by omega
      have nG : ¬ w.heap.size = wr.heap.size := by omega
      generalize wr.heap.size = G at *
      clear hB hR z1
      go_loopw [23] (fun i wv => ∃ k : Nat, k ≤ n ∧ i = .int .i64 k ∧ (∀ j, j ≤ k → Rt (sumTo H L j).1 (sumTo H L j).2) ∧ Below w.heap.size w wv ∧
          wv.cell? ⟨w.heap.size, 0, none⟩ = some (.int .i64 0) ∧ wv.cell? ⟨w.heap.size, 1, none⟩ = some (.int .i64 0) ∧ (∀ o, wv.frozen? ⟨w.heap.size, o, none⟩ = false) ∧
          wv.cell? ⟨G, 0, none⟩ = some (.int .i64 (sumTo H L k).1) ∧ wv.cell? ⟨G, 1, none⟩ = some (.int .i64 (sumTo H L k).2) ∧ (∀ o, wv.frozen? ⟨G, o, none⟩ = false)) (fun i _ => n - (intOf i).toNat)
      case atStart => exact ⟨0, Nat.zero_le _, rfl, fun j hj => by rw [Nat.le_zero.1 hj]; exact (by decide : Rt 0 0), hB2, t0, t1, t2, s0, s1, s2⟩
      case round =>
        clear t0 t1 t2 s0 s1 s2 hB2
        obtain ⟨k, hk, rfl, hS, hB, t0, t1, t2, s0, s1, s2⟩ := hrel
        have HS := Lib.hid hS
        have HBv := Lib.hid hB
        have zv : w.heap.size < wr.heap.size := cell_lt t0
        have zg : G < wr.heap.size := cell_lt s0
        by_cases hlt : k < n
        · have cb : b < w.heap.size := cell_lt (C.out k hlt).1
          have c0 : wr.cell? ⟨b, off + k * 2, none⟩ = some (.int .i64 (H k)) := by rw [hB.cell (p := ⟨b, off + k * 2, none⟩) cb]; exact (C.out k hlt).1
          have c1 : wr.cell? ⟨b, off + k * 2 + 1, none⟩ = some (.int .i64 (L k)) := by rw [hB.cell (p := ⟨b, off + k * 2 + 1, none⟩) cb]; exact (C.out k hlt).2
          obtain ⟨a1, a2, a3, a4⟩ := HR.out k hlt
          obtain ⟨q1, q2, q3, q4⟩ := hS k (Nat.le_refl _)
          have E : (((sumTo H L k).2 + L k) / 1000000000000000000 + ((sumTo H L k).1 + H k), ((sumTo H L k).2 + L k) % 1000000000000000000) = sumTo H L (k + 1) := rfl
          generalize (sumTo H L k).1 = X at *
          generalize (sumTo H L k).2 = Y at *
          have HE := Lib.hid E
          clear hS hB E
          go_wp2_with fail
          refine (carry_any _ _ _ (by omega) (by omega) (by omega) (by omega)).mono ?_
          rintro e w1 ⟨rfl, hb⟩
          have hB1 : Below wr.heap.size wr w1 := (((Below.refl _ _).alloc (Nat.le_refl _) _).trans (hb.mono (by simp)))
          have HB1 := Lib.hid hB1
          have y0 : w1.cell? ⟨w.heap.size, 0, none⟩ = some (.int .i64 0) := (hB1.cell (p := ⟨w.heap.size, 0, none⟩) zv).trans t0
          have y1 : w1.cell? ⟨w.heap.size, 1, none⟩ = some (.int .i64 0) := (hB1.cell (p := ⟨w.heap.size, 1, none⟩) zv).trans t1
          have y2 : ∀ o, w1.frozen? ⟨w.heap.size, o, none⟩ = false := fun o => (hB1.frozen (p := ⟨w.heap.size, o, none⟩) zv).trans (t2 o)
          have x0 : w1.cell? ⟨G, 0, none⟩ = some (.int .i64 X) := (hB1.cell (p := ⟨G, 0, none⟩) zg).trans s0
          have x1 : w1.cell? ⟨G, 1, none⟩ = some (.int .i64 Y) := (hB1.cell (p := ⟨G, 1, none⟩) zg).trans s1
          have x2 : ∀ o, w1.frozen? ⟨G, o, none⟩ = false := fun o => (hB1.frozen (p := ⟨G, o, none⟩) zg).trans (s2 o)
          clear hb hB1
          go_wp2_with fail
          have B3 : Below w.heap.size w ((w1.setCell ⟨G, 0, none⟩ (.int .i64 ((Y + L k) / 1000000000000000000 + (X + H k)))).setCell ⟨G, 1, none⟩ (.int .i64 ((Y + L k) % 1000000000000000000))) :=
            ((HBv.out.trans (HB1.out.mono (by omega))).setCell (Nat.le_of_lt zG) _).setCell (Nat.le_of_lt zG) _
          have y0' : ((w1.setCell ⟨G, 0, none⟩ (.int .i64 ((Y + L k) / 1000000000000000000 + (X + H k)))).setCell ⟨G, 1, none⟩ (.int .i64 ((Y + L k) % 1000000000000000000))).cell? ⟨w.heap.size, 0, none⟩ = some (.int .i64 0) := by simp [go_sem, y0]
          have y1' : ((w1.setCell ⟨G, 0, none⟩ (.int .i64 ((Y + L k) / 1000000000000000000 + (X + H k)))).setCell ⟨G, 1, none⟩ (.int .i64 ((Y + L k) % 1000000000000000000))).cell? ⟨w.heap.size, 1, none⟩ = some (.int .i64 0) := by simp [go_sem, y1]
          have y2' : ∀ o, ((w1.setCell ⟨G, 0, none⟩ (.int .i64 ((Y + L k) / 1000000000000000000 + (X + H k)))).setCell ⟨G, 1, none⟩ (.int .i64 ((Y + L k) % 1000000000000000000))).frozen? ⟨w.heap.size, o, none⟩ = false := fun o => by simp [go_sem, y2]
          have x0' : ((w1.setCell ⟨G, 0, none⟩ (.int .i64 ((Y + L k) / 1000000000000000000 + (X + H k)))).setCell ⟨G, 1, none⟩ (.int .i64 ((Y + L k) % 1000000000000000000))).cell? ⟨G, 0, none⟩ = some (.int .i64 ((Y + L k) / 1000000000000000000 + (X + H k))) := by simp [go_sem, x0]
          have x1' : ((w1.setCell ⟨G, 0, none⟩ (.int .i64 ((Y + L k) / 1000000000000000000 + (X + H k)))).setCell ⟨G, 1, none⟩ (.int .i64 ((Y + L k) % 1000000000000000000))).cell? ⟨G, 1, none⟩ = some (.int .i64 ((Y + L k) % 1000000000000000000)) := by simp [go_sem, x1]
          have x2' : ∀ o, ((w1.setCell ⟨G, 0, none⟩ (.int .i64 ((Y + L k) / 1000000000000000000 + (X + H k)))).setCell ⟨G, 1, none⟩ (.int .i64 ((Y + L k) % 1000000000000000000))).frozen? ⟨G, o, none⟩ = false := fun o => by simp [go_sem, x2]
          generalize ((w1.setCell ⟨G, 0, none⟩ (.int .i64 ((Y + L k) / 1000000000000000000 + (X + H k)))).setCell ⟨G, 1, none⟩ (.int .i64 ((Y + L k) % 1000000000000000000))) = U at *
          clear y0 y1 y2 x0 x1 x2 t0 t1 t2 s0 s1 s2
          have zv' : w.heap.size < U.heap.size := cell_lt y0'
          have zg' : G < U.heap.size := cell_lt x0'
          by_cases hr : Rt ((Y + L k) / 1000000000000000000 + (X + H k)) ((Y + L k) % 1000000000000000000)
          · have HK := Lib.hid hr
            have HB3 := Lib.hid B3
            clear hr B3
            refine (is_yes _ _ _ HK.out).mono ?_
            rintro e w2 ⟨rfl, hb⟩
            have t0 : w2.cell? ⟨w.heap.size, 0, none⟩ = some (.int .i64 0) := (hb.cell (p := ⟨w.heap.size, 0, none⟩) zv').trans y0'
            have t1 : w2.cell? ⟨w.heap.size, 1, none⟩ = some (.int .i64 0) := (hb.cell (p := ⟨w.heap.size, 1, none⟩) zv').trans y1'
            have t2 : ∀ o, w2.frozen? ⟨w.heap.size, o, none⟩ = false := fun o => (hb.frozen (p := ⟨w.heap.size, o, none⟩) zv').trans (y2' o)
            have s0 := (hb.cell (p := ⟨G, 0, none⟩) zg').trans x0'
            have s1 := (hb.cell (p := ⟨G, 1, none⟩) zg').trans x1'
            have s2 : ∀ o, w2.frozen? ⟨G, o, none⟩ = false := fun o => (hb.frozen (p := ⟨G, o, none⟩) zg').trans (x2' o)
            have HB4 := Lib.hid (HB3.out.trans (hb.mono (by omega)))
            clear hb y0' y1' y2' x0' x1' x2'
            have S0 := Lib.hid s0
            have S1 := Lib.hid s1
            have S2 := Lib.hid s2
            have T0 := Lib.hid t0
            have T1 := Lib.hid t1
            have T2 := Lib.hid t2
            clear s0 s1 s2 t0 t1 t2
            go_wp2_with fail
            go_roundw
            case rel => exact ⟨k + 1, by omega, by go_num, fun j hj => if h : j = k + 1 then by rw [h, ← HE.out]; exact HK.out else HS.out j (by omega), HB4.out, T0.out, T1.out, T2.out, by rw [← HE.out]; exact S0.out, by rw [← HE.out]; exact S1.out, S2.out⟩
            case measure => simp [intOf]; omega
          · have HK := Lib.hid hr
            have HB3 := Lib.hid B3
            clear hr B3
            refine (is_no _ _ _ HK.out).mono ?_
            rintro e w2 ⟨rfl, hb⟩
            have t0 : w2.cell? ⟨w.heap.size, 0, none⟩ = some (.int .i64 0) := (hb.cell (p := ⟨w.heap.size, 0, none⟩) zv').trans y0'
            have t1 : w2.cell? ⟨w.heap.size, 1, none⟩ = some (.int .i64 0) := (hb.cell (p := ⟨w.heap.size, 1, none⟩) zv').trans y1'
            have t2 : ∀ o, w2.frozen? ⟨w.heap.size, o, none⟩ = false := fun o => (hb.frozen (p := ⟨w.heap.size, o, none⟩) zv').trans (y2' o)
            have HB4 := Lib.hid (HB3.out.trans (hb.mono (by omega)))
            clear hb y0' y1' y2' x0' x1' x2'
            go_wp2_with fail
            exact bodyPost_ret (v := .tuple #[.agg #[.int .i64 0, .int .i64 0], .int .i64 4]) (by simp [results, Tryd.results7, go_sem, t0, t1]) rfl ⟨(HB4.out.setCell (Nat.le_refl _) _).setCell (Nat.le_refl _) _, .inr (.inl ⟨HR.out, fun h => HK.out (by have := h (k + 1) (by omega); rw [← HE.out] at this; exact this), rfl⟩)⟩
        · obtain rfl : n = k := by omega
          go_wp2_with fail
          exact bodyPost_ret (v := .tuple #[.agg #[.int .i64 (sumTo H L n).1, .int .i64 (sumTo H L n).2], .int .i64 0]) (by simp [results, Tryd.results7, go_sem, t0, t1]) rfl ⟨(HBv.out.setCell (Nat.le_refl _) _).setCell (Nat.le_refl _) _, .inr (.inr ⟨HR.out, HS.out, rfl⟩)⟩
end Go.Proofs.YtjndajndllimhaaDoor
