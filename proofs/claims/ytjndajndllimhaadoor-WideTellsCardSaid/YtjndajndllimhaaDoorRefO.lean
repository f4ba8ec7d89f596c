/-
  The reference's Number.
-/
import Derived.Test.YtjndajndllimhaaDoorRefL
import Derived.Test.YtjndajndllimhaaDoorRefN
namespace Go.Proofs.YtjndajndllimhaaDoor
open Go.RowKit
open Go.BigFrame

theorem p41 : p10 41 = 100000000000000000000000000000000000000000 := rfl
theorem small_of {N : Int} (h : N.natAbs ≤ 10000000000000000000000000000000000000000) : Small N := by
  unfold Small
  have e := p10_add 41 59
  have p := p10_pos 59
  have : p10 41 * 1 ≤ p10 41 * p10 59 := Int.mul_le_mul_of_nonneg_left p (by have := p10_pos 41; omega)
  rw [p41] at this e
  have e' : p10 100 = 100000000000000000000000000000000000000000 * p10 59 := e
  omega
/-- No int lies in the block. -/
def NoInt (W : World) (g : Nat) : Prop := ∀ k x, W.cell? ⟨g, k, none⟩ ≠ some (.int .i64 x)
theorem RowF.setN {W : World} {a : Option Addr} {n c : Nat} {D : Nat → Int} (h : RowF W a n c D) {g : Nat} (hg : NoInt W g) (o : Nat) (v : Value) : RowF (W.setCell ⟨g, o, none⟩ v) a n c D := by
  rcases h with h | ⟨b, off, ha, hl, hc, h⟩
  · exact .inl h
  · refine .inr ⟨b, off, ha, Nat.lt_of_lt_of_le hl ((Below.refl 0 W).setCell (p := ⟨g, o, none⟩) (Nat.zero_le _) v).size, hc, fun i hi => ?_⟩
    exact cell_other (h i hi) (fun e => hg (off + i) (D i) (by have := h i hi; rw [show b = g from e] at this; exact this))
theorem NoInt.keep {W W' : World} {g : Nat} (h : NoInt W g) (hb : Below W.heap.size W W') (hg : g < W.heap.size) : NoInt W' g := fun k x e => h k x ((hb.cell (p := ⟨g, k, none⟩) hg).symm.trans e)
theorem NoInt.set {W : World} {g : Nat} (h : NoInt W g) {o : Nat} {v : Value} (hv : ∀ x, v ≠ .int .i64 x) (he : Has W ⟨g, o, none⟩) : NoInt (W.setCell ⟨g, o, none⟩ v) g := fun k x e => by
  obtain ⟨u, hu⟩ := he
  by_cases hk : k = o
  · subst hk
    simp [go_sem, hu] at e
    exact hv x e
  · have := h k x
    simp [go_sem] at e
    exact this e
theorem NoInt.alloc {W : World} {x y : Value} {T : TypeId} {g : Nat} (hg : g = W.heap.size) (hx : ∀ v, x ≠ .int .i64 v) (hy : ∀ v, y ≠ .int .i64 v) : NoInt (W.alloc (.cells #[x, y] T)) g := fun k v e => by
  subst hg
  match k with
  | 0 => simp at e; exact hx v e
  | 1 => simp at e; exact hy v e
  | k + 2 => simp at e
theorem NumV.setN {W : World} {v : Value} {N : Int} (h : NumV W v N) {g : Nat} (hg : NoInt W g) (o : Nat) (u : Value) : NumV (W.setCell ⟨g, o, none⟩ u) v N := by
  obtain ⟨a, n, c, D, h1, h2, h3⟩ := h
  exact ⟨a, n, c, D, h1, h2.setN hg o u, h3⟩
theorem keep_num {w W W' : World} {p q : Addr} {g : Nat} {u v : Value} (hb : Below W.heap.size W W') (h : Below w.heap.size w W) (h0 : W.cell? p = some u) (h1 : W.cell? q = some v) (h4 : Has W ⟨g, 0, none⟩) (h5 : Has W ⟨g, 1, none⟩) (h6 : W.frozen? ⟨g, 0, none⟩ = false) (h7 : W.frozen? ⟨g, 1, none⟩ = false) (h8 : NoInt W g) :
    Below w.heap.size w W' ∧ W'.cell? p = some u ∧ W'.cell? q = some v ∧ Has W' ⟨g, 0, none⟩ ∧ Has W' ⟨g, 1, none⟩ ∧ W'.frozen? ⟨g, 0, none⟩ = false ∧ W'.frozen? ⟨g, 1, none⟩ = false ∧ NoInt W' g := by
  obtain ⟨k1, k2, k3, k4, k5, k6, k7⟩ := keep_wide hb h h0 h1 h4 h5 h6 h7
  exact ⟨k1, k2, k3, k4, k5, k6, k7, h8.keep hb (cell_lt h4.choose_spec)⟩
theorem set_num {w W : World} {a b g : Nat} {u v x y : Value} (hg : w.heap.size ≤ g) (ha : a ≠ g) (h : Below w.heap.size w W) (h0 : W.cell? ⟨a, 0, none⟩ = some u) (h1 : W.cell? ⟨a, b, none⟩ = some v) (h4 : Has W ⟨g, 0, none⟩) (h5 : Has W ⟨g, 1, none⟩) (h6 : W.frozen? ⟨g, 0, none⟩ = false) (h7 : W.frozen? ⟨g, 1, none⟩ = false) (h8 : NoInt W g) (hx : ∀ z, x ≠ .int .i64 z) (hy : ∀ z, y ≠ .int .i64 z) (W' : World) (hW : W' = (W.setCell ⟨g, 0, none⟩ x).setCell ⟨g, 1, none⟩ y) :
    Below w.heap.size w W' ∧ W'.cell? ⟨a, 0, none⟩ = some u ∧ W'.cell? ⟨a, b, none⟩ = some v ∧ Has W' ⟨g, 0, none⟩ ∧ Has W' ⟨g, 1, none⟩ ∧ W'.frozen? ⟨g, 0, none⟩ = false ∧ W'.frozen? ⟨g, 1, none⟩ = false ∧ NoInt W' g := by
  obtain ⟨k1, k2, k3, k4, k5, k6, k7⟩ := set_wide hg ha h h0 h1 h4 h5 h6 h7 W' hW
  refine ⟨k1, k2, k3, k4, k5, k6, k7, ?_⟩
  subst hW
  refine (h8.set hx h4).set hy ?_
  obtain ⟨t0, h4⟩ := h4
  obtain ⟨t1, h5⟩ := h5
  exact ⟨t1, by simp [go_sem, h5]⟩
theorem num_open {w : World} {v : Value} {N : Int} (h : NumV w v N) : ∃ s a n c, v = .agg #[.bool s, .slice a n c] := by
  obtain ⟨a, n, c, D, h1, _⟩ := h
  exact ⟨_, _, _, _, h1⟩

set_option maxRecDepth 100000 in
set_option maxHeartbeats 1000000 in
theorem number_any (hi lo : Int) (w : World) (h : Rt hi lo) : Calls Tryd.prog 32 #[.agg #[.int .i64 hi, .int .i64 lo]] w (RetNum (hi * 1000000000000000000 + lo) w) := by
  obtain ⟨r1, r2, r3, r4⟩ := h
  have s1 : Small hi := small_of (by omega)
  have s2 : Small 1000000000000000000 := small_of (by omega)
  have s3 : Small lo := small_of (by omega)
  have s4 : Small (hi * 1000000000000000000) := small_of (by omega)
  have C1 := Lib.hid (fun W => ofInt_any hi W (by omega) (by omega))
  have C2 := Lib.hid (fun W => ofInt_any 1000000000000000000 W (by omega) (by omega))
  have C3 := Lib.hid (fun W => ofInt_any lo W (by omega) (by omega))
  go_enter Tryd.func32, Tryd.ntmps32
  have B0 : Below w.heap.size w ((w.alloc (.cells #[.int .i64 hi, .int .i64 lo] 24)).alloc (.cells #[.bool false, .slice none 0 0] 51)) := by (repeat (first | exact Below.refl _ _ | assumption | refine Below.drew ?_ | refine below_drewN ?_ _ | refine Below.setCell ?_ (by first | omega | (simp; done) | (simp; omega)) _ | refine Below.alloc ?_ (by first | omega | (simp; done) | (simp; omega)) _))
  have x0 : ((w.alloc (.cells #[.int .i64 hi, .int .i64 lo] 24)).alloc (.cells #[.bool false, .slice none 0 0] 51)).cell? ⟨w.heap.size, 0, none⟩ = some (.int .i64 hi) := keepa (alloc_cell rfl rfl)
  have x1 : ((w.alloc (.cells #[.int .i64 hi, .int .i64 lo] 24)).alloc (.cells #[.bool false, .slice none 0 0] 51)).cell? ⟨w.heap.size, 1, none⟩ = some (.int .i64 lo) := keepa (alloc_cell rfl rfl)
  have z0 : ((w.alloc (.cells #[.int .i64 hi, .int .i64 lo] 24)).alloc (.cells #[.bool false, .slice none 0 0] 51)).cell? ⟨w.heap.size + 1, 0, none⟩ = some (.bool false) := alloc_cell (by simp) rfl
  have z1 : ((w.alloc (.cells #[.int .i64 hi, .int .i64 lo] 24)).alloc (.cells #[.bool false, .slice none 0 0] 51)).cell? ⟨w.heap.size + 1, 1, none⟩ = some (.slice none 0 0) := alloc_cell (by simp) rfl
  have fr : ∀ o, ((w.alloc (.cells #[.int .i64 hi, .int .i64 lo] 24)).alloc (.cells #[.bool false, .slice none 0 0] 51)).frozen? ⟨w.heap.size + 1, o, none⟩ = false := fun o => alloc_frozen (by simp)
  have ni : NoInt ((w.alloc (.cells #[.int .i64 hi, .int .i64 lo] 24)).alloc (.cells #[.bool false, .slice none 0 0] 51)) (w.heap.size + 1) := NoInt.alloc (by simp) (fun _ e => by cases e) (fun _ e => by cases e)
  go_upto_region 1 with fail
  generalize ((w.alloc (.cells #[.int .i64 hi, .int .i64 lo] 24)).alloc (.cells #[.bool false, .slice none 0 0] 51)) = V at *
  go_region_held3 (fun W => Below w.heap.size w W ∧ W.cell? ⟨w.heap.size, 0, none⟩ = some (.int .i64 hi) ∧ W.cell? ⟨w.heap.size, 1, none⟩ = some (.int .i64 lo) ∧ Has W ⟨w.heap.size + 1, 0, none⟩ ∧ Has W ⟨w.heap.size + 1, 1, none⟩ ∧ W.frozen? ⟨w.heap.size + 1, 0, none⟩ = false ∧ W.frozen? ⟨w.heap.size + 1, 1, none⟩ = false ∧ NoInt W (w.heap.size + 1))
    (first | exact ⟨B0.drew, x0, x1, ⟨_, z0⟩, ⟨_, z1⟩, fr 0, fr 1, ni⟩ | (go_split_ands; exact keep_num hb (by assumption) (by assumption) (by assumption) (by assumption) (by assumption) (by assumption) (by assumption) (by assumption)) | (go_split_ands; exact set_num (by omega) (by omega) h8B h80 h81 ⟨_, k0⟩ ⟨_, k1⟩ h86 h87 h88 (fun _ e => by cases e) (fun _ e => by cases e) _ rfl))
    (first
      | (go_at_call 30; (with_reducible refine (C1.out _).mono ?_); rintro e w5 ⟨hb, v5, rfl, q5⟩)
      | (go_at_call 30; (with_reducible refine (C2.out _).mono ?_); rintro e w6 ⟨hb, v6, rfl, q6⟩; replace q5 := q5.keep hb)
      | (go_at_call 30; (with_reducible refine (C3.out _).mono ?_); rintro e w9 ⟨hb, v9, rfl, q9⟩; replace q7 := q7.keep hb)
      | (go_at_call 29; refine (times_num q5 q6 s1 s2).mono ?_; rintro e w7 ⟨hb, v7, rfl, q7⟩)
      | (go_at_call 31; refine (sum_any q7 q9 s4 s3).mono ?_; rintro e w11 ⟨hb, v11, rfl, q11⟩; obtain ⟨s11, a11, n11, c11, rfl⟩ := num_open q11; obtain ⟨h8B, h80, h81, h84, h85, h86, h87, h88⟩ := (by go_split_ands; exact keep_num (w := w) (p := ⟨w.heap.size, 0, none⟩) (q := ⟨w.heap.size, 1, none⟩) (g := w.heap.size + 1) hb (by assumption) (by assumption) (by assumption) (by assumption) (by assumption) (by assumption) (by assumption) (by assumption) : _ ∧ _ ∧ _ ∧ _ ∧ _ ∧ _ ∧ _ ∧ _); obtain ⟨t0, k0⟩ := h84; obtain ⟨t1, k1⟩ := h85))
  go_wp2
  have ni1 : NoInt (w11.setCell ⟨w.heap.size + 1, 0, none⟩ (.bool s11)) (w.heap.size + 1) := h88.set (fun _ e => by cases e) ⟨_, k0⟩
  exact bodyPost_ret (v := .agg #[.bool s11, .slice a11 n11 c11]) (by simp [results, Tryd.results32, go_sem, k0, k1]) rfl ⟨by (repeat (first | exact Below.refl _ _ | assumption | refine Below.drew ?_ | refine below_drewN ?_ _ | refine Below.setCell ?_ (by first | omega | (simp; done) | (simp; omega)) _ | refine Below.alloc ?_ (by first | omega | (simp; done) | (simp; omega)) _)), _, rfl, (q11.setN h88 0 _).setN ni1 1 _⟩
end Go.Proofs.YtjndajndllimhaaDoor
