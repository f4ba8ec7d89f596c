/-
  The reference's numbers: Sum, Other, Less.
-/
import Derived.Test.YtehfmapbodjppaaDoorRefE
import Derived.Deep.RegionHeld3
namespace Go.Proofs.YtehfmapbodjppaaDoor
open Go.RowKit
open Go.BigFrame

theorem NumV.sg {s : Bool} {N : Int} {D : Nat → Int} {n : Nat} (h : vs D 0 n = N.natAbs) (hs : s = decide (N < 0)) : N = if s then -(vs D 0 n) else vs D 0 n := by
  subst hs
  by_cases h0 : N < 0
  · rw [if_pos (decide_eq_true h0)]; omega
  · rw [if_neg (by simp [h0])]; omega
/-- How many digits. -/
theorem num_len {D : Nat → Int} {n k : Nat} (hd : Dg D n) (ht : n = 0 ∨ D (n - 1) ≠ 0) (h : vs D 0 n < p10 k) : n ≤ k := by
  rcases ht with h0 | h0
  · omega
  · rcases Nat.lt_or_ge k n with q | q
    · obtain ⟨j, rfl⟩ : ∃ j, n = j + 1 := ⟨n - 1, by omega⟩
      have e := vs_snoc D j 0
      rw [Nat.zero_add] at e
      have b := vs_bd hd j 0 (by omega)
      have d := hd j (by omega)
      have h0' : D j ≠ 0 := h0
      have p := p10_pos j
      have : p10 j * 1 ≤ p10 j * D j := Int.mul_le_mul_of_nonneg_left (by omega) (by omega)
      obtain ⟨l, rfl⟩ : ∃ l, j = k + l := ⟨j - k, by omega⟩
      have g : ∀ l, p10 k ≤ p10 (k + l) := by
        intro l
        induction l with
        | zero => exact Int.le_refl _
        | succ l ih => have p := p10_pos (k + l); show p10 k ≤ 10 * p10 (k + l); omega
      have := g l
      omega
    · exact q

/-- The world in which Sum's own blocks are laid. -/
def sumW (w : World) (x y : Array Value) : World := ((w.alloc (.cells x 50)).alloc (.cells y 50)).alloc (.cells #[.bool false, .slice none 0 0] 50)
structure SumW (w : World) (s : Bool) (a : Option Addr) (n c : Nat) (t : Bool) (b : Option Addr) (m d : Nat) (V : World) : Prop where
  bel : Below w.heap.size w V
  big : w.heap.size + 1 + 1 < V.heap.size
  x0 : V.cell? ⟨w.heap.size, 0, none⟩ = some (.bool s)
  x1 : V.cell? ⟨w.heap.size, 1, none⟩ = some (.slice a n c)
  y0 : V.cell? ⟨w.heap.size + 1, 0, none⟩ = some (.bool t)
  y1 : V.cell? ⟨w.heap.size + 1, 1, none⟩ = some (.slice b m d)
  z0 : V.cell? ⟨w.heap.size + 1 + 1, 0, none⟩ = some (.bool false)
  z1 : V.cell? ⟨w.heap.size + 1 + 1, 1, none⟩ = some (.slice none 0 0)
  fr : ∀ o, V.frozen? ⟨w.heap.size + 1 + 1, o, none⟩ = false
theorem sumW_is (w : World) (s : Bool) (a : Option Addr) (n c : Nat) (t : Bool) (b : Option Addr) (m d : Nat) : SumW w s a n c t b m d (sumW w #[.bool s, .slice a n c] #[.bool t, .slice b m d]) where
  bel := by unfold sumW; (repeat (first | exact Below.refl _ _ | assumption | refine Below.drew ?_ | refine below_drewN ?_ _ | refine Below.setCell ?_ (by first | omega | (simp; done) | (simp; omega)) _ | refine Below.alloc ?_ (by first | omega | (simp; done) | (simp; omega)) _))
  big := by unfold sumW; simp
  x0 := keepa (keepa (alloc_cell rfl rfl))
  x1 := keepa (keepa (alloc_cell rfl rfl))
  y0 := keepa (alloc_cell (by simp) rfl)
  y1 := keepa (alloc_cell (by simp) rfl)
  z0 := alloc_cell (by simp) rfl
  z1 := alloc_cell (by simp) rfl
  fr := fun _ => alloc_frozen (by simp)
theorem SumW.keep {w : World} {s : Bool} {a : Option Addr} {n c : Nat} {t : Bool} {b : Option Addr} {m d : Nat} {V V' : World} (h : SumW w s a n c t b m d V) (hb : Below V.heap.size V V') : SumW w s a n c t b m d V' :=
  have hs : w.heap.size ≤ V.heap.size := h.bel.size
  ⟨h.bel.trans (hb.mono hs), Nat.lt_of_lt_of_le h.big hb.size, keepc hb h.x0, keepc hb h.x1, keepc hb h.y0, keepc hb h.y1, keepc hb h.z0, keepc hb h.z1, fun o => (hb.frozen (p := ⟨w.heap.size + 1 + 1, o, none⟩) h.big).trans (h.fr o)⟩

def Has (W : World) (p : Addr) : Prop := ∃ v, W.cell? p = some v
theorem has_keep {W W' : World} {p : Addr} (hb : Below W.heap.size W W') (h : Has W p) : Has W' p := ⟨_, keepc hb h.choose_spec⟩
theorem keep_sum {w W W' : World} {p0 p1 q0 q1 : Addr} {g : Nat} {v0 v1 u0 u1 : Value} (hb : Below W.heap.size W W') (h : Below w.heap.size w W) (h0 : W.cell? p0 = some v0) (h1 : W.cell? p1 = some v1) (h2 : W.cell? q0 = some u0) (h3 : W.cell? q1 = some u1) (h4 : Has W ⟨g, 0, none⟩) (h5 : Has W ⟨g, 1, none⟩) (h6 : W.frozen? ⟨g, 0, none⟩ = false) (h7 : W.frozen? ⟨g, 1, none⟩ = false) :
    Below w.heap.size w W' ∧ W'.cell? p0 = some v0 ∧ W'.cell? p1 = some v1 ∧ W'.cell? q0 = some u0 ∧ W'.cell? q1 = some u1 ∧ Has W' ⟨g, 0, none⟩ ∧ Has W' ⟨g, 1, none⟩ ∧ W'.frozen? ⟨g, 0, none⟩ = false ∧ W'.frozen? ⟨g, 1, none⟩ = false :=
  have hl : g < W.heap.size := cell_lt h4.choose_spec
  ⟨h.trans (hb.mono h.size), keepc hb h0, keepc hb h1, keepc hb h2, keepc hb h3, ⟨_, keepc hb h4.choose_spec⟩, ⟨_, keepc hb h5.choose_spec⟩, (hb.frozen (p := ⟨g, 0, none⟩) hl).trans h6, (hb.frozen (p := ⟨g, 1, none⟩) hl).trans h7⟩
theorem cell_other {W : World} {p q : Addr} {v u : Value} (h : W.cell? q = some u) (hne : q.block ≠ p.block) : (W.setCell p v).cell? q = some u :=
  (World.cell?_of_block (w := W) (w' := W.setCell p v) (a := q) (Below.heap_setCell W p v q.block hne)).trans h
theorem BelowW {w W V : World} (h : Below w.heap.size w W) (hb : Below W.heap.size W V) : Below w.heap.size w V := h.trans (hb.mono h.size)
theorem set_sum {w W : World} {v0 v1 u0 u1 x y : Value} (h : Below w.heap.size w W) (h0 : W.cell? ⟨w.heap.size, 0, none⟩ = some v0) (h1 : W.cell? ⟨w.heap.size, 1, none⟩ = some v1) (h2 : W.cell? ⟨w.heap.size + 1, 0, none⟩ = some u0) (h3 : W.cell? ⟨w.heap.size + 1, 1, none⟩ = some u1) (h4 : Has W ⟨w.heap.size + 1 + 1, 0, none⟩) (h5 : Has W ⟨w.heap.size + 1 + 1, 1, none⟩) (h6 : W.frozen? ⟨w.heap.size + 1 + 1, 0, none⟩ = false) (h7 : W.frozen? ⟨w.heap.size + 1 + 1, 1, none⟩ = false) (W' : World) (hW : W' = (W.setCell ⟨w.heap.size + 1 + 1, 0, none⟩ x).setCell ⟨w.heap.size + 1 + 1, 1, none⟩ y) :
    Below w.heap.size w W' ∧ W'.cell? ⟨w.heap.size, 0, none⟩ = some v0 ∧ W'.cell? ⟨w.heap.size, 1, none⟩ = some v1 ∧ W'.cell? ⟨w.heap.size + 1, 0, none⟩ = some u0 ∧ W'.cell? ⟨w.heap.size + 1, 1, none⟩ = some u1 ∧ Has W' ⟨w.heap.size + 1 + 1, 0, none⟩ ∧ Has W' ⟨w.heap.size + 1 + 1, 1, none⟩ ∧ W'.frozen? ⟨w.heap.size + 1 + 1, 0, none⟩ = false ∧ W'.frozen? ⟨w.heap.size + 1 + 1, 1, none⟩ = false := by
  subst hW
  obtain ⟨a4, h4⟩ := h4
  obtain ⟨a5, h5⟩ := h5
  refine ⟨(h.setCell (p := ⟨w.heap.size + 1 + 1, 0, none⟩) (show w.heap.size ≤ w.heap.size + 1 + 1 by omega) x).setCell (p := ⟨w.heap.size + 1 + 1, 1, none⟩) (show w.heap.size ≤ w.heap.size + 1 + 1 by omega) y, cell_other (cell_other h0 ?_) ?_, cell_other (cell_other h1 ?_) ?_, cell_other (cell_other h2 ?_) ?_, cell_other (cell_other h3 ?_) ?_, ⟨x, ?_⟩, ⟨y, ?_⟩, ?_, ?_⟩
  all_goals (first | (simp; done) | (simp [h6, h7]; done) | (simp [go_sem, h4, h5]; done) | (simp; omega) | exact Nat.ne_of_lt (by simp; omega) | trace_state)

theorem sum_end {w w7 w8 : World} {a7 : Option Addr} {n7 c7 : Nat} {D7 : Nat → Int} {X : Int} (s : Bool) (x y : Value) (hB : Below w.heap.size w w8) (hrow : RowF w7 a7 n7 c7 D7) (hb : Below w7.heap.size w7 w8) (hc : c7 ≤ 9223372036854775807) (hd : Dg D7 n7) (hv : vs D7 0 n7 = X) (hbl : ∀ b off, a7 = some ⟨b, off, none⟩ → w.heap.size + 1 + 1 < b) :
    Below w.heap.size w ((w8.setCell ⟨w.heap.size + 1 + 1, 0, none⟩ x).setCell ⟨w.heap.size + 1 + 1, 1, none⟩ y) ∧ NumV ((w8.setCell ⟨w.heap.size + 1 + 1, 0, none⟩ x).setCell ⟨w.heap.size + 1 + 1, 1, none⟩ y) (.agg #[.bool (s && decide (0 < tl D7 n7)), .slice a7 (tl D7 n7) c7]) (if s then -X else X) := by
  subst hv
  exact ⟨(hB.setCell (p := ⟨w.heap.size + 1 + 1, 0, none⟩) (show w.heap.size ≤ w.heap.size + 1 + 1 by omega) x).setCell (p := ⟨w.heap.size + 1 + 1, 1, none⟩) (show w.heap.size ≤ w.heap.size + 1 + 1 by omega) y,
    num_of_trim (((hrow.keep hb).set (p := ⟨w.heap.size + 1 + 1, 0, none⟩) (fun b off e => Nat.ne_of_gt (hbl b off e)) x).set (p := ⟨w.heap.size + 1 + 1, 1, none⟩) (fun b off e => Nat.ne_of_gt (hbl b off e)) y) hc hd⟩
set_option maxRecDepth 100000 in
set_option maxHeartbeats 1000000 in
theorem sum_same (s : Bool) (a b : Option Addr) (n m c d₁ : Nat) (D E : Nat → Int) (w : World) (ra : RowF w a n c D) (rb : RowF w b m d₁ E) (hn : n ≤ 1000000) (hm : m ≤ 1000000) (da : Dg D n) (db : Dg E m) :
    Calls Tryd.prog 24 #[.agg #[.bool s, .slice a n c], .agg #[.bool s, .slice b m d₁]] w (RetNum (if s then -(vs D 0 n + vs E 0 m) else vs D 0 n + vs E 0 m) w) := by
  have HV := sumW_is w s a n c s b m d₁
  cases s
  · go_enter Tryd.func24, Tryd.ntmps24
    go_wp2_with fail
    rw [← sumW] at *
    generalize sumW w _ _ = V at *
    have RA := Lib.hid (ra.keep HV.bel)
    have RB := Lib.hid (rb.keep HV.bel)
    have HH := Lib.hid HV
    obtain ⟨BV, hbig, x0, x1, y0, y1, z0, z1, fr⟩ := HV
    go_region_held3 (fun W => Below w.heap.size w W ∧ W.cell? ⟨w.heap.size, 0, none⟩ = some (.bool false) ∧ W.cell? ⟨w.heap.size, 1, none⟩ = some (.slice a n c) ∧ W.cell? ⟨w.heap.size + 1, 0, none⟩ = some (.bool false) ∧ W.cell? ⟨w.heap.size + 1, 1, none⟩ = some (.slice b m d₁) ∧ Has W ⟨w.heap.size + 1 + 1, 0, none⟩ ∧ Has W ⟨w.heap.size + 1 + 1, 1, none⟩ ∧ W.frozen? ⟨w.heap.size + 1 + 1, 0, none⟩ = false ∧ W.frozen? ⟨w.heap.size + 1 + 1, 1, none⟩ = false)
      (first | exact ⟨BV.drew, x0, x1, y0, y1, ⟨_, z0⟩, ⟨_, z1⟩, fr 0, fr 1⟩ | (go_split_ands; exact keep_sum hb (by assumption) (by assumption) (by assumption) (by assumption) (by assumption) (by assumption) (by assumption) (by assumption) (by assumption)) | (go_split_ands; exact set_sum h8B h80 h81 h82 h83 ⟨_, k0⟩ ⟨_, k1⟩ h86 h87 _ rfl))
      (first
        | (go_at_call 35; refine (plus_any _ _ a b n m c d₁ D E _ ?_ ?_ hn hm da db).mono ?_; (go_split_ands; exact ra.keep (by assumption)); (go_split_ands; exact rb.keep (by assumption)); rintro e w7 ⟨hb, a7, n7, c7, D7, rfl, hrow, hc7, hd7, hv7, hbl⟩)
        | (go_at_call 34; refine (trim_any _ _ _ _ _ _ hrow hc7).mono ?_; rintro e w8 ⟨rfl, hb⟩; obtain ⟨h8B, h80, h81, h82, h83, h84, h85, h86, h87⟩ := (by go_split_ands; exact keep_sum (w := w) (p0 := ⟨w.heap.size, 0, none⟩) (p1 := ⟨w.heap.size, 1, none⟩) (q0 := ⟨w.heap.size + 1, 0, none⟩) (q1 := ⟨w.heap.size + 1, 1, none⟩) (g := w.heap.size + 1 + 1) hb (by assumption) (by assumption) (by assumption) (by assumption) (by assumption) (by assumption) (by assumption) (by assumption) (by assumption) : _ ∧ _ ∧ _ ∧ _ ∧ _ ∧ _ ∧ _ ∧ _ ∧ _); obtain ⟨t0, k0⟩ := h84; obtain ⟨t1, k1⟩ := h85))
    have Z := sum_end false (.bool false) (.slice a7 (tl D7 n7) c7) h8B hrow hb hc7 hd7 hv7 (fun b off e => Nat.lt_of_lt_of_le hbig (hbl b off e))
    go_wp2
    exact bodyPost_ret (v := .agg #[.bool false, .slice a7 (tl D7 n7) c7]) (by simp [results, Tryd.results24, go_sem, k0, k1]) rfl ⟨Z.1, _, rfl, by simpa using Z.2⟩
  · go_enter Tryd.func24, Tryd.ntmps24
    go_wp2_with fail
    rw [← sumW] at *
    generalize sumW w _ _ = V at *
    have RA := Lib.hid (ra.keep HV.bel)
    have RB := Lib.hid (rb.keep HV.bel)
    have HH := Lib.hid HV
    obtain ⟨BV, hbig, x0, x1, y0, y1, z0, z1, fr⟩ := HV
    go_region_held3 (fun W => Below w.heap.size w W ∧ W.cell? ⟨w.heap.size, 0, none⟩ = some (.bool true) ∧ W.cell? ⟨w.heap.size, 1, none⟩ = some (.slice a n c) ∧ W.cell? ⟨w.heap.size + 1, 0, none⟩ = some (.bool true) ∧ W.cell? ⟨w.heap.size + 1, 1, none⟩ = some (.slice b m d₁) ∧ Has W ⟨w.heap.size + 1 + 1, 0, none⟩ ∧ Has W ⟨w.heap.size + 1 + 1, 1, none⟩ ∧ W.frozen? ⟨w.heap.size + 1 + 1, 0, none⟩ = false ∧ W.frozen? ⟨w.heap.size + 1 + 1, 1, none⟩ = false)
      (first | exact ⟨BV.drew, x0, x1, y0, y1, ⟨_, z0⟩, ⟨_, z1⟩, fr 0, fr 1⟩ | (go_split_ands; exact keep_sum hb (by assumption) (by assumption) (by assumption) (by assumption) (by assumption) (by assumption) (by assumption) (by assumption) (by assumption)) | (go_split_ands; exact set_sum h8B h80 h81 h82 h83 ⟨_, k0⟩ ⟨_, k1⟩ h86 h87 _ rfl))
      (first
        | (go_at_call 35; refine (plus_any _ _ a b n m c d₁ D E _ ?_ ?_ hn hm da db).mono ?_; (go_split_ands; exact ra.keep (by assumption)); (go_split_ands; exact rb.keep (by assumption)); rintro e w7 ⟨hb, a7, n7, c7, D7, rfl, hrow, hc7, hd7, hv7, hbl⟩)
        | (go_at_call 34; refine (trim_any _ _ _ _ _ _ hrow hc7).mono ?_; rintro e w8 ⟨rfl, hb⟩; obtain ⟨h8B, h80, h81, h82, h83, h84, h85, h86, h87⟩ := (by go_split_ands; exact keep_sum (w := w) (p0 := ⟨w.heap.size, 0, none⟩) (p1 := ⟨w.heap.size, 1, none⟩) (q0 := ⟨w.heap.size + 1, 0, none⟩) (q1 := ⟨w.heap.size + 1, 1, none⟩) (g := w.heap.size + 1 + 1) hb (by assumption) (by assumption) (by assumption) (by assumption) (by assumption) (by assumption) (by assumption) (by assumption) (by assumption) : _ ∧ _ ∧ _ ∧ _ ∧ _ ∧ _ ∧ _ ∧ _ ∧ _); obtain ⟨t0, k0⟩ := h84; obtain ⟨t1, k1⟩ := h85))
    have Z := sum_end true (.bool (decide (0 < tl D7 n7))) (.slice a7 (tl D7 n7) c7) h8B hrow hb hc7 hd7 hv7 (fun b off e => Nat.lt_of_lt_of_le hbig (hbl b off e))
    go_wp2
    exact bodyPost_ret (v := .agg #[.bool (decide (0 < tl D7 n7)), .slice a7 (tl D7 n7) c7]) (by simp [results, Tryd.results24, go_sem, k0, k1]) rfl ⟨Z.1, _, rfl, by simpa using Z.2⟩
end Go.Proofs.YtehfmapbodjppaaDoor
