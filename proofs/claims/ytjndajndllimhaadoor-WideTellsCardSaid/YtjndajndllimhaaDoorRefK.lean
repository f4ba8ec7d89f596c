/-
  The reference's Wide.
-/
import Derived.Test.YtjndajndllimhaaDoorRefJ
import Derived.Deep.DeepCutAuto
namespace Go.Proofs.YtjndajndllimhaaDoor
open Go.RowKit
open Go.BigFrame

theorem p18 : p10 18 = 1000000000000000000 := rfl
theorem p36 : p10 36 = 1000000000000000000000000000000000000 := rfl
theorem p37 : p10 37 = 10000000000000000000000000000000000000 := rfl
/-- The two parts. -/
theorem parts {D : Nat → Int} {n : Nat} (da : Dg D n) (hn : n ≤ 37) (h36 : n = 37 → D 36 ≤ 4) :
    vs D 0 n = vs (dgt D n) 0 18 + 1000000000000000000 * vs (dgt D n) 18 19 ∧ 0 ≤ vs (dgt D n) 0 18 ∧ vs (dgt D n) 0 18 < 1000000000000000000 ∧ 0 ≤ vs (dgt D n) 18 19 ∧ vs (dgt D n) 18 19 ≤ 4999999999999999999 := by
  have e := vs_split (dgt D n) 19 18 0
  rw [vs_dgt D n (18 + 19) (by omega), Nat.zero_add, p18] at e
  have b1 := vs_bd (n := 18) (D := dgt D n) (fun i _ => dgt_Ds da i) 18 0 (by omega)
  have b2 := vs_bd (n := 36) (D := dgt D n) (fun i _ => dgt_Ds da i) 18 18 (by omega)
  have s := vs_snoc (dgt D n) 18 18
  rw [p18] at b1 b2 s
  have q : 0 ≤ dgt D n (18 + 18) ∧ dgt D n (18 + 18) ≤ 4 := by
    have := dgt_Ds da (18 + 18)
    refine ⟨this.1, ?_⟩
    unfold dgt
    split
    · exact h36 (by omega)
    · omega
  have s' : vs (dgt D n) 18 19 = vs (dgt D n) 18 18 + 1000000000000000000 * dgt D n (18 + 18) := s
  omega
/-- What is not so long has no right Wide. -/
theorem too_long {D : Nat → Int} {n : Nat} (da : Dg D n) (ht : n = 0 ∨ D (n - 1) ≠ 0) (h : 37 < n ∨ (n = 37 ∧ 4 < D 36)) : 5000000000000000000000000000000000000 ≤ vs D 0 n := by
  rcases h with h | ⟨rfl, h⟩
  · rcases Int.lt_or_le (vs D 0 n) (p10 37) with g | g
    · have := num_len da ht g; omega
    · rw [p37] at g; omega
  · have s : vs D 0 37 = vs D 0 36 + 1000000000000000000000000000000000000 * D 36 := by
      have s := vs_snoc D 36 0
      rw [Nat.zero_add, p36] at s
      exact s
    have b := vs_bd da 36 0 (by omega)
    rw [p36] at b
    omega

theorem keep_wide {w W W' : World} {p q : Addr} {g : Nat} {u v : Value} (hb : Below W.heap.size W W') (h : Below w.heap.size w W) (h0 : W.cell? p = some u) (h1 : W.cell? q = some v) (h4 : Has W ⟨g, 0, none⟩) (h5 : Has W ⟨g, 1, none⟩) (h6 : W.frozen? ⟨g, 0, none⟩ = false) (h7 : W.frozen? ⟨g, 1, none⟩ = false) :
    Below w.heap.size w W' ∧ W'.cell? p = some u ∧ W'.cell? q = some v ∧ Has W' ⟨g, 0, none⟩ ∧ Has W' ⟨g, 1, none⟩ ∧ W'.frozen? ⟨g, 0, none⟩ = false ∧ W'.frozen? ⟨g, 1, none⟩ = false :=
  have hl : g < W.heap.size := cell_lt h4.choose_spec
  ⟨h.trans (hb.mono h.size), keepc hb h0, keepc hb h1, has_keep hb h4, has_keep hb h5, (hb.frozen (p := ⟨g, 0, none⟩) hl).trans h6, (hb.frozen (p := ⟨g, 1, none⟩) hl).trans h7⟩
theorem set_wide {w W : World} {a b g : Nat} {u v x y : Value} (hg : w.heap.size ≤ g) (ha : a ≠ g) (h : Below w.heap.size w W) (h0 : W.cell? ⟨a, 0, none⟩ = some u) (h1 : W.cell? ⟨a, b, none⟩ = some v) (h4 : Has W ⟨g, 0, none⟩) (h5 : Has W ⟨g, 1, none⟩) (h6 : W.frozen? ⟨g, 0, none⟩ = false) (h7 : W.frozen? ⟨g, 1, none⟩ = false) (W' : World) (hW : W' = (W.setCell ⟨g, 0, none⟩ x).setCell ⟨g, 1, none⟩ y) :
    Below w.heap.size w W' ∧ W'.cell? ⟨a, 0, none⟩ = some u ∧ W'.cell? ⟨a, b, none⟩ = some v ∧ Has W' ⟨g, 0, none⟩ ∧ Has W' ⟨g, 1, none⟩ ∧ W'.frozen? ⟨g, 0, none⟩ = false ∧ W'.frozen? ⟨g, 1, none⟩ = false := by
  subst hW
  obtain ⟨a4, h4⟩ := h4
  obtain ⟨a5, h5⟩ := h5
  refine ⟨(h.setCell (p := ⟨g, 0, none⟩) hg x).setCell (p := ⟨g, 1, none⟩) hg y, cell_other (cell_other h0 ha) ha, cell_other (cell_other h1 ha) ha, ⟨x, ?_⟩, ⟨y, ?_⟩, ?_, ?_⟩
  all_goals (first | (simp; done) | (simp [h6, h7]; done) | (simp [go_sem, h4, h5]; done))

set_option maxRecDepth 100000 in
set_option maxHeartbeats 1000000 in
theorem wide_fit (s : Bool) (a : Option Addr) (n c : Nat) (D : Nat → Int) (w : World) (ra : RowF w a n c D) (da : Dg D n) (hn : n ≤ 37) (h36 : n = 37 → D 36 ≤ 4) (N h l : Int) (hN : N = if s then -(vs D 0 n) else vs D 0 n) (hh : h = N / 1000000000000000000) (hl : l = N % 1000000000000000000) :
    Calls Tryd.prog 34 #[.agg #[.bool s, .slice a n c]] w fun e w' => e = .returned (.tuple #[.agg #[.int .i64 h, .int .i64 l], .bool (isB h l)]) ∧ Below w.heap.size w w' := by
  have hp := parts da hn h36
  have CX := Lib.hid (show ∀ x, RowF x a n c D → Calls Tryd.prog 41 #[.slice a n c, .int .i64 0, .int .i64 18] x fun e w' => e = .returned (.int .i64 (vs (dgt D n) 0 18)) ∧ Below x.heap.size x w' from fun x r => value_any a n c 0 18 D x r da (by omega) (by omega) (by omega) (by omega))
  have CY := Lib.hid (show ∀ x, RowF x a n c D → Calls Tryd.prog 41 #[.slice a n c, .int .i64 18, .int .i64 19] x fun e w' => e = .returned (.int .i64 (vs (dgt D n) 18 19)) ∧ Below x.heap.size x w' from fun x r => value_any a n c 18 19 D x r da (by omega) (by omega) (by omega) (by omega))
  generalize vs (dgt D n) 0 18 = X at *
  generalize vs (dgt D n) 18 19 = Y at *
  go_enter Tryd.func34, Tryd.ntmps34
  have B0 : Below w.heap.size w ((w.alloc (.cells #[.bool s, .slice a n c] 51)).alloc (.cells #[.int .i64 0, .int .i64 0] 24)) := by (repeat (first | exact Below.refl _ _ | assumption | refine Below.drew ?_ | refine below_drewN ?_ _ | refine Below.setCell ?_ (by first | omega | (simp; done) | (simp; omega)) _ | refine Below.alloc ?_ (by first | omega | (simp; done) | (simp; omega)) _))
  have x0 : ((w.alloc (.cells #[.bool s, .slice a n c] 51)).alloc (.cells #[.int .i64 0, .int .i64 0] 24)).cell? ⟨w.heap.size, 0, none⟩ = some (.bool s) := keepa (alloc_cell rfl rfl)
  have x1 : ((w.alloc (.cells #[.bool s, .slice a n c] 51)).alloc (.cells #[.int .i64 0, .int .i64 0] 24)).cell? ⟨w.heap.size, 1, none⟩ = some (.slice a n c) := keepa (alloc_cell rfl rfl)
  have z0 : ((w.alloc (.cells #[.bool s, .slice a n c] 51)).alloc (.cells #[.int .i64 0, .int .i64 0] 24)).cell? ⟨w.heap.size + 1, 0, none⟩ = some (.int .i64 0) := alloc_cell (by simp) rfl
  have z1 : ((w.alloc (.cells #[.bool s, .slice a n c] 51)).alloc (.cells #[.int .i64 0, .int .i64 0] 24)).cell? ⟨w.heap.size + 1, 1, none⟩ = some (.int .i64 0) := alloc_cell (by simp) rfl
  have fr : ∀ o, ((w.alloc (.cells #[.bool s, .slice a n c] 51)).alloc (.cells #[.int .i64 0, .int .i64 0] 24)).frozen? ⟨w.heap.size + 1, o, none⟩ = false := fun o => alloc_frozen (by simp)
  have d37 : decide ((37 : Int) < (n : Int)) = false := by simp; omega
  go_upto_region 1 with fail
  generalize ((w.alloc (.cells #[.bool s, .slice a n c] 51)).alloc (.cells #[.int .i64 0, .int .i64 0] 24)) = V at *
  have RV := Lib.hid (ra.keep B0)
  have HN := Lib.hid (And.intro hN (And.intro hh hl))
  have HP := Lib.hid hp
  have BV := Lib.hid B0
  have hsz : w.heap.size + 1 < V.heap.size := cell_lt z0
  clear hN hh hl hp B0 ra
  have h36' : ∀ v : Int, n = 37 → (∃ b off, a = some ⟨b, off, none⟩ ∧ b < V.heap.size ∧ V.cell? ⟨b, off + 36, none⟩ = some (.int .i64 (D 36))) := fun _ h => by
    obtain ⟨b, off, h1, h2, h3⟩ := RV.out.at (i := 36) (by omega)
    exact ⟨b, off, h1, h2, h3 36 (by omega)⟩
  go_cut [23] (fun s W => s = .bool false ∧ W = V)
  case first =>
    by_cases e37 : n = 37
    · obtain ⟨b, off, rfl, hl, hc36⟩ := h36' 0 e37
      have q37 : ((n : Int) == 37) = true := by rw [beq_iff_eq]; omega
      have d4 : decide ((4 : Int) < D 36) = false := by have := h36 e37; simp; omega
      have hn36 : 36 < n := by omega
      clear h36' h36 RV CX CY HN HP BV
      go_wp2_with fail
      go_meet
      exact ⟨rfl, rfl⟩
    · have q37 : ((n : Int) == 37) = false := by rw [beq_eq_false_iff_ne]; omega
      clear h36' h36 RV CX CY HN HP BV
      go_wp2_with fail
      go_meet
      exact ⟨rfl, rfl⟩
  case rest =>
    obtain ⟨rfl, rfl⟩ := hcut
    have hB := BV.out
    clear h36' h36 d37
    obtain ⟨g1, g2, g3, g4, g5⟩ := HP.out
    go_upto_region 4 with (go_at_call 41; refine (CY.out _ RV.out).mono ?_; rintro e w1 ⟨rfl, hb1⟩; have hB1 : Below w.heap.size w w1 := (by refine Below.trans ?_ (hb1.mono (by first | omega | (simp; done) | (simp; omega))); (repeat (first | exact Below.refl _ _ | assumption | refine Below.drew ?_ | refine below_drewN ?_ _ | refine Below.setCell ?_ (by first | omega | (simp; done) | (simp; omega)) _ | refine Below.alloc ?_ (by first | omega | (simp; done) | (simp; omega)) _))); have hsz1 : w.heap.size ≤ w1.heap.size := hB1.size; replace x0 := keepc hb1 (by first | exact x0 | exact keepa x0 | exact keepa (keepa x0) | (simp [go_sem, *]; done)); replace x1 := keepc hb1 (by first | exact x1 | exact keepa x1 | exact keepa (keepa x1) | (simp [go_sem, *]; done)); replace z0 := keepc hb1 (by first | exact z0 | exact keepa z0 | exact keepa (keepa z0) | (simp [go_sem, *]; done)); replace z1 := keepc hb1 (by first | exact z1 | exact keepa z1 | exact keepa (keepa z1) | (simp [go_sem, *]; done)))
    go_upto_region 5 with (go_at_call 41; refine (CX.out _ (RV.out.keep hb1)).mono ?_; rintro e w2 ⟨rfl, hb2⟩; have hB2 : Below w.heap.size w w2 := (by refine Below.trans ?_ (hb2.mono (by first | omega | (simp; done) | (simp; omega))); (repeat (first | exact Below.refl _ _ | assumption | refine Below.drew ?_ | refine below_drewN ?_ _ | refine Below.setCell ?_ (by first | omega | (simp; done) | (simp; omega)) _ | refine Below.alloc ?_ (by first | omega | (simp; done) | (simp; omega)) _))); have hsz2 : w.heap.size ≤ w2.heap.size := hB2.size; replace x0 := keepc hb2 (by first | exact x0 | exact keepa x0 | exact keepa (keepa x0) | (simp [go_sem, *]; done)); replace x1 := keepc hb2 (by first | exact x1 | exact keepa x1 | exact keepa (keepa x1) | (simp [go_sem, *]; done)); replace z0 := keepc hb2 (by first | exact z0 | exact keepa z0 | exact keepa (keepa z0) | (simp [go_sem, *]; done)); replace z1 := keepc hb2 (by first | exact z1 | exact keepa z1 | exact keepa (keepa z1) | (simp [go_sem, *]; done)))
    have f2 : ∀ o, w2.frozen? ⟨w.heap.size + 1, o, none⟩ = false := fun o => (hb2.frozen (p := ⟨w.heap.size + 1, o, none⟩) (Nat.lt_of_lt_of_le hsz hb1.size)).trans ((hb1.frozen (p := ⟨w.heap.size + 1, o, none⟩) hsz).trans (fr o))
    have hs2 : w.heap.size + 1 < w2.heap.size := cell_lt z0
    have HB2 := Lib.hid hB2
    clear hb1 hb2 hB1 hB2 hB fr hsz1 hsz2 BV RV CX CY
    cases s
    · go_upto_region 11 with fail
      have eh : h = Y := by (have q := HN.out; simp only [Bool.false_eq_true, if_false] at q; omega)
      have el : l = X := by (have q := HN.out; simp only [Bool.false_eq_true, if_false] at q; omega)
      have hcl0 : (w2.alloc (.cells #[.int .i64 (Y), .int .i64 (X)] 24)).cell? ⟨w2.heap.size, 0, none⟩ = some (.int .i64 (Y)) := by simp
      have hcl1 : (w2.alloc (.cells #[.int .i64 (Y), .int .i64 (X)] 24)).cell? ⟨w2.heap.size, 1, none⟩ = some (.int .i64 (X)) := by simp
      have BA : Below w.heap.size w (w2.alloc (.cells #[.int .i64 (Y), .int .i64 (X)] 24)) := HB2.out.alloc HB2.out.size _
      have A0 : Has (w2.alloc (.cells #[.int .i64 (Y), .int .i64 (X)] 24)) ⟨w.heap.size + 1, 0, none⟩ := ⟨_, keepa z0⟩
      have A1 : Has (w2.alloc (.cells #[.int .i64 (Y), .int .i64 (X)] 24)) ⟨w.heap.size + 1, 1, none⟩ := ⟨_, keepa z1⟩
      have fA : ∀ o, (w2.alloc (.cells #[.int .i64 (Y), .int .i64 (X)] 24)).frozen? ⟨w.heap.size + 1, o, none⟩ = false := fun o => (Below.frozen ((Below.refl w2.heap.size w2).alloc (Nat.le_refl _) _) (p := ⟨w.heap.size + 1, o, none⟩) hs2).trans (f2 o)
      generalize (w2.alloc (.cells #[.int .i64 (Y), .int .i64 (X)] 24)) = V2 at *
      go_region_held3 (fun W => Below w.heap.size w W ∧ W.cell? ⟨w2.heap.size, 0, none⟩ = some (.int .i64 (Y)) ∧ W.cell? ⟨w2.heap.size, 1, none⟩ = some (.int .i64 (X)) ∧ Has W ⟨w.heap.size + 1, 0, none⟩ ∧ Has W ⟨w.heap.size + 1, 1, none⟩ ∧ W.frozen? ⟨w.heap.size + 1, 0, none⟩ = false ∧ W.frozen? ⟨w.heap.size + 1, 1, none⟩ = false)
        (first | exact ⟨BA.drew, hcl0, hcl1, A0, A1, fA 0, fA 1⟩ | (go_split_ands; exact keep_wide hb (by assumption) (by assumption) (by assumption) (by assumption) (by assumption) (by assumption) (by assumption)) | (go_split_ands; exact set_wide (by omega) (by omega) h8B h80 h81 ⟨_, k0⟩ ⟨_, k1⟩ h86 h87 _ rfl))
        (first | (go_at_call 12; refine (ris_any (Y) (X) _).mono ?_; rintro e w8 ⟨rfl, hb⟩; obtain ⟨h8B, h80, h81, h84, h85, h86, h87⟩ := (by go_split_ands; exact keep_wide (w := w) (p := ⟨w2.heap.size, 0, none⟩) (q := ⟨w2.heap.size, 1, none⟩) (g := w.heap.size + 1) hb (by assumption) (by assumption) (by assumption) (by assumption) (by assumption) (by assumption) (by assumption) : _ ∧ _ ∧ _ ∧ _ ∧ _ ∧ _ ∧ _); obtain ⟨t0, k0⟩ := h84; obtain ⟨t1, k1⟩ := h85))
      go_wp2
      exact bodyPost_ret (v := .tuple #[.agg #[.int .i64 (Y), .int .i64 (X)], .bool (isB (Y) (X))]) (by simp [results, Tryd.results34, go_sem, k0, k1]) rfl ⟨by rw [eh, el], by (repeat (first | exact Below.refl _ _ | assumption | refine Below.drew ?_ | refine below_drewN ?_ _ | refine Below.setCell ?_ (by first | omega | (simp; done) | (simp; omega)) _ | refine Below.alloc ?_ (by first | omega | (simp; done) | (simp; omega)) _))⟩
    · by_cases hX0 : 0 < X
      · go_upto_region 11 with fail
        have eh : h = -Y - 1 := by (have q := HN.out; simp only [if_true] at q; omega)
        have el : l = 1000000000000000000 - X := by (have q := HN.out; simp only [if_true] at q; omega)
        have hcl0 : (w2.alloc (.cells #[.int .i64 (-Y - 1), .int .i64 (1000000000000000000 - X)] 24)).cell? ⟨w2.heap.size, 0, none⟩ = some (.int .i64 (-Y - 1)) := by simp
        have hcl1 : (w2.alloc (.cells #[.int .i64 (-Y - 1), .int .i64 (1000000000000000000 - X)] 24)).cell? ⟨w2.heap.size, 1, none⟩ = some (.int .i64 (1000000000000000000 - X)) := by simp
        have BA : Below w.heap.size w (w2.alloc (.cells #[.int .i64 (-Y - 1), .int .i64 (1000000000000000000 - X)] 24)) := HB2.out.alloc HB2.out.size _
        have A0 : Has (w2.alloc (.cells #[.int .i64 (-Y - 1), .int .i64 (1000000000000000000 - X)] 24)) ⟨w.heap.size + 1, 0, none⟩ := ⟨_, keepa z0⟩
        have A1 : Has (w2.alloc (.cells #[.int .i64 (-Y - 1), .int .i64 (1000000000000000000 - X)] 24)) ⟨w.heap.size + 1, 1, none⟩ := ⟨_, keepa z1⟩
        have fA : ∀ o, (w2.alloc (.cells #[.int .i64 (-Y - 1), .int .i64 (1000000000000000000 - X)] 24)).frozen? ⟨w.heap.size + 1, o, none⟩ = false := fun o => (Below.frozen ((Below.refl w2.heap.size w2).alloc (Nat.le_refl _) _) (p := ⟨w.heap.size + 1, o, none⟩) hs2).trans (f2 o)
        generalize (w2.alloc (.cells #[.int .i64 (-Y - 1), .int .i64 (1000000000000000000 - X)] 24)) = V2 at *
        go_region_held3 (fun W => Below w.heap.size w W ∧ W.cell? ⟨w2.heap.size, 0, none⟩ = some (.int .i64 (-Y - 1)) ∧ W.cell? ⟨w2.heap.size, 1, none⟩ = some (.int .i64 (1000000000000000000 - X)) ∧ Has W ⟨w.heap.size + 1, 0, none⟩ ∧ Has W ⟨w.heap.size + 1, 1, none⟩ ∧ W.frozen? ⟨w.heap.size + 1, 0, none⟩ = false ∧ W.frozen? ⟨w.heap.size + 1, 1, none⟩ = false)
          (first | exact ⟨BA.drew, hcl0, hcl1, A0, A1, fA 0, fA 1⟩ | (go_split_ands; exact keep_wide hb (by assumption) (by assumption) (by assumption) (by assumption) (by assumption) (by assumption) (by assumption)) | (go_split_ands; exact set_wide (by omega) (by omega) h8B h80 h81 ⟨_, k0⟩ ⟨_, k1⟩ h86 h87 _ rfl))
          (first | (go_at_call 12; refine (ris_any (-Y - 1) (1000000000000000000 - X) _).mono ?_; rintro e w8 ⟨rfl, hb⟩; obtain ⟨h8B, h80, h81, h84, h85, h86, h87⟩ := (by go_split_ands; exact keep_wide (w := w) (p := ⟨w2.heap.size, 0, none⟩) (q := ⟨w2.heap.size, 1, none⟩) (g := w.heap.size + 1) hb (by assumption) (by assumption) (by assumption) (by assumption) (by assumption) (by assumption) (by assumption) : _ ∧ _ ∧ _ ∧ _ ∧ _ ∧ _ ∧ _); obtain ⟨t0, k0⟩ := h84; obtain ⟨t1, k1⟩ := h85))
        go_wp2
        exact bodyPost_ret (v := .tuple #[.agg #[.int .i64 (-Y - 1), .int .i64 (1000000000000000000 - X)], .bool (isB (-Y - 1) (1000000000000000000 - X))]) (by simp [results, Tryd.results34, go_sem, k0, k1]) rfl ⟨by rw [eh, el], by (repeat (first | exact Below.refl _ _ | assumption | refine Below.drew ?_ | refine below_drewN ?_ _ | refine Below.setCell ?_ (by first | omega | (simp; done) | (simp; omega)) _ | refine Below.alloc ?_ (by first | omega | (simp; done) | (simp; omega)) _))⟩
      · have hXX : X = 0 := by omega
        subst hXX
        go_upto_region 11 with fail
        have eh : h = -Y := by (have q := HN.out; simp only [if_true] at q; omega)
        have el : l = 0 := by (have q := HN.out; simp only [if_true] at q; omega)
        have hcl0 : (w2.alloc (.cells #[.int .i64 (-Y), .int .i64 (0)] 24)).cell? ⟨w2.heap.size, 0, none⟩ = some (.int .i64 (-Y)) := by simp
        have hcl1 : (w2.alloc (.cells #[.int .i64 (-Y), .int .i64 (0)] 24)).cell? ⟨w2.heap.size, 1, none⟩ = some (.int .i64 (0)) := by simp
        have BA : Below w.heap.size w (w2.alloc (.cells #[.int .i64 (-Y), .int .i64 (0)] 24)) := HB2.out.alloc HB2.out.size _
        have A0 : Has (w2.alloc (.cells #[.int .i64 (-Y), .int .i64 (0)] 24)) ⟨w.heap.size + 1, 0, none⟩ := ⟨_, keepa z0⟩
        have A1 : Has (w2.alloc (.cells #[.int .i64 (-Y), .int .i64 (0)] 24)) ⟨w.heap.size + 1, 1, none⟩ := ⟨_, keepa z1⟩
        have fA : ∀ o, (w2.alloc (.cells #[.int .i64 (-Y), .int .i64 (0)] 24)).frozen? ⟨w.heap.size + 1, o, none⟩ = false := fun o => (Below.frozen ((Below.refl w2.heap.size w2).alloc (Nat.le_refl _) _) (p := ⟨w.heap.size + 1, o, none⟩) hs2).trans (f2 o)
        generalize (w2.alloc (.cells #[.int .i64 (-Y), .int .i64 (0)] 24)) = V2 at *
        go_region_held3 (fun W => Below w.heap.size w W ∧ W.cell? ⟨w2.heap.size, 0, none⟩ = some (.int .i64 (-Y)) ∧ W.cell? ⟨w2.heap.size, 1, none⟩ = some (.int .i64 (0)) ∧ Has W ⟨w.heap.size + 1, 0, none⟩ ∧ Has W ⟨w.heap.size + 1, 1, none⟩ ∧ W.frozen? ⟨w.heap.size + 1, 0, none⟩ = false ∧ W.frozen? ⟨w.heap.size + 1, 1, none⟩ = false)
          (first | exact ⟨BA.drew, hcl0, hcl1, A0, A1, fA 0, fA 1⟩ | (go_split_ands; exact keep_wide hb (by assumption) (by assumption) (by assumption) (by assumption) (by assumption) (by assumption) (by assumption)) | (go_split_ands; exact set_wide (by omega) (by omega) h8B h80 h81 ⟨_, k0⟩ ⟨_, k1⟩ h86 h87 _ rfl))
          (first | (go_at_call 12; refine (ris_any (-Y) (0) _).mono ?_; rintro e w8 ⟨rfl, hb⟩; obtain ⟨h8B, h80, h81, h84, h85, h86, h87⟩ := (by go_split_ands; exact keep_wide (w := w) (p := ⟨w2.heap.size, 0, none⟩) (q := ⟨w2.heap.size, 1, none⟩) (g := w.heap.size + 1) hb (by assumption) (by assumption) (by assumption) (by assumption) (by assumption) (by assumption) (by assumption) : _ ∧ _ ∧ _ ∧ _ ∧ _ ∧ _ ∧ _); obtain ⟨t0, k0⟩ := h84; obtain ⟨t1, k1⟩ := h85))
        go_wp2
        exact bodyPost_ret (v := .tuple #[.agg #[.int .i64 (-Y), .int .i64 (0)], .bool (isB (-Y) (0))]) (by simp [results, Tryd.results34, go_sem, k0, k1]) rfl ⟨by rw [eh, el], by (repeat (first | exact Below.refl _ _ | assumption | refine Below.drew ?_ | refine below_drewN ?_ _ | refine Below.setCell ?_ (by first | omega | (simp; done) | (simp; omega)) _ | refine Below.alloc ?_ (by first | omega | (simp; done) | (simp; omega)) _))⟩
end Go.Proofs.YtjndajndllimhaaDoor
