/-
  The reference's numbers: Sum of two sides.
-/
import Derived.Test.YtehfmapbodjppaaDoorRefF
namespace Go.Proofs.YtehfmapbodjppaaDoor
open Go.RowKit
open Go.BigFrame

set_option maxRecDepth 100000 in
set_option maxHeartbeats 1000000 in
theorem sum_plus_minus (a b : Option Addr) (n m c d₁ : Nat) (D E : Nat → Int) (w : World) (ra : RowF w a n c D) (rb : RowF w b m d₁ E) (hn : n ≤ 1000000) (hm : m ≤ 1000000) (da : Dg D n) (db : Dg E m) :
    Calls Tryd.prog 24 #[.agg #[.bool false, .slice a n c], .agg #[.bool true, .slice b m d₁]] w (RetNum (vs D 0 n - vs E 0 m) w) := by
  have HV := sumW_is w false a n c true b m d₁
  go_enter Tryd.func24, Tryd.ntmps24
  go_upto_region 3 with fail
  rw [← sumW] at *
  generalize sumW w _ _ = V at *
  have RA := Lib.hid (ra.keep HV.bel)
  have RB := Lib.hid (rb.keep HV.bel)
  have HH := Lib.hid HV
  obtain ⟨BV, hbig, x0, x1, y0, y1, z0, z1, fr⟩ := HV
  by_cases hge : vs E 0 m ≤ vs D 0 n
  · have hsg : 0 ≤ sg (vs D 0 n - vs E 0 m) := by unfold sg; split <;> (try split) <;> omega
    generalize hσ : sg (vs D 0 n - vs E 0 m) = σ at *
    go_wp2_with (go_at_call 36; refine (size_any _ _ a b n m c d₁ D E _ RA.out RB.out hn hm da db).mono ?_; rintro e w1 ⟨rfl, hb1⟩; rw [hσ]; have HV1 := HH.out.keep hb1; obtain ⟨BV1, hbig1, x01, x11, y01, y11, z01, z11, fr1⟩ := HV1)
    clear x0 x1 y0 y1 z0 z1 fr hb1
    go_region_held3 (fun W => Below w.heap.size w W ∧ W.cell? ⟨w.heap.size, 0, none⟩ = some (.bool false) ∧ W.cell? ⟨w.heap.size, 1, none⟩ = some (.slice a n c) ∧ W.cell? ⟨w.heap.size + 1, 0, none⟩ = some (.bool true) ∧ W.cell? ⟨w.heap.size + 1, 1, none⟩ = some (.slice b m d₁) ∧ Has W ⟨w.heap.size + 1 + 1, 0, none⟩ ∧ Has W ⟨w.heap.size + 1 + 1, 1, none⟩ ∧ W.frozen? ⟨w.heap.size + 1 + 1, 0, none⟩ = false ∧ W.frozen? ⟨w.heap.size + 1 + 1, 1, none⟩ = false)
      (first | exact ⟨BV1.drew, x01, x11, y01, y11, ⟨_, z01⟩, ⟨_, z11⟩, fr1 0, fr1 1⟩ | (go_split_ands; exact keep_sum hb (by assumption) (by assumption) (by assumption) (by assumption) (by assumption) (by assumption) (by assumption) (by assumption) (by assumption)) | (go_split_ands; exact set_sum h8B h80 h81 h82 h83 ⟨_, k0⟩ ⟨_, k1⟩ h86 h87 _ rfl))
      (first
        | (go_at_call 37; refine (minus_any _ _ a b n m c d₁ D E _ ?_ ?_ hn hm da db hge).mono ?_; (go_split_ands; exact ra.keep (by assumption)); (go_split_ands; exact rb.keep (by assumption)); rintro e w7 ⟨hb, a7, n7, c7, D7, rfl, hrow, hc7, hd7, hv7, hbl⟩)
        | (go_at_call 34; refine (trim_any _ _ _ _ _ _ hrow hc7).mono ?_; rintro e w8 ⟨rfl, hb⟩; obtain ⟨h8B, h80, h81, h82, h83, h84, h85, h86, h87⟩ := (by go_split_ands; exact keep_sum (w := w) (p0 := ⟨w.heap.size, 0, none⟩) (p1 := ⟨w.heap.size, 1, none⟩) (q0 := ⟨w.heap.size + 1, 0, none⟩) (q1 := ⟨w.heap.size + 1, 1, none⟩) (g := w.heap.size + 1 + 1) hb (by assumption) (by assumption) (by assumption) (by assumption) (by assumption) (by assumption) (by assumption) (by assumption) (by assumption) : _ ∧ _ ∧ _ ∧ _ ∧ _ ∧ _ ∧ _ ∧ _ ∧ _); obtain ⟨t0, k0⟩ := h84; obtain ⟨t1, k1⟩ := h85))
    have Z := sum_end false (.bool false) (.slice a7 (tl D7 n7) c7) h8B hrow hb hc7 hd7 hv7 (fun b off e => Nat.lt_of_lt_of_le hbig1 (hbl b off e))
    go_wp2
    rw [show (vs D 0 n - vs E 0 m) = (if false then -(vs D 0 n - vs E 0 m) else vs D 0 n - vs E 0 m) from by simp <;> omega]
    exact bodyPost_ret (v := .agg #[.bool false, .slice a7 (tl D7 n7) c7]) (by simp [results, Tryd.results24, go_sem, k0, k1]) rfl ⟨Z.1, _, rfl, by simpa using Z.2⟩
  · have hsg : sg (vs D 0 n - vs E 0 m) < 0 := by unfold sg; split <;> (try split) <;> omega
    generalize hσ : sg (vs D 0 n - vs E 0 m) = σ at *
    go_wp2_with (go_at_call 36; refine (size_any _ _ a b n m c d₁ D E _ RA.out RB.out hn hm da db).mono ?_; rintro e w1 ⟨rfl, hb1⟩; rw [hσ]; have HV1 := HH.out.keep hb1; obtain ⟨BV1, hbig1, x01, x11, y01, y11, z01, z11, fr1⟩ := HV1)
    clear x0 x1 y0 y1 z0 z1 fr hb1
    go_region_held3 (fun W => Below w.heap.size w W ∧ W.cell? ⟨w.heap.size, 0, none⟩ = some (.bool false) ∧ W.cell? ⟨w.heap.size, 1, none⟩ = some (.slice a n c) ∧ W.cell? ⟨w.heap.size + 1, 0, none⟩ = some (.bool true) ∧ W.cell? ⟨w.heap.size + 1, 1, none⟩ = some (.slice b m d₁) ∧ Has W ⟨w.heap.size + 1 + 1, 0, none⟩ ∧ Has W ⟨w.heap.size + 1 + 1, 1, none⟩ ∧ W.frozen? ⟨w.heap.size + 1 + 1, 0, none⟩ = false ∧ W.frozen? ⟨w.heap.size + 1 + 1, 1, none⟩ = false)
      (first | exact ⟨BV1.drew, x01, x11, y01, y11, ⟨_, z01⟩, ⟨_, z11⟩, fr1 0, fr1 1⟩ | (go_split_ands; exact keep_sum hb (by assumption) (by assumption) (by assumption) (by assumption) (by assumption) (by assumption) (by assumption) (by assumption) (by assumption)) | (go_split_ands; exact set_sum h8B h80 h81 h82 h83 ⟨_, k0⟩ ⟨_, k1⟩ h86 h87 _ rfl))
      (first
        | (go_at_call 37; refine (minus_any _ _ b a m n d₁ c E D _ ?_ ?_ hm hn db da (by omega)).mono ?_; (go_split_ands; exact rb.keep (by assumption)); (go_split_ands; exact ra.keep (by assumption)); rintro e w7 ⟨hb, a7, n7, c7, D7, rfl, hrow, hc7, hd7, hv7, hbl⟩)
        | (go_at_call 34; refine (trim_any _ _ _ _ _ _ hrow hc7).mono ?_; rintro e w8 ⟨rfl, hb⟩; obtain ⟨h8B, h80, h81, h82, h83, h84, h85, h86, h87⟩ := (by go_split_ands; exact keep_sum (w := w) (p0 := ⟨w.heap.size, 0, none⟩) (p1 := ⟨w.heap.size, 1, none⟩) (q0 := ⟨w.heap.size + 1, 0, none⟩) (q1 := ⟨w.heap.size + 1, 1, none⟩) (g := w.heap.size + 1 + 1) hb (by assumption) (by assumption) (by assumption) (by assumption) (by assumption) (by assumption) (by assumption) (by assumption) (by assumption) : _ ∧ _ ∧ _ ∧ _ ∧ _ ∧ _ ∧ _ ∧ _ ∧ _); obtain ⟨t0, k0⟩ := h84; obtain ⟨t1, k1⟩ := h85))
    have Z := sum_end true (.bool (decide (0 < tl D7 n7))) (.slice a7 (tl D7 n7) c7) h8B hrow hb hc7 hd7 hv7 (fun b off e => Nat.lt_of_lt_of_le hbig1 (hbl b off e))
    go_wp2
    rw [show (vs D 0 n - vs E 0 m) = (if true then -(vs E 0 m - vs D 0 n) else vs E 0 m - vs D 0 n) from by simp <;> omega]
    exact bodyPost_ret (v := .agg #[.bool (decide (0 < tl D7 n7)), .slice a7 (tl D7 n7) c7]) (by simp [results, Tryd.results24, go_sem, k0, k1]) rfl ⟨Z.1, _, rfl, by simpa using Z.2⟩
set_option maxRecDepth 100000 in
set_option maxHeartbeats 1000000 in
theorem sum_minus_plus (a b : Option Addr) (n m c d₁ : Nat) (D E : Nat → Int) (w : World) (ra : RowF w a n c D) (rb : RowF w b m d₁ E) (hn : n ≤ 1000000) (hm : m ≤ 1000000) (da : Dg D n) (db : Dg E m) :
    Calls Tryd.prog 24 #[.agg #[.bool true, .slice a n c], .agg #[.bool false, .slice b m d₁]] w (RetNum (vs E 0 m - vs D 0 n) w) := by
  have HV := sumW_is w true a n c false b m d₁
  go_enter Tryd.func24, Tryd.ntmps24
  go_upto_region 3 with fail
  rw [← sumW] at *
  generalize sumW w _ _ = V at *
  have RA := Lib.hid (ra.keep HV.bel)
  have RB := Lib.hid (rb.keep HV.bel)
  have HH := Lib.hid HV
  obtain ⟨BV, hbig, x0, x1, y0, y1, z0, z1, fr⟩ := HV
  by_cases hge : vs E 0 m ≤ vs D 0 n
  · have hsg : 0 ≤ sg (vs D 0 n - vs E 0 m) := by unfold sg; split <;> (try split) <;> omega
    generalize hσ : sg (vs D 0 n - vs E 0 m) = σ at *
    go_wp2_with (go_at_call 36; refine (size_any _ _ a b n m c d₁ D E _ RA.out RB.out hn hm da db).mono ?_; rintro e w1 ⟨rfl, hb1⟩; rw [hσ]; have HV1 := HH.out.keep hb1; obtain ⟨BV1, hbig1, x01, x11, y01, y11, z01, z11, fr1⟩ := HV1)
    clear x0 x1 y0 y1 z0 z1 fr hb1
    go_region_held3 (fun W => Below w.heap.size w W ∧ W.cell? ⟨w.heap.size, 0, none⟩ = some (.bool true) ∧ W.cell? ⟨w.heap.size, 1, none⟩ = some (.slice a n c) ∧ W.cell? ⟨w.heap.size + 1, 0, none⟩ = some (.bool false) ∧ W.cell? ⟨w.heap.size + 1, 1, none⟩ = some (.slice b m d₁) ∧ Has W ⟨w.heap.size + 1 + 1, 0, none⟩ ∧ Has W ⟨w.heap.size + 1 + 1, 1, none⟩ ∧ W.frozen? ⟨w.heap.size + 1 + 1, 0, none⟩ = false ∧ W.frozen? ⟨w.heap.size + 1 + 1, 1, none⟩ = false)
      (first | exact ⟨BV1.drew, x01, x11, y01, y11, ⟨_, z01⟩, ⟨_, z11⟩, fr1 0, fr1 1⟩ | (go_split_ands; exact keep_sum hb (by assumption) (by assumption) (by assumption) (by assumption) (by assumption) (by assumption) (by assumption) (by assumption) (by assumption)) | (go_split_ands; exact set_sum h8B h80 h81 h82 h83 ⟨_, k0⟩ ⟨_, k1⟩ h86 h87 _ rfl))
      (first
        | (go_at_call 37; refine (minus_any _ _ a b n m c d₁ D E _ ?_ ?_ hn hm da db hge).mono ?_; (go_split_ands; exact ra.keep (by assumption)); (go_split_ands; exact rb.keep (by assumption)); rintro e w7 ⟨hb, a7, n7, c7, D7, rfl, hrow, hc7, hd7, hv7, hbl⟩)
        | (go_at_call 34; refine (trim_any _ _ _ _ _ _ hrow hc7).mono ?_; rintro e w8 ⟨rfl, hb⟩; obtain ⟨h8B, h80, h81, h82, h83, h84, h85, h86, h87⟩ := (by go_split_ands; exact keep_sum (w := w) (p0 := ⟨w.heap.size, 0, none⟩) (p1 := ⟨w.heap.size, 1, none⟩) (q0 := ⟨w.heap.size + 1, 0, none⟩) (q1 := ⟨w.heap.size + 1, 1, none⟩) (g := w.heap.size + 1 + 1) hb (by assumption) (by assumption) (by assumption) (by assumption) (by assumption) (by assumption) (by assumption) (by assumption) (by assumption) : _ ∧ _ ∧ _ ∧ _ ∧ _ ∧ _ ∧ _ ∧ _ ∧ _); obtain ⟨t0, k0⟩ := h84; obtain ⟨t1, k1⟩ := h85))
    have Z := sum_end true (.bool (decide (0 < tl D7 n7))) (.slice a7 (tl D7 n7) c7) h8B hrow hb hc7 hd7 hv7 (fun b off e => Nat.lt_of_lt_of_le hbig1 (hbl b off e))
    go_wp2
    rw [show (vs E 0 m - vs D 0 n) = (if true then -(vs D 0 n - vs E 0 m) else vs D 0 n - vs E 0 m) from by simp <;> omega]
    exact bodyPost_ret (v := .agg #[.bool (decide (0 < tl D7 n7)), .slice a7 (tl D7 n7) c7]) (by simp [results, Tryd.results24, go_sem, k0, k1]) rfl ⟨Z.1, _, rfl, by simpa using Z.2⟩
  · have hsg : sg (vs D 0 n - vs E 0 m) < 0 := by unfold sg; split <;> (try split) <;> omega
    generalize hσ : sg (vs D 0 n - vs E 0 m) = σ at *
    go_wp2_with (go_at_call 36; refine (size_any _ _ a b n m c d₁ D E _ RA.out RB.out hn hm da db).mono ?_; rintro e w1 ⟨rfl, hb1⟩; rw [hσ]; have HV1 := HH.out.keep hb1; obtain ⟨BV1, hbig1, x01, x11, y01, y11, z01, z11, fr1⟩ := HV1)
    clear x0 x1 y0 y1 z0 z1 fr hb1
    go_region_held3 (fun W => Below w.heap.size w W ∧ W.cell? ⟨w.heap.size, 0, none⟩ = some (.bool true) ∧ W.cell? ⟨w.heap.size, 1, none⟩ = some (.slice a n c) ∧ W.cell? ⟨w.heap.size + 1, 0, none⟩ = some (.bool false) ∧ W.cell? ⟨w.heap.size + 1, 1, none⟩ = some (.slice b m d₁) ∧ Has W ⟨w.heap.size + 1 + 1, 0, none⟩ ∧ Has W ⟨w.heap.size + 1 + 1, 1, none⟩ ∧ W.frozen? ⟨w.heap.size + 1 + 1, 0, none⟩ = false ∧ W.frozen? ⟨w.heap.size + 1 + 1, 1, none⟩ = false)
      (first | exact ⟨BV1.drew, x01, x11, y01, y11, ⟨_, z01⟩, ⟨_, z11⟩, fr1 0, fr1 1⟩ | (go_split_ands; exact keep_sum hb (by assumption) (by assumption) (by assumption) (by assumption) (by assumption) (by assumption) (by assumption) (by assumption) (by assumption)) | (go_split_ands; exact set_sum h8B h80 h81 h82 h83 ⟨_, k0⟩ ⟨_, k1⟩ h86 h87 _ rfl))
      (first
        | (go_at_call 37; refine (minus_any _ _ b a m n d₁ c E D _ ?_ ?_ hm hn db da (by omega)).mono ?_; (go_split_ands; exact rb.keep (by assumption)); (go_split_ands; exact ra.keep (by assumption)); rintro e w7 ⟨hb, a7, n7, c7, D7, rfl, hrow, hc7, hd7, hv7, hbl⟩)
        | (go_at_call 34; refine (trim_any _ _ _ _ _ _ hrow hc7).mono ?_; rintro e w8 ⟨rfl, hb⟩; obtain ⟨h8B, h80, h81, h82, h83, h84, h85, h86, h87⟩ := (by go_split_ands; exact keep_sum (w := w) (p0 := ⟨w.heap.size, 0, none⟩) (p1 := ⟨w.heap.size, 1, none⟩) (q0 := ⟨w.heap.size + 1, 0, none⟩) (q1 := ⟨w.heap.size + 1, 1, none⟩) (g := w.heap.size + 1 + 1) hb (by assumption) (by assumption) (by assumption) (by assumption) (by assumption) (by assumption) (by assumption) (by assumption) (by assumption) : _ ∧ _ ∧ _ ∧ _ ∧ _ ∧ _ ∧ _ ∧ _ ∧ _); obtain ⟨t0, k0⟩ := h84; obtain ⟨t1, k1⟩ := h85))
    have Z := sum_end false (.bool false) (.slice a7 (tl D7 n7) c7) h8B hrow hb hc7 hd7 hv7 (fun b off e => Nat.lt_of_lt_of_le hbig1 (hbl b off e))
    go_wp2
    rw [show (vs E 0 m - vs D 0 n) = (if false then -(vs E 0 m - vs D 0 n) else vs E 0 m - vs D 0 n) from by simp <;> omega]
    exact bodyPost_ret (v := .agg #[.bool false, .slice a7 (tl D7 n7) c7]) (by simp [results, Tryd.results24, go_sem, k0, k1]) rfl ⟨Z.1, _, rfl, by simpa using Z.2⟩
end Go.Proofs.YtehfmapbodjppaaDoor
