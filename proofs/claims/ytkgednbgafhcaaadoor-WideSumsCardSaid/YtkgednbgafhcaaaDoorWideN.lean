/-
  The law WideSums: its walk.
-/
import Derived.Test.YtkgednbgafhcaaaDoorWideM
import Derived.Test.YtkgednbgafhcaaaDoorWideR
namespace Go.Proofs.YtkgednbgafhcaaaDoor
open Go.RowKit Go.BigFrame
attribute [local go_sem ↓] Go.wp_at_zero Go.wp_at_succ

set_option maxRecDepth 100000 in
set_option maxHeartbeats 8000000 in
theorem law_sums_any (ah al bh bl ch cl : Int) (w : World) (ht : Tab w) :
    Calls Tryd.prog 5 #[.agg #[.int .i64 ah, .int .i64 al], .agg #[.int .i64 bh, .int .i64 bl], .agg #[.int .i64 ch, .int .i64 cl]] w fun e w' => e = .returned (.bool true) ∧ Below w.heap.size w w' := by
  have HT := Lib.hid ht
  have C1 := Lib.hid (fun (W : World) (b c : Nat) (h : Four W b ah al bh bl) => add2_any b c ah al bh bl W h)
  have C2 := Lib.hid (fun (W : World) (b c : Nat) (h : Four W b (aH ah al bh bl) (aL ah al bh bl) ch cl) => add2_any b c (aH ah al bh bl) (aL ah al bh bl) ch cl W h)
  have C3 := Lib.hid (fun (W : World) (b c : Nat) (h : Four W b bh bl ch cl) => add2_any b c bh bl ch cl W h)
  have C4 := Lib.hid (fun (W : World) (b c : Nat) (h : Four W b ah al (aH bh bl ch cl) (aL bh bl ch cl)) => add2_any b c ah al (aH bh bl ch cl) (aL bh bl ch cl) W h)
  have C5 := Lib.hid (fun (W : World) (b c : Nat) (h : Four W b bh bl ah al) => (by
    have q := add2_any b c bh bl ah al W h
    rw [(aE_turn ah al bh bl).1, (aE_turn ah al bh bl).2.1, (aE_turn ah al bh bl).2.2] at q
    exact q : Calls Tryd.prog 11 #[.slice (some ⟨b, 0, none⟩) 2 c] W fun e w' => e = .returned (.tuple #[.agg #[.int .i64 (aH ah al bh bl), .int .i64 (aL ah al bh bl)], .int .i64 (aE ah al bh bl)]) ∧ Below W.heap.size W w'))
  have C6 := Lib.hid (fun (W : World) => neg_any ah al W)
  have C7 := Lib.hid (fun (W : World) (b c : Nat) (h : Four W b ah al (nH ah al) (nL ah al)) => add2_any b c ah al (nH ah al) (nL ah al) W h)
  have C8 := Lib.hid (fun (W : World) => neg_any (nH ah al) (nL ah al) W)
  have EA := Lib.hid (@aE_assoc ah al bh bl ch cl)
  have EN := Lib.hid (@neg_facts ah al)
  have E3 := Lib.hid (nE_three ah al)
  clear ht
  generalize aH (aH ah al bh bl) (aL ah al bh bl) ch cl = x2h at *
  generalize aL (aH ah al bh bl) (aL ah al bh bl) ch cl = x2l at *
  generalize aE (aH ah al bh bl) (aL ah al bh bl) ch cl = ef at *
  generalize aH ah al (aH bh bl ch cl) (aL bh bl ch cl) = y2h at *
  generalize aL ah al (aH bh bl ch cl) (aL bh bl ch cl) = y2l at *
  generalize aE ah al (aH bh bl ch cl) (aL bh bl ch cl) = eh at *
  generalize aH ah al bh bl = x1h at *
  generalize aL ah al bh bl = x1l at *
  generalize aE ah al bh bl = ee at *
  generalize aH bh bl ch cl = y1h at *
  generalize aL bh bl ch cl = y1l at *
  generalize aE bh bl ch cl = eg at *
  generalize aH ah al (nH ah al) (nL ah al) = oh at *
  generalize aL ah al (nH ah al) (nL ah al) = ol at *
  generalize aE ah al (nH ah al) (nL ah al) = eo at *
  generalize nH (nH ah al) (nL ah al) = ph at *
  generalize nL (nH ah al) (nL ah al) = pl at *
  generalize nE (nH ah al) (nL ah al) = ep at *
  generalize nH ah al = nh at *
  generalize nL ah al = nl at *
  generalize nE ah al = en at *
  go_enter Tryd.func5, Tryd.ntmps5
  go_wp2_with fail
  (refine (C1.out _ _ _ ?hq).mono ?_; (case hq => exact ⟨by simp [go_sem], by simp [go_sem], by simp [go_sem], by simp [go_sem]⟩); rintro e w1 ⟨rfl, hb1⟩; have hB1 : Below w.heap.size w w1 := (by refine Below.trans ?_ (hb1.mono (by first | omega | (simp; done) | (simp; omega))); (repeat (first | exact Below.refl _ _ | assumption | refine Below.drew ?_ | refine below_drewN ?_ _ | refine Below.setCell ?_ (by first | omega | (simp; done) | (simp; omega)) _ | refine Below.alloc ?_ (by first | omega | (simp; done) | (simp; omega)) _))); have hsz1 : w.heap.size ≤ w1.heap.size := hB1.size)
  have a0 : w1.cell? ⟨w.heap.size, 0, none⟩ = some (.int .i64 ah) := keepc hb1 (keepa (keepa (keepa (by simp))))
  have a1 : w1.cell? ⟨w.heap.size, 1, none⟩ = some (.int .i64 al) := keepc hb1 (keepa (keepa (keepa (by simp))))
  have b0 : w1.cell? ⟨w.heap.size + 1, 0, none⟩ = some (.int .i64 bh) := keepc hb1 (keepa (keepa (by simp [go_sem])))
  have b1 : w1.cell? ⟨w.heap.size + 1, 1, none⟩ = some (.int .i64 bl) := keepc hb1 (keepa (keepa (by simp [go_sem])))
  have c0 : w1.cell? ⟨w.heap.size + 1 + 1, 0, none⟩ = some (.int .i64 ch) := keepc hb1 (keepa (by simp [go_sem]))
  have c1 : w1.cell? ⟨w.heap.size + 1 + 1, 1, none⟩ = some (.int .i64 cl) := keepc hb1 (keepa (by simp [go_sem]))
  have gX : w.heap.size + 1 + 1 < w1.heap.size := cell_lt c0
  (replace a0 := keepa (o := .cells #[.int .i64 x1h, .int .i64 x1l] 24) a0; replace a1 := keepa (o := .cells #[.int .i64 x1h, .int .i64 x1l] 24) a1; replace b0 := keepa (o := .cells #[.int .i64 x1h, .int .i64 x1l] 24) b0; replace b1 := keepa (o := .cells #[.int .i64 x1h, .int .i64 x1l] 24) b1; replace c0 := keepa (o := .cells #[.int .i64 x1h, .int .i64 x1l] 24) c0; replace c1 := keepa (o := .cells #[.int .i64 x1h, .int .i64 x1l] 24) c1)
  go_wp2_with fail
  (refine (C2.out _ _ _ ?hq).mono ?_; (case hq => exact ⟨by simp [go_sem], by simp [go_sem], by simp [go_sem], by simp [go_sem]⟩); rintro e w2 ⟨rfl, hb2⟩; have hB2 : Below w.heap.size w w2 := (by refine Below.trans ?_ (hb2.mono (by first | omega | (simp; done) | (simp; omega))); (repeat (first | exact Below.refl _ _ | assumption | refine Below.drew ?_ | refine below_drewN ?_ _ | refine Below.setCell ?_ (by first | omega | (simp; done) | (simp; omega)) _ | refine Below.alloc ?_ (by first | omega | (simp; done) | (simp; omega)) _))); have hsz2 : w.heap.size ≤ w2.heap.size := hB2.size; replace a0 := keepc hb2 (by first | exact a0 | exact keepa a0 | exact keepa (keepa a0) | (simp [go_sem, *]; done)); replace a1 := keepc hb2 (by first | exact a1 | exact keepa a1 | exact keepa (keepa a1) | (simp [go_sem, *]; done)); replace b0 := keepc hb2 (by first | exact b0 | exact keepa b0 | exact keepa (keepa b0) | (simp [go_sem, *]; done)); replace b1 := keepc hb2 (by first | exact b1 | exact keepa b1 | exact keepa (keepa b1) | (simp [go_sem, *]; done)); replace c0 := keepc hb2 (by first | exact c0 | exact keepa c0 | exact keepa (keepa c0) | (simp [go_sem, *]; done)); replace c1 := keepc hb2 (by first | exact c1 | exact keepa c1 | exact keepa (keepa c1) | (simp [go_sem, *]; done)))
  have x0 : w2.cell? ⟨w1.heap.size, 0, none⟩ = some (.int .i64 x1h) := keepc hb2 (keepa (by simp))
  have x1 : w2.cell? ⟨w1.heap.size, 1, none⟩ = some (.int .i64 x1l) := keepc hb2 (keepa (by simp))
  have fx : ∀ o, w2.frozen? ⟨w1.heap.size, o, none⟩ = false := fun o => (hb2.frozen (p := ⟨w1.heap.size, o, none⟩) (by simp; omega)).trans (by simp [go_sem])
  have B2 : Below w.heap.size w ((w2.setCell ⟨w1.heap.size, 0, none⟩ (.int .i64 x2h)).setCell ⟨w1.heap.size, 1, none⟩ (.int .i64 x2l)) := (hB2.setCell (p := ⟨w1.heap.size, 0, none⟩) hsz1 _).setCell (p := ⟨w1.heap.size, 1, none⟩) hsz1 _
  generalize w1.heap.size = X at *
  replace a0 := set2_other (u := .int .i64 x2h) (v := .int .i64 x2l) (G := X) a0 (by omega)
  replace a1 := set2_other (u := .int .i64 x2h) (v := .int .i64 x2l) (G := X) a1 (by omega)
  replace b0 := set2_other (u := .int .i64 x2h) (v := .int .i64 x2l) (G := X) b0 (by omega)
  replace b1 := set2_other (u := .int .i64 x2h) (v := .int .i64 x2l) (G := X) b1 (by omega)
  replace c0 := set2_other (u := .int .i64 x2h) (v := .int .i64 x2l) (G := X) c0 (by omega)
  replace c1 := set2_other (u := .int .i64 x2h) (v := .int .i64 x2l) (G := X) c1 (by omega)
  have x2 := set2_fst (u := .int .i64 x2h) (v := .int .i64 x2l) x0
  have x3 := set2_snd (u := .int .i64 x2h) (v := .int .i64 x2l) x1
  clear hB1 hb1 hb2 hB2
  go_wp2_with fail
  (refine (C3.out _ _ _ ?hq).mono ?_; (case hq => exact ⟨by simp [go_sem], by simp [go_sem], by simp [go_sem], by simp [go_sem]⟩); rintro e w3 ⟨rfl, hb3⟩; have hB3 : Below w.heap.size w w3 := (by refine Below.trans ?_ (hb3.mono (by first | omega | (simp; done) | (simp; omega))); (repeat (first | exact Below.refl _ _ | assumption | refine Below.drew ?_ | refine below_drewN ?_ _ | refine Below.setCell ?_ (by first | omega | (simp; done) | (simp; omega)) _ | refine Below.alloc ?_ (by first | omega | (simp; done) | (simp; omega)) _))); have hsz3 : w.heap.size ≤ w3.heap.size := hB3.size; replace a0 := keepc hb3 (by first | exact a0 | exact keepa a0 | exact keepa (keepa a0) | (simp [go_sem, *]; done)); replace a1 := keepc hb3 (by first | exact a1 | exact keepa a1 | exact keepa (keepa a1) | (simp [go_sem, *]; done)); replace b0 := keepc hb3 (by first | exact b0 | exact keepa b0 | exact keepa (keepa b0) | (simp [go_sem, *]; done)); replace b1 := keepc hb3 (by first | exact b1 | exact keepa b1 | exact keepa (keepa b1) | (simp [go_sem, *]; done)); replace x2 := keepc hb3 (by first | exact x2 | exact keepa x2 | exact keepa (keepa x2) | (simp [go_sem, *]; done)); replace x3 := keepc hb3 (by first | exact x3 | exact keepa x3 | exact keepa (keepa x3) | (simp [go_sem, *]; done)))
  have gY : X < w3.heap.size := cell_lt x2
  (replace a0 := keepa (o := .cells #[.int .i64 y1h, .int .i64 y1l] 24) a0; replace a1 := keepa (o := .cells #[.int .i64 y1h, .int .i64 y1l] 24) a1; replace b0 := keepa (o := .cells #[.int .i64 y1h, .int .i64 y1l] 24) b0; replace b1 := keepa (o := .cells #[.int .i64 y1h, .int .i64 y1l] 24) b1; replace x2 := keepa (o := .cells #[.int .i64 y1h, .int .i64 y1l] 24) x2; replace x3 := keepa (o := .cells #[.int .i64 y1h, .int .i64 y1l] 24) x3)
  go_wp2_with fail
  (refine (C4.out _ _ _ ?hq).mono ?_; (case hq => exact ⟨by simp [go_sem], by simp [go_sem], by simp [go_sem], by simp [go_sem]⟩); rintro e w4 ⟨rfl, hb4⟩; have hB4 : Below w.heap.size w w4 := (by refine Below.trans ?_ (hb4.mono (by first | omega | (simp; done) | (simp; omega))); (repeat (first | exact Below.refl _ _ | assumption | refine Below.drew ?_ | refine below_drewN ?_ _ | refine Below.setCell ?_ (by first | omega | (simp; done) | (simp; omega)) _ | refine Below.alloc ?_ (by first | omega | (simp; done) | (simp; omega)) _))); have hsz4 : w.heap.size ≤ w4.heap.size := hB4.size; replace a0 := keepc hb4 (by first | exact a0 | exact keepa a0 | exact keepa (keepa a0) | (simp [go_sem, *]; done)); replace a1 := keepc hb4 (by first | exact a1 | exact keepa a1 | exact keepa (keepa a1) | (simp [go_sem, *]; done)); replace b0 := keepc hb4 (by first | exact b0 | exact keepa b0 | exact keepa (keepa b0) | (simp [go_sem, *]; done)); replace b1 := keepc hb4 (by first | exact b1 | exact keepa b1 | exact keepa (keepa b1) | (simp [go_sem, *]; done)); replace x2 := keepc hb4 (by first | exact x2 | exact keepa x2 | exact keepa (keepa x2) | (simp [go_sem, *]; done)); replace x3 := keepc hb4 (by first | exact x3 | exact keepa x3 | exact keepa (keepa x3) | (simp [go_sem, *]; done)))
  have y0 : w4.cell? ⟨w3.heap.size, 0, none⟩ = some (.int .i64 y1h) := keepc hb4 (keepa (by simp))
  have y1 : w4.cell? ⟨w3.heap.size, 1, none⟩ = some (.int .i64 y1l) := keepc hb4 (keepa (by simp))
  have fy : ∀ o, w4.frozen? ⟨w3.heap.size, o, none⟩ = false := fun o => (hb4.frozen (p := ⟨w3.heap.size, o, none⟩) (by simp; omega)).trans (by simp [go_sem])
  have B4 : Below w.heap.size w ((w4.setCell ⟨w3.heap.size, 0, none⟩ (.int .i64 y2h)).setCell ⟨w3.heap.size, 1, none⟩ (.int .i64 y2l)) := (hB4.setCell (p := ⟨w3.heap.size, 0, none⟩) hsz3 _).setCell (p := ⟨w3.heap.size, 1, none⟩) hsz3 _
  have sY : w.heap.size + 1 + 1 < w3.heap.size := by omega
  generalize w3.heap.size = Y at *
  replace a0 := set2_other (u := .int .i64 y2h) (v := .int .i64 y2l) (G := Y) a0 (by omega)
  replace a1 := set2_other (u := .int .i64 y2h) (v := .int .i64 y2l) (G := Y) a1 (by omega)
  replace b0 := set2_other (u := .int .i64 y2h) (v := .int .i64 y2l) (G := Y) b0 (by omega)
  replace b1 := set2_other (u := .int .i64 y2h) (v := .int .i64 y2l) (G := Y) b1 (by omega)
  replace x2 := set2_other (u := .int .i64 y2h) (v := .int .i64 y2l) (G := Y) x2 (by omega)
  replace x3 := set2_other (u := .int .i64 y2h) (v := .int .i64 y2l) (G := Y) x3 (by omega)
  have y2 := set2_fst (u := .int .i64 y2h) (v := .int .i64 y2l) y0
  have y3 := set2_snd (u := .int .i64 y2h) (v := .int .i64 y2l) y1
  clear hB3 hb3 hb4 hB4 B2 x0 x1 fx
  go_wp2_with fail
  (refine (C5.out _ _ _ ?hq).mono ?_; (case hq => exact ⟨by simp [go_sem], by simp [go_sem], by simp [go_sem], by simp [go_sem]⟩); rintro e w5 ⟨rfl, hb5⟩; have hB5 : Below w.heap.size w w5 := (by refine Below.trans ?_ (hb5.mono (by first | omega | (simp; done) | (simp; omega))); (repeat (first | exact Below.refl _ _ | assumption | refine Below.drew ?_ | refine below_drewN ?_ _ | refine Below.setCell ?_ (by first | omega | (simp; done) | (simp; omega)) _ | refine Below.alloc ?_ (by first | omega | (simp; done) | (simp; omega)) _))); have hsz5 : w.heap.size ≤ w5.heap.size := hB5.size; replace a0 := keepc hb5 (by first | exact a0 | exact keepa a0 | exact keepa (keepa a0) | (simp [go_sem, *]; done)); replace a1 := keepc hb5 (by first | exact a1 | exact keepa a1 | exact keepa (keepa a1) | (simp [go_sem, *]; done)); replace b0 := keepc hb5 (by first | exact b0 | exact keepa b0 | exact keepa (keepa b0) | (simp [go_sem, *]; done)); replace b1 := keepc hb5 (by first | exact b1 | exact keepa b1 | exact keepa (keepa b1) | (simp [go_sem, *]; done)); replace x2 := keepc hb5 (by first | exact x2 | exact keepa x2 | exact keepa (keepa x2) | (simp [go_sem, *]; done)); replace x3 := keepc hb5 (by first | exact x3 | exact keepa x3 | exact keepa (keepa x3) | (simp [go_sem, *]; done)); replace y2 := keepc hb5 (by first | exact y2 | exact keepa y2 | exact keepa (keepa y2) | (simp [go_sem, *]; done)); replace y3 := keepc hb5 (by first | exact y3 | exact keepa y3 | exact keepa (keepa y3) | (simp [go_sem, *]; done)))
  (replace a0 := keepa (o := .cells #[.int .i64 x1h, .int .i64 x1l] 24) a0; replace a1 := keepa (o := .cells #[.int .i64 x1h, .int .i64 x1l] 24) a1; replace b0 := keepa (o := .cells #[.int .i64 x1h, .int .i64 x1l] 24) b0; replace b1 := keepa (o := .cells #[.int .i64 x1h, .int .i64 x1l] 24) b1; replace x2 := keepa (o := .cells #[.int .i64 x1h, .int .i64 x1l] 24) x2; replace x3 := keepa (o := .cells #[.int .i64 x1h, .int .i64 x1l] 24) x3; replace y2 := keepa (o := .cells #[.int .i64 x1h, .int .i64 x1l] 24) y2; replace y3 := keepa (o := .cells #[.int .i64 x1h, .int .i64 x1l] 24) y3)
  go_wp2_with fail
  (refine (C1.out _ _ _ ?hq).mono ?_; (case hq => exact ⟨by simp [go_sem], by simp [go_sem], by simp [go_sem], by simp [go_sem]⟩); rintro e w6 ⟨rfl, hb6⟩; have hB6 : Below w.heap.size w w6 := (by refine Below.trans ?_ (hb6.mono (by first | omega | (simp; done) | (simp; omega))); (repeat (first | exact Below.refl _ _ | assumption | refine Below.drew ?_ | refine below_drewN ?_ _ | refine Below.setCell ?_ (by first | omega | (simp; done) | (simp; omega)) _ | refine Below.alloc ?_ (by first | omega | (simp; done) | (simp; omega)) _))); have hsz6 : w.heap.size ≤ w6.heap.size := hB6.size; replace a0 := keepc hb6 (by first | exact a0 | exact keepa a0 | exact keepa (keepa a0) | (simp [go_sem, *]; done)); replace a1 := keepc hb6 (by first | exact a1 | exact keepa a1 | exact keepa (keepa a1) | (simp [go_sem, *]; done)); replace x2 := keepc hb6 (by first | exact x2 | exact keepa x2 | exact keepa (keepa x2) | (simp [go_sem, *]; done)); replace x3 := keepc hb6 (by first | exact x3 | exact keepa x3 | exact keepa (keepa x3) | (simp [go_sem, *]; done)); replace y2 := keepc hb6 (by first | exact y2 | exact keepa y2 | exact keepa (keepa y2) | (simp [go_sem, *]; done)); replace y3 := keepc hb6 (by first | exact y3 | exact keepa y3 | exact keepa (keepa y3) | (simp [go_sem, *]; done)))
  have z0 : w6.cell? ⟨w5.heap.size, 0, none⟩ = some (.int .i64 x1h) := keepc hb6 (keepa (by simp))
  have z1 : w6.cell? ⟨w5.heap.size, 1, none⟩ = some (.int .i64 x1l) := keepc hb6 (keepa (by simp))
  (replace a0 := keepa (o := .cells #[.int .i64 x1h, .int .i64 x1l] 24) a0; replace a1 := keepa (o := .cells #[.int .i64 x1h, .int .i64 x1l] 24) a1; replace x2 := keepa (o := .cells #[.int .i64 x1h, .int .i64 x1l] 24) x2; replace x3 := keepa (o := .cells #[.int .i64 x1h, .int .i64 x1l] 24) x3; replace y2 := keepa (o := .cells #[.int .i64 x1h, .int .i64 x1l] 24) y2; replace y3 := keepa (o := .cells #[.int .i64 x1h, .int .i64 x1l] 24) y3; replace z0 := keepa (o := .cells #[.int .i64 x1h, .int .i64 x1l] 24) z0; replace z1 := keepa (o := .cells #[.int .i64 x1h, .int .i64 x1l] 24) z1)
  have B6 : Below w.heap.size w (w6.alloc (.cells #[.int .i64 x1h, .int .i64 x1l] 24)) := hB6.alloc hsz6 _
  go_upto_region 9 with fail
  generalize (w6.alloc (.cells #[.int .i64 x1h, .int .i64 x1l] 24)) = V at *
  have HB6 := Lib.hid B6
  clear hB5 hB6 hb5 hb6 B6 B4 y0 y1 fy z0 z1 hsz1 hsz2 hsz3 hsz4 hsz5 hsz6 gX gY sY
  go_cut [91] (fun s W => s = .bool false ∧ Below w.heap.size w W ∧ W.cell? ⟨w.heap.size, 0, none⟩ = some (.int .i64 ah) ∧ W.cell? ⟨w.heap.size, 1, none⟩ = some (.int .i64 al))
  case first =>
    by_cases h1 : ee = 0
    · by_cases h2 : ef = 0
      · by_cases h3 : eg = 0
        · by_cases h4 : eh = 0
          · obtain ⟨q1, q2⟩ := EA.out h1 h2 h3 h4
            subst h1 h2 h3 h4 q1 q2
            go_wp2_with fail
            go_meet
            exact ⟨rfl, HB6.out, a0, a1⟩
          · have d : (eh == 0) = false := by rw [beq_eq_false_iff_ne]; exact h4
            subst h1 h2 h3
            clear h4
            go_wp2_with fail
            go_meet
            exact ⟨rfl, HB6.out, a0, a1⟩
        · have d : (eg == 0) = false := by rw [beq_eq_false_iff_ne]; exact h3
          subst h1 h2
          clear h3
          go_wp2_with fail
          go_meet
          exact ⟨rfl, HB6.out, a0, a1⟩
      · have d : (ef == 0) = false := by rw [beq_eq_false_iff_ne]; exact h2
        subst h1
        clear h2
        go_wp2_with fail
        go_meet
        exact ⟨rfl, HB6.out, a0, a1⟩
    · have d : (ee == 0) = false := by rw [beq_eq_false_iff_ne]; exact h1
      clear h1
      go_wp2_with fail
      go_meet
      exact ⟨rfl, HB6.out, a0, a1⟩
  case rest =>
    clear a0 a1 b0 b1 x2 x3 y2 y3 HB6 C1 C2 C3 C4 C5 EA
    obtain ⟨rfl, hB, a0, a1⟩ := hcut
    have HB := Lib.hid hB
    have hszc : w.heap.size ≤ wc.heap.size := hB.size
    clear hB
    go_wp2_with fail
    refine (C6.out _).mono ?_
    rintro e w7 ⟨rfl, hb⟩
    have hB7 : Below w.heap.size w w7 := HB.out.trans (hb.mono hszc)
    have hsz7 : w.heap.size ≤ w7.heap.size := hB7.size
    replace a0 := keepc hb a0
    replace a1 := keepc hb a1
    clear hb
    (replace a0 := keepa (o := .cells #[.int .i64 nh, .int .i64 nl] 24) a0; replace a1 := keepa (o := .cells #[.int .i64 nh, .int .i64 nl] 24) a1)
    go_wp2_with fail
    (refine (C7.out _ _ _ ?hq).mono ?_; (case hq => exact ⟨by simp [go_sem], by simp [go_sem], by simp [go_sem], by simp [go_sem]⟩); rintro e w8 ⟨rfl, hb8⟩; have hB8 : Below w.heap.size w w8 := (by refine Below.trans ?_ (hb8.mono (by first | omega | (simp; done) | (simp; omega))); (repeat (first | exact Below.refl _ _ | assumption | refine Below.drew ?_ | refine below_drewN ?_ _ | refine Below.setCell ?_ (by first | omega | (simp; done) | (simp; omega)) _ | refine Below.alloc ?_ (by first | omega | (simp; done) | (simp; omega)) _))); have hsz8 : w.heap.size ≤ w8.heap.size := hB8.size; replace a0 := keepc hb8 (by first | exact a0 | exact keepa a0 | exact keepa (keepa a0) | (simp [go_sem, *]; done)); replace a1 := keepc hb8 (by first | exact a1 | exact keepa a1 | exact keepa (keepa a1) | (simp [go_sem, *]; done)))
    have n0 : w8.cell? ⟨w7.heap.size, 0, none⟩ = some (.int .i64 nh) := keepc hb8 (keepa (by simp))
    have n1 : w8.cell? ⟨w7.heap.size, 1, none⟩ = some (.int .i64 nl) := keepc hb8 (keepa (by simp))
    have o0 : (w8.alloc (.cells #[.int .i64 oh, .int .i64 ol] 24)).cell? ⟨w8.heap.size, 0, none⟩ = some (.int .i64 oh) := by simp
    have o1 : (w8.alloc (.cells #[.int .i64 oh, .int .i64 ol] 24)).cell? ⟨w8.heap.size, 1, none⟩ = some (.int .i64 ol) := by simp
    (replace a0 := keepa (o := .cells #[.int .i64 oh, .int .i64 ol] 24) a0; replace a1 := keepa (o := .cells #[.int .i64 oh, .int .i64 ol] 24) a1; replace n0 := keepa (o := .cells #[.int .i64 oh, .int .i64 ol] 24) n0; replace n1 := keepa (o := .cells #[.int .i64 oh, .int .i64 ol] 24) n1)
    go_wp2_with fail
    (refine (C8.out _).mono ?_; rintro e w9 ⟨rfl, hb9⟩; have hB9 : Below w.heap.size w w9 := (by refine Below.trans ?_ (hb9.mono (by first | omega | (simp; done) | (simp; omega))); (repeat (first | exact Below.refl _ _ | assumption | refine Below.drew ?_ | refine below_drewN ?_ _ | refine Below.setCell ?_ (by first | omega | (simp; done) | (simp; omega)) _ | refine Below.alloc ?_ (by first | omega | (simp; done) | (simp; omega)) _))); have hsz9 : w.heap.size ≤ w9.heap.size := hB9.size; replace a0 := keepc hb9 (by first | exact a0 | exact keepa a0 | exact keepa (keepa a0) | (simp [go_sem, *]; done)); replace a1 := keepc hb9 (by first | exact a1 | exact keepa a1 | exact keepa (keepa a1) | (simp [go_sem, *]; done)); replace o0 := keepc hb9 (by first | exact o0 | exact keepa o0 | exact keepa (keepa o0) | (simp [go_sem, *]; done)); replace o1 := keepc hb9 (by first | exact o1 | exact keepa o1 | exact keepa (keepa o1) | (simp [go_sem, *]; done)))
    have p0 : (w9.alloc (.cells #[.int .i64 ph, .int .i64 pl] 24)).cell? ⟨w9.heap.size, 0, none⟩ = some (.int .i64 ph) := by simp
    have p1 : (w9.alloc (.cells #[.int .i64 ph, .int .i64 pl] 24)).cell? ⟨w9.heap.size, 1, none⟩ = some (.int .i64 pl) := by simp
    (replace a0 := keepa (o := .cells #[.int .i64 ph, .int .i64 pl] 24) a0; replace a1 := keepa (o := .cells #[.int .i64 ph, .int .i64 pl] 24) a1; replace o0 := keepa (o := .cells #[.int .i64 ph, .int .i64 pl] 24) o0; replace o1 := keepa (o := .cells #[.int .i64 ph, .int .i64 pl] 24) o1)
    have B9 : Below w.heap.size w (w9.alloc (.cells #[.int .i64 ph, .int .i64 pl] 24)) := hB9.alloc hsz9 _
    go_upto_region 14 with fail
    generalize (w9.alloc (.cells #[.int .i64 ph, .int .i64 pl] 24)) = V9 at *
    have HB9 := Lib.hid B9
    clear hB7 hB8 hB9 hb8 hb9 B9 n0 n1 C6 C7 C8
    by_cases hn : en = 0
    · obtain ⟨q1, q2, q3, q4, q5, q6⟩ := EN.out hn
      subst hn q1 q2 q3 q4 q5 q6
      go_region_held3 (fun W => Below w.heap.size w W ∧ W.cell? ⟨w.heap.size, 0, none⟩ = some (.int .i64 ph) ∧ W.cell? ⟨w.heap.size, 1, none⟩ = some (.int .i64 pl) ∧ W.cell? ⟨w8.heap.size, 0, none⟩ = some (.int .i64 0) ∧ W.cell? ⟨w8.heap.size, 1, none⟩ = some (.int .i64 0) ∧ W.cell? ⟨w9.heap.size, 0, none⟩ = some (.int .i64 ph) ∧ W.cell? ⟨w9.heap.size, 1, none⟩ = some (.int .i64 pl))
        (first | exact ⟨HB9.out.drew, a0, a1, o0, o1, p0, p1⟩ | (go_split_ands; exact ⟨Below.trans (by assumption) (hb.mono (Below.size (by assumption))), keepc hb (by assumption), keepc hb (by assumption), keepc hb (by assumption), keepc hb (by assumption), keepc hb (by assumption), keepc hb (by assumption)⟩))
        (first
          | (go_at_call 17; refine (widened_any _ ?_).mono ?_; (go_split_ands; exact HT.out.below (by assumption)); rintro e w7 ⟨rfl, hb⟩)
          | (go_at_call 18; refine (of_any 0 _ (by omega) (by omega)).mono ?_; rintro e w7 ⟨rfl, hb⟩))
      go_wp2
      go_ret
      go_split_ands
      exact ⟨rfl, by assumption⟩
    · have h14 : en = 1 ∨ en = 4 := by
        rcases E3.out with h | h
        · exact absurd h hn
        · exact h
      clear hn EN E3
      have d14 : (en != 0) = true := by rw [bne_iff_ne]; omega
      clear h14
      have st : Stays (fun W => Below w.heap.size w W) := fun W W' h hb => h.trans (hb.mono h.size)
      have ne : Nonempty (Of (fun W => Below w.heap.size w W)) := ⟨⟨_, HB9.out⟩⟩
      refine wp_region_class (S := fun W => Below w.heap.size w W) (by kernel_rfl) (by kernel_rfl) HB9.out.drew ?_
      have ST := Lib.hid st
      clear st a0 a1 o0 o1 p0 p1
      repeat (go_big_quiet_step (first | (go_at_call 17; exact class_call ST.out _ (widened_any _ (HT.out.below (Of.holds _))))))
      refine wpQuiet_nil ?_
      rintro _ ⟨d, rfl⟩
      have HD := Lib.hid d.holds
      go_wp2
      go_ret
      exact ⟨rfl, HD.out⟩
end Go.Proofs.YtkgednbgafhcaaaDoor
