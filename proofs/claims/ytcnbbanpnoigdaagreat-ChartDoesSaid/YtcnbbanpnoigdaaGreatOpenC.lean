import Derived.Test.YtcnbbanpnoigdaaGreatHo
import Derived.Test.YtcnbbanpnoigdaaGreatHi
namespace Go.Proofs.YtcnbbanpnoigdaaGreat
open Go.ChangeShapes Go.WideShapes Go.ChangeAt Go.RowKit Go.Joins Go.Deep

section
variable {H : Type} {enc : TypeId × Value → H} {W : World}
set_option maxRecDepth 100000 in
theorem open_chart {r : Reach} {base : Nat} {v : Value} {d : DataW H} {ps : List MemPlace} (hval : Value.okWide Tryz.prog W r base 29 v) (hd : DataW.Trod enc Tryz.prog W 0 (fun _ => true) true 29 v d ps) :
  ∃ (x y : Int) (a : Option Addr) (m c : Nat) (l : List Int), v = .agg #[.int .i64 x, .int .i64 y, .slice a m c] ∧ (a = none → m = 0 ∧ c = 0) ∧ m ≤ c ∧ c ≤ 9223372036854775807 ∧ RowI W a m l ∧
   (-9223372036854775808 ≤ x ∧ x ≤ 9223372036854775807) ∧ (-9223372036854775808 ≤ y ∧ y ≤ 9223372036854775807) ∧ ∀ z ∈ l, -9223372036854775808 ≤ z ∧ z ≤ 9223372036854775807 := by
 obtain ⟨cs, rfl, hsz⟩ := okWide_struct Tryz.underlying29 hval;obtain ⟨l⟩ := cs;obtain ⟨v1, v2, v3, rfl⟩ := list3 (l := l) (hsz.trans (show Tryz.prog.cellsOf 29 = 3 by kernel_rfl));obtain ⟨fuel, hf⟩ := hd;obtain ⟨y1, y2, y3, n', _, _, h1, h2, h3⟩ := trod_struct3 Tryz.underlying29 hf;have k1 : DataW.trod enc Tryz.prog W 0 (fun _ => true) true n' 3 [v1] = some y1 := h1;have k2 : DataW.trod enc Tryz.prog W 0 (fun _ => true) true n' 3 [v2] = some y2 := h2;have k3 : DataW.trod enc Tryz.prog W 0 (fun _ => true) true n' 27 [v3] = some y3 := h3;obtain ⟨x, ex, _, wx⟩ := DataW.trod_int Tryz.underlying3 k1;obtain ⟨z, ez, _, wz⟩ := DataW.trod_int Tryz.underlying3 k2
 simp at ex ez
 subst ex;subst ez;obtain ⟨t, m, c, l, rfl, e1, e2, e3, e4, e5⟩ := ints_cell k3
 exact ⟨x, z, t, m, c, l, rfl, e1, e2, e3, e4, bounds_i64 wx, bounds_i64 wz, e5⟩
set_option maxRecDepth 100000 in
theorem open_charts {r : Reach} {base : Nat} {v : Value} {d : DataW H} {ps : List MemPlace} (hval : Value.okWide Tryz.prog W r base 30 v) (hd : DataW.Trod enc Tryz.prog W 0 (fun _ => true) true 30 v d ps) :
  ∃ (a : Option Addr) (n c : Nat) (L : List (Int × Int × List Int)), v = .slice a n c ∧ (a = none → n = 0 ∧ c = 0) ∧ n ≤ c ∧ c ≤ 9223372036854775807 ∧ RowC W a n L ∧
   ∀ e ∈ L, (-9223372036854775808 ≤ e.1 ∧ e.1 ≤ 9223372036854775807) ∧ (-9223372036854775808 ≤ e.2.1 ∧ e.2.1 ≤ 9223372036854775807) ∧ ∀ x ∈ e.2.2, -9223372036854775808 ≤ x ∧ x ≤ 9223372036854775807 := by
 obtain ⟨a, len, cap, rfl⟩ := okWide_slice Tryz.underlying30 hval;obtain ⟨fuel, hf⟩ := hd
 rcases open_slice Tryz.underlying30 hf with ⟨hcs, hx⟩ | ⟨a', len', cap', m, n, D, Pl, hcs, _, hl, hm, hmm, hx, hi⟩
 ·simp [Value.cells] at hcs
  obtain ⟨rfl, rfl, rfl⟩ := hcs
  exact ⟨none, 0, 0, [], rfl, (fun _ => ⟨rfl, rfl⟩), Nat.le_refl _, by omega, ⟨rfl, .inl rfl⟩, fun e he => by cases he⟩
 ·simp [Value.cells] at hcs
  obtain ⟨rfl, rfl, rfl⟩ := hcs
  simp only [if_true] at hmm
  subst hmm
  have hC : Tryz.prog.cellsOf 29 = 3 := by kernel_rfl
  have hcell : ∀ i, i < len → ∃ E : Int × Int × List Int, W.cell? (a'.add (i * 3)) = some (.int .i64 E.1) ∧ W.cell? (a'.add (i * 3 + 1)) = some (.int .i64 E.2.1) ∧ (∃ t m c, W.cell? (a'.add (i * 3 + 2)) = some (.slice t m c) ∧ RowI W t m E.2.2 ∧ (t = none → m = 0 ∧ c = 0) ∧ m ≤ c ∧ c ≤ 9223372036854775807) ∧
    (-9223372036854775808 ≤ E.1 ∧ E.1 ≤ 9223372036854775807) ∧ (-9223372036854775808 ≤ E.2.1 ∧ E.2.1 ≤ 9223372036854775807) ∧ ∀ x ∈ E.2.2, -9223372036854775808 ≤ x ∧ x ≤ 9223372036854775807 := by
   intro i hil
   obtain ⟨cs', hc, ht'⟩ := hi i (by omega);rw [hC] at hc;obtain ⟨_, hcl, hat⟩ := World.cells?_some hc;obtain ⟨v1, v2, v3, rfl⟩ := list3 hcl;obtain ⟨y1, y2, y3, n', _, _, h1, h2, h3⟩ := trod_struct3 Tryz.underlying29 ht';have k1 : DataW.trod enc Tryz.prog W 0 (fun _ => true) true n' 3 [v1] = some y1 := h1;have k2 : DataW.trod enc Tryz.prog W 0 (fun _ => true) true n' 3 [v2] = some y2 := h2;have k3 : DataW.trod enc Tryz.prog W 0 (fun _ => true) true n' 27 [v3] = some y3 := h3;obtain ⟨x, ex, _, wx⟩ := DataW.trod_int Tryz.underlying3 k1;obtain ⟨z, ez, _, wz⟩ := DataW.trod_int Tryz.underlying3 k2
   simp at ex ez
   subst ex;subst ez;obtain ⟨t, m, c, l, rfl, e1, e2, e3, e4, e5⟩ := ints_cell k3;have q0 := hat 0 (by omega);have q1 := hat 1 (by omega);have q2 := hat 2 (by omega);rw [Go.Deep.add_add] at q0 q1 q2
   exact ⟨(x, z, l), q0, q1, ⟨t, m, c, q2, e4, e1, e2, e3⟩, bounds_i64 wx, bounds_i64 wz, e5⟩
  obtain ⟨G, hG⟩ := choose_lt hcell
  refine ⟨some a', len, _, (List.range len).map G, rfl, (fun h => by cases h), hl, by unfold maxLen at hm; omega, ⟨by simp, ?_⟩, fun e he => ?_⟩
  ·rcases Nat.eq_zero_or_pos len with z | z
   ·exact .inl z
   ·have h00 := (hG 0 z).1
    obtain ⟨b, off, spot⟩ := a'
    have hspot : spot = none := by simpa [Addr.add] using World.cell?_spot h00
    subst hspot
    refine .inr ⟨b, off, rfl, ?_, fun i hi' => ?_⟩
    ·have := cell_lt h00; rwa [Go.WideShapes.add_plain] at this
    ·have hil : i < len := by simpa using hi'
     obtain ⟨g0, g1, g2, -⟩ := hG i hil
     simp only [Go.WideShapes.add_plain] at g0 g1 g2
     simp only [List.getElem_map, List.getElem_range]
     exact ⟨g0, g1, g2⟩
  ·obtain ⟨i, hi', rfl⟩ := List.mem_map.1 he
   exact (hG i (List.mem_range.1 hi')).2.2.2
end
end Go.Proofs.YtcnbbanpnoigdaaGreat
