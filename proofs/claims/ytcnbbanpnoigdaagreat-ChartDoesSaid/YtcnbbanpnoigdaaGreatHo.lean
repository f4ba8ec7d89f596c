import Derived.Test.YtcnbbanpnoigdaaGreatHb
import Derived.Test.YtcnbbanpnoigdaaGreatHi
import Derived.Test.YtcnbbanpnoigdaaGreatHg
import Derived.Lib.SmallJoins
import Derived.Test.YtcnbbanpnoigdaaGreatBase
import Derived.ProofKit
import Derived.OpenShut
namespace Go.Proofs.YtcnbbanpnoigdaaGreat
open Go.ChangeShapes Go.WideShapes Go.ChangeAt Go.RowKit Go.Joins

theorem laidOut : laidOutB Tryz.prog = true := by kernel_rfl
theorem fields_int2 {f0 f1 : Field} (h0 : Tryz.prog.underlying f0.type = some (.int .i64) := by kernel_rfl) (h1 : Tryz.prog.underlying f1.type = some (.int .i64) := by kernel_rfl) : ∀ (j : Nat) (f : Field), #[f0, f1][j]? = some f → Tryz.prog.underlying f.type = some (.int .i64) := by
 intro j f h
 rcases j with _ | _ | j
 ·simp at h; subst h; exact h0
 ·simp at h; subst h; exact h1
 ·simp at h
theorem fields_int3 {f0 f1 f2 : Field} (h0 : Tryz.prog.underlying f0.type = some (.int .i64) := by kernel_rfl) (h1 : Tryz.prog.underlying f1.type = some (.int .i64) := by kernel_rfl) (h2 : Tryz.prog.underlying f2.type = some (.int .i64) := by kernel_rfl) : ∀ (j : Nat) (f : Field), #[f0, f1, f2][j]? = some f → Tryz.prog.underlying f.type = some (.int .i64) := by
 intro j f h
 rcases j with _ | _ | _ | j
 ·simp at h; subst h; exact h0
 ·simp at h; subst h; exact h1
 ·simp at h; subst h; exact h2
 ·simp at h
end Go.Proofs.YtcnbbanpnoigdaaGreat
namespace Go.Proofs.YtcnbbanpnoigdaaGreat
open Go.ChangeShapes Go.WideShapes Go.ChangeAt Go.RowKit Go.Joins Go.Deep

theorem list9 {l : List Value} (h : l.length = 9) : ∃ a b c d e f g k m, l = [a, b, c, d, e, f, g, k, m] := by
 match l, h with
 | [a, b, c, d, e, f, g, k, m], _ => exact ⟨a, b, c, d, e, f, g, k, m, rfl⟩
def IntV (v : Value) : Prop := ∃ x : Int, v = .int .i64 x ∧ -9223372036854775808 ≤ x ∧ x ≤ 9223372036854775807
section
variable {H : Type} {enc : TypeId × Value → H} {W : World}
theorem elem_ints {base : Nat} {spare : Nat → Bool} {held : Bool} {e : TypeId} {fs : Array Field} {fuel : Nat} {u v z : Value} {y : DataW H × List MemPlace} (he : Tryz.prog.underlying e = some (.struct fs)) (hone : oneCellFields Tryz.prog fs = true) (hk : fs.size = 3)
  (hint : ∀ (j : Nat) (f : Field), fs[j]? = some f → Tryz.prog.underlying f.type = some (.int .i64)) (h : DataW.trod enc Tryz.prog W base spare held fuel e [u, v, z] = some y) :
  IntV u ∧ IntV v ∧ IntV z := by
 obtain ⟨ys, n', _, _, _, hyl, hfl⟩ := DataW.trod_struct he h
 have h0 : 0 < fs.size := by omega
 have h1 : 1 < fs.size := by omega
 have h2 : 2 < fs.size := by omega
 obtain ⟨o0, k0⟩ := hone_of hone 0 fs[0] (Array.getElem?_eq_getElem h0);obtain ⟨o1, k1⟩ := hone_of hone 1 fs[1] (Array.getElem?_eq_getElem h1);obtain ⟨o2, k2⟩ := hone_of hone 2 fs[2] (Array.getElem?_eq_getElem h2);have e0 := hfl 0 fs[0] (Array.getElem?_eq_getElem h0);have e1 := hfl 1 fs[1] (Array.getElem?_eq_getElem h1);have e2 := hfl 2 fs[2] (Array.getElem?_eq_getElem h2);rw [o0, k0, List.getElem?_eq_getElem (show 0 < ys.length by omega)] at e0;rw [o1, k1, List.getElem?_eq_getElem (show 1 < ys.length by omega)] at e1;rw [o2, k2, List.getElem?_eq_getElem (show 2 < ys.length by omega)] at e2;obtain ⟨a, ea, _, wa⟩ := DataW.trod_int (hint 0 fs[0] (Array.getElem?_eq_getElem h0)) e0;obtain ⟨b, eb, _, wb⟩ := DataW.trod_int (hint 1 fs[1] (Array.getElem?_eq_getElem h1)) e1;obtain ⟨c, ec, _, wc⟩ := DataW.trod_int (hint 2 fs[2] (Array.getElem?_eq_getElem h2)) e2
 simp at ea eb ec
 exact ⟨⟨a, ea, bounds_i64 wa⟩, ⟨b, eb, bounds_i64 wb⟩, ⟨c, ec, bounds_i64 wc⟩⟩
set_option maxRecDepth 100000 in
theorem elem_tri {base : Nat} {spare : Nat → Bool} {held : Bool} {t e : TypeId} {fs : Array Field} {fuel : Nat} {cs : List Value} {y : DataW H × List MemPlace} (ht : Tryz.prog.underlying t = some (.array 3 e)) (he : Tryz.prog.underlying e = some (.struct fs)) (hone : oneCellFields Tryz.prog fs = true) (hk : fs.size = 3)
  (hCe : Tryz.prog.cellsOf e = 3) (hl : cs.length = 9) (hint : ∀ (j : Nat) (f : Field), fs[j]? = some f → Tryz.prog.underlying f.type = some (.int .i64)) (h : DataW.trod enc Tryz.prog W base spare held fuel t cs = some y) :
  ∀ j, (hj : j < cs.length) → IntV cs[j] := by
 obtain ⟨v0, v1, v2, v3, v4, v5, v6, v7, v8, rfl⟩ := list9 hl;obtain ⟨xs, m, _, _, _, hlen, hi⟩ := DataW.trod_array ht h;have i0 := hi 0 (by omega);have i1 := hi 1 (by omega);have i2 := hi 2 (by omega);rw [hCe, List.getElem?_eq_getElem (show 0 < xs.length by omega)] at i0;rw [hCe, List.getElem?_eq_getElem (show 1 < xs.length by omega)] at i1;rw [hCe, List.getElem?_eq_getElem (show 2 < xs.length by omega)] at i2;obtain ⟨a0, a1, a2⟩ := elem_ints he hone hk hint i0;obtain ⟨b0, b1, b2⟩ := elem_ints he hone hk hint i1;obtain ⟨c0, c1, c2⟩ := elem_ints he hone hk hint i2
 intro j hj
 have hj9 : j < 9 := hj
 rcases (show j = 0 ∨ j = 1 ∨ j = 2 ∨ j = 3 ∨ j = 4 ∨ j = 5 ∨ j = 6 ∨ j = 7 ∨ j = 8 by omega) with rfl | rfl | rfl | rfl | rfl | rfl | rfl | rfl | rfl
 ·exact a0
 ·exact a1
 ·exact a2
 ·exact b0
 ·exact b1
 ·exact b2
 ·exact c0
 ·exact c1
 ·exact c2
set_option maxRecDepth 100000 in
theorem open_tris {r : Reach} {base : Nat} {t e g : TypeId} {fs : Array Field} {v : Value} {d : DataW H} {ps : List MemPlace}
  (ht : Tryz.prog.underlying t = some (.slice e)) (he : Tryz.prog.underlying e = some (.array 3 g)) (hg : Tryz.prog.underlying g = some (.struct fs)) (hone : oneCellFields Tryz.prog fs = true) (hk : fs.size = 3) (hCg : Tryz.prog.cellsOf g = 3) (hC : Tryz.prog.cellsOf e = 9)
  (hint : ∀ (j : Nat) (f : Field), fs[j]? = some f → Tryz.prog.underlying f.type = some (.int .i64))
  (hval : Value.okWide Tryz.prog W r base t v) (hd : DataW.Trod enc Tryz.prog W 0 (fun _ => true) true t v d ps) :
  ∃ (a : Option Addr) (n c : Nat) (F : Nat → Nat → Int), v = .slice a n c ∧ (a = none → n = 0 ∧ c = 0) ∧ n ≤ c ∧ c ≤ 9223372036854775807 ∧ RowK W a n 9 F ∧ AllK n 9 F := by
 obtain ⟨a, len, cap, rfl⟩ := okWide_slice ht hval;obtain ⟨fuel, hf⟩ := hd
 rcases open_slice ht hf with ⟨hcs, hx⟩ | ⟨a', len', cap', m, n, D, Pl, hcs, _, hl, hm, hmm, hx, hi⟩
 ·simp [Value.cells] at hcs
  obtain ⟨rfl, rfl, rfl⟩ := hcs
  exact ⟨none, 0, 0, fun _ _ => 0, rfl, fun _ => ⟨rfl, rfl⟩, Nat.le_refl _, by omega, .inl rfl, fun i h => by omega⟩
 ·simp [Value.cells] at hcs
  obtain ⟨rfl, rfl, rfl⟩ := hcs
  simp only [if_true] at hmm
  subst hmm
  have hcell : ∀ i, i < len → ∀ j, j < 9 → ∃ x : Int, W.cell? (a'.add (i * 9 + j)) = some (.int .i64 x) ∧ -9223372036854775808 ≤ x ∧ x ≤ 9223372036854775807 := by
   intro i hil j hj
   obtain ⟨cs', hc, ht'⟩ := hi i (by omega);rw [hC] at hc;obtain ⟨_, hcl, hat⟩ := World.cells?_some hc;obtain ⟨x, hx1, hx2⟩ := elem_tri he hg hone hk hCg hcl hint ht' j (by omega)
   exact ⟨x, by rw [← Go.Deep.add_add, hat j (by omega), List.getElem?_eq_getElem (show j < cs'.length by omega), hx1], hx2⟩
  obtain ⟨F, hF⟩ : ∃ F : Nat → Nat → Int, ∀ i, i < len → ∀ j, j < 9 → W.cell? (a'.add (i * 9 + j)) = some (.int .i64 (F i j)) ∧ -9223372036854775808 ≤ F i j ∧ F i j ≤ 9223372036854775807 :=
   ⟨fun i j => if h : i < len ∧ j < 9 then (hcell i h.1 j h.2).choose else 0, fun i hi' j hj => by
    simp only [dif_pos (And.intro hi' hj)]; exact (hcell i hi' j hj).choose_spec⟩
  refine ⟨some a', len, _, F, rfl, (fun h => by cases h), hl, by unfold maxLen at hm; omega, ?_, fun i hi' j hj => (hF i hi' j hj).2⟩
  rcases Nat.eq_zero_or_pos len with z | z
  ·exact .inl z
  ·have h00 := (hF 0 z 0 (by omega)).1
   obtain ⟨b, off, spot⟩ := a'
   have hspot : spot = none := by simpa [Addr.add] using World.cell?_spot h00
   subst hspot
   refine .inr ⟨b, off, rfl, ?_, fun i hi' j hj => ?_⟩
   ·have := cell_lt h00; rwa [Go.WideShapes.add_plain] at this
   ·rw [← Go.WideShapes.add_plain]; exact (hF i hi' j hj).1
end
end Go.Proofs.YtcnbbanpnoigdaaGreat
namespace Go.Proofs.YtcnbbanpnoigdaaGreat
open Go.ChangeShapes Go.WideShapes Go.ChangeAt Go.RowKit Go.Joins Go.Deep

theorem list4 {l : List Value} (h : l.length = 4) : ∃ a b c d, l = [a, b, c, d] := by
 match l, h with
 | [a, b, c, d], _ => exact ⟨a, b, c, d, rfl⟩
theorem list3 {l : List Value} (h : l.length = 3) : ∃ a b c, l = [a, b, c] := by
 match l, h with
 | [a, b, c], _ => exact ⟨a, b, c, rfl⟩
set_option maxRecDepth 100000 in
theorem structs_cell {H : Type} {enc : TypeId × Value → H} {W : World} {k : Nat} {t e : TypeId} {fs : Array Field} {v : Value} {fuel : Nat} {y : DataW H × List MemPlace}
  (ht : Tryz.prog.underlying t = some (.slice e)) (he : Tryz.prog.underlying e = some (.struct fs)) (hone : oneCellFields Tryz.prog fs = true) (hk : fs.size = k) (h0 : 0 < k) (hC : Tryz.prog.cellsOf e = k)
  (hint : ∀ (j : Nat) (f : Field), fs[j]? = some f → Tryz.prog.underlying f.type = some (.int .i64))
  (hf : DataW.trod enc Tryz.prog W 0 (fun _ => true) true fuel t [v] = some y) :
  ∃ (a : Option Addr) (n c : Nat) (F : Nat → Nat → Int), v = .slice a n c ∧ (a = none → n = 0 ∧ c = 0) ∧ n ≤ c ∧ c ≤ 9223372036854775807 ∧ RowK W a n k F ∧ AllK n k F := by
 rcases open_slice ht hf with ⟨hcs, hx⟩ | ⟨a', len, cap, m, n, D, Pl, hcs, _, hl, hm, hmm, hx, hi⟩
 ·simp at hcs
  subst hcs
  exact ⟨none, 0, 0, fun _ _ => 0, rfl, fun _ => ⟨rfl, rfl⟩, Nat.le_refl _, by omega, .inl rfl, fun i h => by omega⟩
 ·simp at hcs
  subst hcs
  simp only [if_true] at hmm
  subst hmm
  have hcell : ∀ i, i < len → ∀ j, j < k → ∃ x : Int, W.cell? (a'.add (i * k + j)) = some (.int .i64 x) ∧ -9223372036854775808 ≤ x ∧ x ≤ 9223372036854775807 := by
   intro i hil j hj
   obtain ⟨cs', hc, ht'⟩ := hi i (by omega);rw [hC] at hc;obtain ⟨ys, n', _, _, hlen, hyl, hfl⟩ := DataW.trod_struct he ht';obtain ⟨_, hcl, hat⟩ := World.cells?_some hc
   have hjf : j < fs.size := by omega
   obtain ⟨ho, hkk⟩ := hone_of hone j fs[j] (Array.getElem?_eq_getElem hjf);have h1 := hfl j fs[j] (Array.getElem?_eq_getElem hjf);rw [ho, hkk] at h1
   have hjl : j < cs'.length := by omega
   have hone' : (cs'.drop j).take 1 = [cs'[j]] := by rw [List.drop_eq_getElem_cons hjl]; rfl
   rw [hone', List.getElem?_eq_getElem (show j < ys.length by omega)] at h1;obtain ⟨x, hx1, _, hw⟩ := DataW.trod_int (hint j fs[j] (Array.getElem?_eq_getElem hjf)) h1
   refine ⟨x, ?_, ?_⟩
   ·rw [← Go.Deep.add_add, hat j (by omega), List.getElem?_eq_getElem hjl]
    simp at hx1
    rw [hx1]
   ·exact bounds_i64 hw
  obtain ⟨F, hF⟩ : ∃ F : Nat → Nat → Int, ∀ i, i < len → ∀ j, j < k → W.cell? (a'.add (i * k + j)) = some (.int .i64 (F i j)) ∧ -9223372036854775808 ≤ F i j ∧ F i j ≤ 9223372036854775807 :=
   ⟨fun i j => if h : i < len ∧ j < k then (hcell i h.1 j h.2).choose else 0, fun i hi' j hj => by
    simp only [dif_pos (And.intro hi' hj)]; exact (hcell i hi' j hj).choose_spec⟩
  refine ⟨some a', len, _, F, rfl, (fun h => by cases h), hl, by unfold maxLen at hm; omega, ?_, fun i hi' j hj => (hF i hi' j hj).2⟩
  rcases Nat.eq_zero_or_pos len with z | z
  ·exact .inl z
  ·have h00 := (hF 0 z 0 h0).1
   obtain ⟨b, off, spot⟩ := a'
   have hspot : spot = none := by simpa [Addr.add] using World.cell?_spot h00
   subst hspot
   refine .inr ⟨b, off, rfl, ?_, fun i hi' j hj => ?_⟩
   ·have := cell_lt h00; rwa [Go.WideShapes.add_plain] at this
   ·rw [← Go.WideShapes.add_plain]; exact (hF i hi' j hj).1
section
variable {H : Type} {enc : TypeId × Value → H} {W : World}
set_option maxRecDepth 100000 in
theorem tris_cell {t e g : TypeId} {fs : Array Field} {v : Value} {fuel : Nat} {y : DataW H × List MemPlace}
  (ht : Tryz.prog.underlying t = some (.slice e)) (he : Tryz.prog.underlying e = some (.array 3 g)) (hg : Tryz.prog.underlying g = some (.struct fs)) (hone : oneCellFields Tryz.prog fs = true) (hk : fs.size = 3) (hCg : Tryz.prog.cellsOf g = 3) (hC : Tryz.prog.cellsOf e = 9)
  (hint : ∀ (j : Nat) (f : Field), fs[j]? = some f → Tryz.prog.underlying f.type = some (.int .i64))
  (hf : DataW.trod enc Tryz.prog W 0 (fun _ => true) true fuel t [v] = some y) :
  ∃ (a : Option Addr) (n c : Nat) (F : Nat → Nat → Int), v = .slice a n c ∧ (a = none → n = 0 ∧ c = 0) ∧ n ≤ c ∧ c ≤ 9223372036854775807 ∧ RowK W a n 9 F ∧ AllK n 9 F := by
 rcases open_slice ht hf with ⟨hcs, hx⟩ | ⟨a', len, cap, m, n, D, Pl, hcs, _, hl, hm, hmm, hx, hi⟩
 ·simp at hcs
  subst hcs
  exact ⟨none, 0, 0, fun _ _ => 0, rfl, fun _ => ⟨rfl, rfl⟩, Nat.le_refl _, by omega, .inl rfl, fun i h => by omega⟩
 ·simp at hcs
  subst hcs
  simp only [if_true] at hmm
  subst hmm
  have hcell : ∀ i, i < len → ∀ j, j < 9 → ∃ x : Int, W.cell? (a'.add (i * 9 + j)) = some (.int .i64 x) ∧ -9223372036854775808 ≤ x ∧ x ≤ 9223372036854775807 := by
   intro i hil j hj
   obtain ⟨cs', hc, ht'⟩ := hi i (by omega);rw [hC] at hc;obtain ⟨_, hcl, hat⟩ := World.cells?_some hc;obtain ⟨x, hx1, hx2⟩ := elem_tri he hg hone hk hCg hcl hint ht' j (by omega)
   exact ⟨x, by rw [← Go.Deep.add_add, hat j (by omega), List.getElem?_eq_getElem (show j < cs'.length by omega), hx1], hx2⟩
  obtain ⟨F, hF⟩ : ∃ F : Nat → Nat → Int, ∀ i, i < len → ∀ j, j < 9 → W.cell? (a'.add (i * 9 + j)) = some (.int .i64 (F i j)) ∧ -9223372036854775808 ≤ F i j ∧ F i j ≤ 9223372036854775807 :=
   ⟨fun i j => if h : i < len ∧ j < 9 then (hcell i h.1 j h.2).choose else 0, fun i hi' j hj => by
    simp only [dif_pos (And.intro hi' hj)]; exact (hcell i hi' j hj).choose_spec⟩
  refine ⟨some a', len, _, F, rfl, (fun h => by cases h), hl, by unfold maxLen at hm; omega, ?_, fun i hi' j hj => (hF i hi' j hj).2⟩
  rcases Nat.eq_zero_or_pos len with z | z
  ·exact .inl z
  ·have h00 := (hF 0 z 0 (by omega)).1
   obtain ⟨b, off, spot⟩ := a'
   have hspot : spot = none := by simpa [Addr.add] using World.cell?_spot h00
   subst hspot
   refine .inr ⟨b, off, rfl, ?_, fun i hi' j hj => ?_⟩
   ·have := cell_lt h00; rwa [Go.WideShapes.add_plain] at this
   ·rw [← Go.WideShapes.add_plain]; exact (hF i hi' j hj).1
set_option maxRecDepth 100000 in
theorem ints_cell {v : Value} {fuel : Nat} {y : DataW H × List MemPlace} (hf : DataW.trod enc Tryz.prog W 0 (fun _ => true) true fuel 27 [v] = some y) :
  ∃ (a : Option Addr) (n c : Nat) (l : List Int), v = .slice a n c ∧ (a = none → n = 0 ∧ c = 0) ∧ n ≤ c ∧ c ≤ 9223372036854775807 ∧ RowI W a n l ∧ ∀ x ∈ l, -9223372036854775808 ≤ x ∧ x ≤ 9223372036854775807 := by
 rcases open_ints Tryz.underlying27 Tryz.underlying3 (by kernel_rfl) hf with ⟨hcs, hx⟩ | ⟨a', len, cap, zs, hcs, _, hl, hm, hz, hx, hcell, hwz⟩
 ·simp at hcs
  subst hcs
  exact ⟨none, 0, 0, [], rfl, (fun _ => ⟨rfl, rfl⟩), Nat.le_refl _, by omega, ⟨rfl, .inl rfl⟩, fun x hx => by cases hx⟩
 ·simp at hcs
  subst hcs
  simp only [if_true] at hz
  have hlen : (zs.take len).length = len := by rw [List.length_take]; omega
  refine ⟨some a', len, cap, zs.take len, rfl, (fun h => by cases h), hl, by unfold maxLen at hm; omega, ⟨hlen, ?_⟩, fun x hx => bounds_i64 (hwz x (List.mem_of_mem_take hx))⟩
  rcases Nat.eq_zero_or_pos len with h0 | h0
  ·exact .inl h0
  ·have h00 := hcell 0 (by omega)
   obtain ⟨b, off, spot⟩ := a'
   have hspot : spot = none := by simpa [Addr.add] using World.cell?_spot h00
   subst hspot
   refine .inr ⟨b, off, rfl, ?_, fun i hi' j hj => ?_⟩
   ·have := cell_lt h00; rwa [Go.WideShapes.add_plain] at this
   ·have z := hcell i (by omega)
    rw [Go.WideShapes.add_plain] at z;rw [show i * 1 + j = i from by omega, z]
    show some (Value.int .i64 (zs.getD i 0)) = some (Value.int .i64 ((List.take len zs).getD i 0))
    rw [List.getD_eq_getElem?_getD, List.getD_eq_getElem?_getD, List.getElem?_take_of_lt (by omega)]
set_option maxRecDepth 100000 in
theorem open_mesh {r : Reach} {base : Nat} {v : Value} {d : DataW H} {ps : List MemPlace} (hval : Value.okWide Tryz.prog W r base 26 v) (hd : DataW.Trod enc Tryz.prog W 0 (fun _ => true) true 26 v d ps) :
  ∃ (pa1 pa2 pa3 pa4 : Option Addr) (n1 n2 n3 n4 c1 c2 c3 c4 : Nat) (FV FT FN FC : Nat → Nat → Int), v = .agg #[.slice pa1 n1 c1, .slice pa2 n2 c2, .slice pa3 n3 c3, .slice pa4 n4 c4] ∧ ((RowK W pa1 n1 3 FV ∧ RowK W pa2 n2 2 FT ∧ RowK W pa3 n3 3 FN ∧ RowK W pa4 n4 9 FC) ∧ n1 ≤ c1 ∧ n2 ≤ c2 ∧ n3 ≤ c3 ∧ n4 ≤ c4 ∧ c1 ≤ 9223372036854775807 ∧ c2 ≤ 9223372036854775807 ∧ c3 ≤ 9223372036854775807 ∧ c4 ≤ 9223372036854775807) ∧
   ((pa1 = none → n1 = 0 ∧ c1 = 0) ∧ (pa2 = none → n2 = 0 ∧ c2 = 0) ∧ (pa3 = none → n3 = 0 ∧ c3 = 0) ∧ (pa4 = none → n4 = 0 ∧ c4 = 0)) ∧ AllK n1 3 FV ∧ AllK n2 2 FT ∧ AllK n3 3 FN ∧ AllK n4 9 FC := by
 obtain ⟨cs, rfl, hsz⟩ := okWide_struct Tryz.underlying26 hval;obtain ⟨l⟩ := cs;obtain ⟨v1, v2, v3, v4, rfl⟩ := list4 (l := l) (hsz.trans (show Tryz.prog.cellsOf 26 = 4 by kernel_rfl));obtain ⟨fuel, hf⟩ := hd;obtain ⟨y1, y2, y3, y4, n, _, _, h1, h2, h3, h4⟩ := trod_struct4 Tryz.underlying26 hf;have k1 : DataW.trod enc Tryz.prog W 0 (fun _ => true) true n 22 [v1] = some y1 := h1;have k2 : DataW.trod enc Tryz.prog W 0 (fun _ => true) true n 23 [v2] = some y2 := h2;have k3 : DataW.trod enc Tryz.prog W 0 (fun _ => true) true n 22 [v3] = some y3 := h3;have k4 : DataW.trod enc Tryz.prog W 0 (fun _ => true) true n 24 [v4] = some y4 := h4;obtain ⟨a1, n1, c1, F1, rfl, e1, l1, m1, r1, b1⟩ := structs_cell Tryz.underlying22 Tryz.underlying57 (by kernel_rfl) rfl (by decide) (by kernel_rfl) fields_int3 k1;obtain ⟨a2, n2, c2, F2, rfl, e2, l2, m2, r2, b2⟩ := structs_cell Tryz.underlying23 Tryz.underlying36 (by kernel_rfl) rfl (by decide) (by kernel_rfl) fields_int2 k2;obtain ⟨a3, n3, c3, F3, rfl, e3, l3, m3, r3, b3⟩ := structs_cell Tryz.underlying22 Tryz.underlying57 (by kernel_rfl) rfl (by decide) (by kernel_rfl) fields_int3 k3;obtain ⟨a4, n4, c4, F4, rfl, e4, l4, m4, r4, b4⟩ := tris_cell Tryz.underlying24 Tryz.underlying88 Tryz.underlying87 (by kernel_rfl) rfl (by kernel_rfl) (by kernel_rfl) fields_int3 k4
 exact ⟨a1, a2, a3, a4, n1, n2, n3, n4, c1, c2, c3, c4, F1, F2, F3, F4, rfl, ⟨⟨r1, r2, r3, r4⟩, l1, l2, l3, l4, m1, m2, m3, m4⟩, ⟨e1, e2, e3, e4⟩, b1, b2, b3, b4⟩
end
end Go.Proofs.YtcnbbanpnoigdaaGreat
namespace Go.Proofs.YtcnbbanpnoigdaaGreat
open Go.ChangeShapes Go.WideShapes Go.ChangeAt Go.RowKit Go.Joins

theorem own : ownKnob Tryz.prog.godebug = none := by kernel_rfl
theorem bd_i64 {a : Int} (h : (Lit.int .i64 a).wf = true) : -9223372036854775808 ≤ a ∧ a ≤ 9223372036854775807 := by
 have := bounds_i64 h
 exact this
end Go.Proofs.YtcnbbanpnoigdaaGreat
