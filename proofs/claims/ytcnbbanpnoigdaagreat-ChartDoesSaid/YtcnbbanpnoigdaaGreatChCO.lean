import Derived.Test.YtcnbbanpnoigdaaGreatHp
import Derived.Test.YtcnbbanpnoigdaaGreatHr
namespace Go.Proofs.YtcnbbanpnoigdaaGreat
open Go.RowKit

theorem ownE_ab {W W' : World} {B : Nat} {v : Value} {Z : List EdZ} (h : OwnE W B v Z) (ha : AbP B W W') : OwnE W' B v Z :=
 ⟨ownR_block h.1 fun b q => ha.2 b (World.ownsRow.lt h.1 b q).1 (World.ownsRow.lt h.1 b q).2, fun z hz => ⟨ownI_block (h.2 z hz).1 fun b q => ha.2 b (World.ownsRow.lt (h.2 z hz).1 b q).1 (World.ownsRow.lt (h.2 z hz).1 b q).2, (h.2 z hz).2⟩⟩
theorem ownE_at {W : World} {B : Nat} {v : Value} {Z : List EdZ} (h : OwnE W B v Z) {i : Nat} (hi : i < Z.length) : ∃ gE cap t c, v = .slice (some ⟨gE, 0, none⟩) Z.length cap ∧ Z[i].2.2.2 = .slice t Z[i].2.2.1.length c ∧ W.cell? ⟨gE, i * 3, none⟩ = some (.int .i64 Z[i].1) ∧ W.cell? ⟨gE, i * 3 + 1, none⟩ = some (.int .i64 Z[i].2.1) ∧ W.cell? ⟨gE, i * 3 + 2, none⟩ = some (.slice t Z[i].2.2.1.length c) ∧ RowI W t Z[i].2.2.1.length Z[i].2.2.1 := by
 obtain ⟨hr, hz⟩ := h;have hc := fun (g : Nat) (hg : v.ownBlock = some g) => hr.cells hg;obtain ⟨_, ⟨_, h0⟩ | ⟨g, cap, cur, rfl, _⟩⟩ := hr
 ·omega
 ·obtain ⟨p, q, r⟩ := cellsE_at Z i hi
  have p' := hc g rfl _ _ p;have q' := hc g rfl _ _ q;have r' := hc g rfl _ _ r
  simp only [Go.WideShapes.add_plain, Nat.zero_add] at p' q' r'
  obtain ⟨t, c, e, _, _, _, f4⟩ := rowI_of_own (hz Z[i] (List.getElem_mem hi)).1
  exact ⟨g, cap, t, c, rfl, e, p', q', by rw [← e]; exact r', f4⟩
theorem EcW.congr {W : World} {B n : Nat} {ec : Nat → Value} {E E' : Nat → List Int} (h : EcW W B n ec E) (k : ∀ j, j < n → E j = E' j) : EcW W B n ec E' := ⟨fun j hj => by rw [← k j hj]; exact h.1 j hj, h.2⟩
def esP (EL : List EdL) (q : Nat) (L : List Int) (p : Nat) (j : Nat) : List Int := esL EL (j : Int) q ++ (if isIn (L.take p) (j : Int) then [(q : Int)] else [])
theorem esP_none (EL : List EdL) (q : Nat) (L : List Int) (j : Nat) : esL EL (j : Int) q = esP EL q L 0 j := by
 unfold esP;rw [List.take_zero, if_neg (fun h => List.not_mem_nil (isIn_iff.1 h)), List.append_nil]
theorem esP_all {EL : List EdL} {q : Nat} {L : List Int} (h : (EL.getD q (0, 0, [])).2.2 = L) (j : Nat) : esP EL q L L.length j = esL EL (j : Int) (q + 1) := by
 unfold esP
 show _ = esL EL (j : Int) q ++ (if isIn (EL.getD q (0, 0, [])).2.2 (j : Int) then [(q : Int)] else [])
 rw [h, List.take_of_length_le (Nat.le_refl _)]
theorem esP_len (EL : List EdL) (q : Nat) (L : List Int) (p i : Nat) : (esP EL q L p i).length ≤ q + 1 := by
 unfold esP;have := es_len EL (i : Int) q;rw [List.length_append]
 split <;> simp <;> omega
theorem esP_more {EL : List EdL} {q : Nat} {L : List Int} {p i : Nat} (hr : L.Pairwise (· < ·)) (hp : p < L.length) (hi : L.getD p 0 = (i : Int)) (j : Nat) : (if j = i then esP EL q L p i ++ [(q : Int)] else esP EL q L p j) = esP EL q L (p + 1) j := by
 have ht := take_more hp;rw [hi] at ht
 have hn : ¬ (i : Int) ∈ L.take p := fun z => by
  obtain ⟨r, hr', e⟩ := List.mem_take_iff_getElem.1 z;have := rise_at hr (show r < p by omega) hp;rw [hi, List.getD_eq_getElem?_getD, List.getElem?_eq_getElem (show r < L.length by omega), Option.getD_some, e] at this
  omega
 unfold esP;rw [ht]
 by_cases e : j = i
 ·subst e
  rw [if_pos rfl, if_neg (fun h => hn (isIn_iff.1 h)), List.append_nil, if_pos (isIn_iff.2 (List.mem_append.2 (.inr (List.mem_singleton.2 rfl))))]
 ·rw [if_neg e]
  congr 1
  have : isIn (L.take p ++ [(i : Int)]) (j : Int) = isIn (L.take p) (j : Int) := by
   rw [Bool.eq_iff_iff, isIn_iff, isIn_iff, List.mem_append, List.mem_singleton]
   exact ⟨fun h => h.elim id fun h => absurd h (by omega), .inl⟩
  rw [this]
def StC (W : World) (B g gl eb tb n : Nat) (mc : Array Value) (fv : Value) (fs : List Value) (ec : Nat → Value) (B7 : Nat) (V : World) : Prop := StB W B g gl eb tb n mc fv fs ec ∧ AbP B7 V W
theorem StC.keep {W W' : World} {B g gl eb tb n : Nat} {mc : Array Value} {fv : Value} {fs : List Value} {ec : Nat → Value} {B7 : Nat} {V : World} (h : StC W B g gl eb tb n mc fv fs ec B7 V) (hb : Below W.heap.size W W') : StC W' B g gl eb tb n mc fv fs ec B7 V := ⟨h.1.keep hb, h.2.keep hb⟩
theorem StC.grown {W W' : World} {B g gl eb tb n : Nat} {mc : Array Value} {fv : Value} {fs : List Value} {ec : Nat → Value} {B7 : Nat} {V : World} {row : Option Nat} (h : StC W B g gl eb tb n mc fv fs ec B7 V) (hb : Below V.heap.size W W') (h1 : g < V.heap.size ∧ gl < V.heap.size ∧ eb < V.heap.size ∧ tb < V.heap.size) (h2 : ∀ b, fv.ownBlock = some b → b < V.heap.size) (hg : W.grownBy W' row) (hr : ∀ b, row = some b → V.heap.size ≤ b) : StC W' B g gl eb tb n mc fv fs ec B7 V := ⟨h.1.keepB hb h1 h2, h.2.grown hg hr⟩
theorem StC.set {W : World} {B g gl eb tb n i : Nat} {mc : Array Value} {fv : Value} {fs : List Value} {ec : Nat → Value} {B7 : Nat} {V : World} (h : StC W B g gl eb tb n mc fv fs ec B7 V) (hi : i < n) (x : Value) (he : eb < B7) : StC (W.setCell ⟨eb, i, none⟩ x) B g gl eb tb n mc fv fs (fun j => if j = i then x else ec j) B7 V := ⟨h.1.set hi x, h.2.set he x⟩
theorem EcW.kept {W W' : World} {B n : Nat} {ec : Nat → Value} {E : Nat → List Int} (h : EcW W B n ec E) (k : ∀ b, B ≤ b → W'.heap[b]? = W.heap[b]?) : EcW W' B n ec E := ⟨fun j hj => ownI_block (h.1 j hj) fun b q => k b (World.ownsRow.lt (h.1 j hj) b q).1, h.2⟩
def EcK (W : World) (B lo g gl eb tb n : Nat) (mc : Array Value) (fv : Value) (fs : List Value) (E : Nat → List Int) (B7 : Nat) (V : World) : Prop := ∃ ec, StC W lo g gl eb tb n mc fv fs ec B7 V ∧ EcW W B n ec E
theorem EcK.keep {W W' : World} {B lo g gl eb tb n : Nat} {mc : Array Value} {fv : Value} {fs : List Value} {E : Nat → List Int} {B7 : Nat} {V : World} (h : EcK W B lo g gl eb tb n mc fv fs E B7 V) (hb : Below W.heap.size W W') : EcK W' B lo g gl eb tb n mc fv fs E B7 V := by
 obtain ⟨ec, a, b⟩ := h; exact ⟨ec, a.keep hb, b.keep hb⟩
set_option maxRecDepth 100000 in
set_option maxHeartbeats 16000000 in
theorem start_any (pa1 pa2 pa3 pa4 : Option Addr) (n1 n2 n3 n4 cs1 cs2 cs3 cs4 : Nat) (FV FT FN FC : Nat → Nat → Int) (w : World) (hm : MsW w pa1 pa2 pa3 pa4 n1 n2 n3 n4 FV FT FN FC) (ht : tmB n1 n2 n3 n4 FV FT FN FC = true) (h20 : n1 ≤ 20) (h4 : n4 ≤ 1000000) (hEL : (eaL FC n4 n1 n1).length ≤ 1000) :
  Calls Tryz.prog 29 #[.agg #[.slice pa1 n1 cs1, .slice pa2 n2 cs2, .slice pa3 n3 cs3, .slice pa4 n4 cs4]] w fun e w' => (∃ C, e = .returned (.pointer (some ⟨C.g, 0, none⟩)) ∧ GrFor C w pa1 pa2 pa3 pa4 n1 n2 n3 n4 cs1 cs2 cs3 cs4 FV FC (eaL FC n4 n1 n1) ∧ C.Wk w' [] ∧ C.hi ≤ w'.heap.size) ∧ Below w.heap.size w w' := by
 have HB := Lib.hid (Below.refl w.heap.size w);have M := Lib.hid hm;have HT := Lib.hid ht;have hmkE := make_row (t := 71) (e := 27) rfl infoSI rfl (by decide) n4 h4;have hmkB := make_row (t := 72) (e := 4) rfl infoBo rfl (by decide) n4 h4;have HEL := Lib.hid hEL;clear hm ht hEL
 go_enter Tryz.func29, Tryz.ntmps29
 go_upto_region 1 with fail
 have hbm := below_new1 w (.cells #[.slice pa1 n1 cs1, .slice pa2 n2 cs2, .slice pa3 n3 cs3, .slice pa4 n4 cs4] 26)
 have zm : (w.alloc (.cells #[.slice pa1 n1 cs1, .slice pa2 n2 cs2, .slice pa3 n3 cs3, .slice pa4 n4 cs4] 26)).heap.size = w.heap.size + 1 := by simp
 have HB := Lib.hid hbm;have km := Lib.hid (Lok.new w 26 #[.slice pa1 n1 cs1, .slice pa2 n2 cs2, .slice pa3 n3 cs3, .slice pa4 n4 cs4]);clear hbm;generalize w.alloc (.cells #[.slice pa1 n1 cs1, .slice pa2 n2 cs2, .slice pa3 n3 cs3, .slice pa4 n4 cs4] 26) = Vm at *;clear zm;have m3 := km.out.cell (i := 3) rfl
 go_upto_region 2 with fail
 clear m3;have hgm : w.heap.size < Vm.heap.size := km.out.lt;have l0 := km.out
 refine wp_region_rel (by kernel_rfl) [15, 16, 17, 18, 19, 20, 21, 22, 23, 4] ?Fr3 ?hFr3
  (fun L u W => Below Vm.heap.size Vm W ∧ (L 0 = true → u 15 = .agg #[.slice pa1 n1 cs1, .slice pa2 n2 cs2, .slice pa3 n3 cs3, .slice pa4 n4 cs4]) ∧ (L 1 = true → u 16 = .agg #[.slice pa1 n1 cs1, .slice pa2 n2 cs2, .slice pa3 n3 cs3, .slice pa4 n4 cs4]) ∧ (L 2 = true → PtB Vm.heap.size W 50 (mshC pa1 pa2 pa3 pa4 n1 n2 n3 n4 cs1 cs2 cs3 cs4) (u 17)) ∧ (L 3 = true → u 18 = .int .i64 (n4 : Int)) ∧ (L 4 = true → PtR Vm.heap.size W 27 n4 (rwL n4 fun _ => .slice none 0 0) (u 19)) ∧ (L 5 = true → u 20 = .int .i64 (n4 : Int)) ∧ (L 6 = true → PtR Vm.heap.size W 4 n4 (rwL n4 fun _ => .bool false) (u 21)) ∧ (L 7 = true → GrU Vm.heap.size W n4 (mshC pa1 pa2 pa3 pa4 n1 n2 n3 n4 cs1 cs2 cs3 cs4) (u 22)) ∧ (L 8 = true → GrP Vm.heap.size W n4 (mshC pa1 pa2 pa3 pa4 n1 n2 n3 n4 cs1 cs2 cs3 cs4) (u 23)) ∧ (L 9 = true → GrP Vm.heap.size W n4 (mshC pa1 pa2 pa3 pa4 n1 n2 n3 n4 cs1 cs2 cs3 cs4) (u 4)) ∧ Lok W (w.heap.size) 26 #[.slice pa1 n1 cs1, .slice pa2 n2 cs2, .slice pa3 n3 cs3, .slice pa4 n4 cs4]) (by kernel_rfl) (by kernel_rfl) 10 rfl ?h0r3 ?stepr3 ?finr3
 case hFr3 => intro u; simp only [putAll, Act.put, List.setIfInBounds_toArray, List.set]; exact rfl
 case h0r3 => intro L u hL; exact ⟨(Below.refl _ _).drew, (fun h => by simp [hL] at h), (fun h => by simp [hL] at h), (fun h => by simp [hL] at h), (fun h => by simp [hL] at h), (fun h => by simp [hL] at h), (fun h => by simp [hL] at h), (fun h => by simp [hL] at h), (fun h => by simp [hL] at h), (fun h => by simp [hL] at h), (fun h => by simp [hL] at h), (by first | assumption | (apply Lok.drew; assumption))⟩
 case stepr3 =>
  refine ops_all (ops_cons ?s0r3 (ops_cons ?s1r3 (ops_cons ?s2r3 (ops_cons ?s3r3 (ops_cons ?s4r3 (ops_cons ?s5r3 (ops_cons ?s6r3 (ops_cons ?s7r3 (ops_cons ?s8r3 (ops_cons ?s9r3 (ops_nil)))))))))))
  case s0r3 =>
   rintro L u W ⟨hB, c0, c1, c2, c3, c4, c5, c6, c7, c8, c9, lk1⟩ hf hd K hK
   dsimp only at hK
   have t0 := lk1.cell (i := 0) rfl;have t1 := lk1.cell (i := 1) rfl;have t2 := lk1.cell (i := 2) rfl;have t3 := lk1.cell (i := 3) rfl;clear hd
   go_simp
   refine hK _ _ ?_ (fun h => by cases h)
   intro s hs
   cases hs
   exact ⟨hB, (fun _ => rfl), c1, c2, c3, c4, c5, c6, c7, c8, c9, lk1⟩
  case s1r3 =>
   rintro L u W ⟨hB, c0, c1, c2, c3, c4, c5, c6, c7, c8, c9, lk1⟩ hf hd K hK
   dsimp only at hK
   have hd0 : L 0 = true := (by first | exact hd ⟨0, .data⟩ (by simp) rfl | exact hd ⟨0, .guard⟩ (by simp) rfl | exact hd ⟨0, .phase⟩ (by simp) rfl | exact hd ⟨0, .chain⟩ (by simp) rfl);have e0 := c0 hd0;rw [e0] at hK;clear hd0;clear hd
   go_simp
   refine hK _ _ ?_ (fun h => by cases h)
   intro s hs
   cases hs
   exact ⟨hB, c0, (fun _ => rfl), c2, c3, c4, c5, c6, c7, c8, c9, lk1⟩
  case s2r3 =>
   rintro L u W ⟨hB, c0, c1, c2, c3, c4, c5, c6, c7, c8, c9, lk1⟩ hf hd K hK
   dsimp only at hK
   have hd1 : L 1 = true := (by first | exact hd ⟨1, .data⟩ (by simp) rfl | exact hd ⟨1, .guard⟩ (by simp) rfl | exact hd ⟨1, .phase⟩ (by simp) rfl | exact hd ⟨1, .chain⟩ (by simp) rfl);have e1 := c1 hd1;rw [e1] at hK;clear hd1;clear hd
   go_simp
   have hb : Below W.heap.size W (W.alloc (.cells #[.slice pa1 n1 cs1, .slice pa2 n2 cs2, .slice pa3 n3 cs3, .slice pa4 n4 cs4] 50)) := (Below.refl _ W).alloc (Nat.le_refl _) _;have q : PtB Vm.heap.size (W.alloc (.cells #[.slice pa1 n1 cs1, .slice pa2 n2 cs2, .slice pa3 n3 cs3, .slice pa4 n4 cs4] 50)) 50 (mshC pa1 pa2 pa3 pa4 n1 n2 n3 n4 cs1 cs2 cs3 cs4) (.pointer (some ⟨W.heap.size, 0, none⟩)) := ⟨_, rfl, hB.size, Lok.new _ _ _⟩
   refine hK _ _ ?_ (fun h => by cases h)
   intro s hs
   cases hs
   exact ⟨hB.trans (hb.mono hB.size), c0, c1, (fun _ => q), c3, (fun h => (c4 h).keep hb), c5, (fun h => (c6 h).keep hb), (fun h => (c7 h).keep hb), (fun h => (c8 h).keep hb), (fun h => (c9 h).keep hb), (lk1.keep hb)⟩
  case s3r3 =>
   rintro L u W ⟨hB, c0, c1, c2, c3, c4, c5, c6, c7, c8, c9, lk1⟩ hf hd K hK
   dsimp only at hK
   clear hd
   go_simp
   refine hK _ _ ?_ (fun h => by cases h)
   intro s hs
   cases hs
   exact ⟨hB, c0, c1, c2, (fun _ => rfl), c4, c5, c6, c7, c8, c9, lk1⟩
  case s4r3 =>
   rintro L u W ⟨hB, c0, c1, c2, c3, c4, c5, c6, c7, c8, c9, lk1⟩ hf hd K hK
   dsimp only at hK
   have hd3 : L 3 = true := (by first | exact hd ⟨3, .data⟩ (by simp) rfl | exact hd ⟨3, .guard⟩ (by simp) rfl | exact hd ⟨3, .phase⟩ (by simp) rfl | exact hd ⟨3, .chain⟩ (by simp) rfl);have e3 := c3 hd3;rw [e3] at hK;clear hd3;clear hd
   go_simp
   have hb : Below W.heap.size W (W.alloc (.cells (rwL n4 fun _ => .slice none 0 0) 27)) := (Below.refl _ W).alloc (Nat.le_refl _) _;have q : PtR Vm.heap.size (W.alloc (.cells (rwL n4 fun _ => .slice none 0 0) 27)) 27 n4 (rwL n4 fun _ => .slice none 0 0) (.slice (some ⟨W.heap.size, 0, none⟩) n4 n4) := ⟨_, rfl, hB.size, Lok.new _ _ _⟩
   refine hK _ _ ?_ (fun h => by cases h)
   intro s hs
   cases hs
   exact ⟨hB.trans (hb.mono hB.size), c0, c1, (fun h => (c2 h).keep hb), c3, (fun _ => q), c5, (fun h => (c6 h).keep hb), (fun h => (c7 h).keep hb), (fun h => (c8 h).keep hb), (fun h => (c9 h).keep hb), (lk1.keep hb)⟩
  case s5r3 =>
   rintro L u W ⟨hB, c0, c1, c2, c3, c4, c5, c6, c7, c8, c9, lk1⟩ hf hd K hK
   dsimp only at hK
   clear hd
   go_simp
   refine hK _ _ ?_ (fun h => by cases h)
   intro s hs
   cases hs
   exact ⟨hB, c0, c1, c2, c3, c4, (fun _ => rfl), c6, c7, c8, c9, lk1⟩
  case s6r3 =>
   rintro L u W ⟨hB, c0, c1, c2, c3, c4, c5, c6, c7, c8, c9, lk1⟩ hf hd K hK
   dsimp only at hK
   have hd5 : L 5 = true := (by first | exact hd ⟨5, .data⟩ (by simp) rfl | exact hd ⟨5, .guard⟩ (by simp) rfl | exact hd ⟨5, .phase⟩ (by simp) rfl | exact hd ⟨5, .chain⟩ (by simp) rfl);have e5 := c5 hd5;rw [e5] at hK;clear hd5;clear hd
   go_simp
   have hb : Below W.heap.size W (W.alloc (.cells (rwL n4 fun _ => .bool false) 4)) := (Below.refl _ W).alloc (Nat.le_refl _) _;have q : PtR Vm.heap.size (W.alloc (.cells (rwL n4 fun _ => .bool false) 4)) 4 n4 (rwL n4 fun _ => .bool false) (.slice (some ⟨W.heap.size, 0, none⟩) n4 n4) := ⟨_, rfl, hB.size, Lok.new _ _ _⟩
   refine hK _ _ ?_ (fun h => by cases h)
   intro s hs
   cases hs
   exact ⟨hB.trans (hb.mono hB.size), c0, c1, (fun h => (c2 h).keep hb), c3, (fun h => (c4 h).keep hb), c5, (fun _ => q), (fun h => (c7 h).keep hb), (fun h => (c8 h).keep hb), (fun h => (c9 h).keep hb), (lk1.keep hb)⟩
  case s7r3 =>
   rintro L u W ⟨hB, c0, c1, c2, c3, c4, c5, c6, c7, c8, c9, lk1⟩ hf hd K hK
   dsimp only at hK
   have hd2 : L 2 = true := (by first | exact hd ⟨2, .data⟩ (by simp) rfl | exact hd ⟨2, .guard⟩ (by simp) rfl | exact hd ⟨2, .phase⟩ (by simp) rfl | exact hd ⟨2, .chain⟩ (by simp) rfl);have hd4 : L 4 = true := (by first | exact hd ⟨4, .data⟩ (by simp) rfl | exact hd ⟨4, .guard⟩ (by simp) rfl | exact hd ⟨4, .phase⟩ (by simp) rfl | exact hd ⟨4, .chain⟩ (by simp) rfl);have hd6 : L 6 = true := (by first | exact hd ⟨6, .data⟩ (by simp) rfl | exact hd ⟨6, .guard⟩ (by simp) rfl | exact hd ⟨6, .phase⟩ (by simp) rfl | exact hd ⟨6, .chain⟩ (by simp) rfl);have e2 := c2 hd2;have e4 := c4 hd4;have e6 := c6 hd6;obtain ⟨gl, v2, b2, k2⟩ := e2;obtain ⟨eb, v4, b4, k4⟩ := e4;obtain ⟨tb, v6, b6, k6⟩ := e6;rw [v2, v4, v6] at hK;have q : GrU Vm.heap.size W n4 (mshC pa1 pa2 pa3 pa4 n1 n2 n3 n4 cs1 cs2 cs3 cs4) (.agg (gr0 gl eb tb n4 (.slice none 0 0))) := ⟨gl, eb, tb, rfl, ⟨b2, b4, b6⟩, k2, k4, k6⟩;unfold gr0 at q;clear hd2;clear hd4;clear hd6;clear hd
   go_simp
   refine hK _ _ ?_ (fun h => by cases h)
   intro s hs
   cases hs
   exact ⟨hB, c0, c1, c2, c3, c4, c5, c6, (fun _ => q), c8, c9, lk1⟩
  case s8r3 =>
   rintro L u W ⟨hB, c0, c1, c2, c3, c4, c5, c6, c7, c8, c9, lk1⟩ hf hd K hK
   dsimp only at hK
   have hd7 : L 7 = true := (by first | exact hd ⟨7, .data⟩ (by simp) rfl | exact hd ⟨7, .guard⟩ (by simp) rfl | exact hd ⟨7, .phase⟩ (by simp) rfl | exact hd ⟨7, .chain⟩ (by simp) rfl);have e7 := c7 hd7;clear hd7;clear hd;obtain ⟨gl, eb, tb, ev, kr⟩ := e7;rw [ev] at hK;unfold gr0 at hK;replace kr := Lib.hid kr
   go_simp
   have hb : Below W.heap.size W (W.alloc (.cells (gr0 gl eb tb n4 (.slice none 0 0)) 74)) := (Below.refl _ W).alloc (Nat.le_refl _) _;have q : GrP Vm.heap.size (W.alloc (.cells (gr0 gl eb tb n4 (.slice none 0 0)) 74)) n4 (mshC pa1 pa2 pa3 pa4 n1 n2 n3 n4 cs1 cs2 cs3 cs4) (.pointer (some ⟨W.heap.size, 0, none⟩)) := ⟨_, gl, eb, tb, rfl, hB.size, Lok.new _ _ _, kr.out.keep hb⟩
   refine hK _ _ ?_ (fun h => by cases h)
   intro s hs
   cases hs
   exact ⟨hB.trans (hb.mono hB.size), c0, c1, (fun h => (c2 h).keep hb), c3, (fun h => (c4 h).keep hb), c5, (fun h => (c6 h).keep hb), (fun h => (c7 h).keep hb), (fun _ => q), (fun h => (c9 h).keep hb), (lk1.keep hb)⟩
  case s9r3 =>
   rintro L u W ⟨hB, c0, c1, c2, c3, c4, c5, c6, c7, c8, c9, lk1⟩ hf hd K hK
   dsimp only at hK
   have hd8 : L 8 = true := (by first | exact hd ⟨8, .data⟩ (by simp) rfl | exact hd ⟨8, .guard⟩ (by simp) rfl | exact hd ⟨8, .phase⟩ (by simp) rfl | exact hd ⟨8, .chain⟩ (by simp) rfl);have e8 := c8 hd8;obtain ⟨g, gl, eb, tb, ev, b9, k9, r9⟩ := e8;rw [ev] at hK;have q : GrP Vm.heap.size W n4 (mshC pa1 pa2 pa3 pa4 n1 n2 n3 n4 cs1 cs2 cs3 cs4) (.pointer (some ⟨g, 0, none⟩)) := ⟨g, gl, eb, tb, rfl, b9, k9, r9⟩;clear hd8;clear hd
   go_simp
   refine hK _ _ ?_ (fun h => by cases h)
   intro s hs
   cases hs
   exact ⟨hB, c0, c1, c2, c3, c4, c5, c6, c7, c8, (fun _ => q), lk1⟩
 case finr3 =>
  rintro L u W hL ⟨hB, c0, c1, c2, c3, c4, c5, c6, c7, c8, c9, lk1⟩
  have e0 := c0 (hL 0 (by decide));have e1 := c1 (hL 1 (by decide));have kq2 := c2 (hL 2 (by decide));have e3 := c3 (hL 3 (by decide));have kq4 := c4 (hL 4 (by decide));have e5 := c5 (hL 5 (by decide));have kq6 := c6 (hL 6 (by decide));have kq7 := c7 (hL 7 (by decide));have kq8 := c8 (hL 8 (by decide));have kq9 := c9 (hL 9 (by decide));clear hL c0 c1 c2 c3 c4 c5 c6 c7 c8 c9
  try simp only [e0, e1, e3, e5]
  clear e0 e1 e3 e5;clear hmkE hmkB;generalize u 4 = u4 at *;obtain ⟨g, gl, eb, tb, rfl, bg, kg, ⟨bl, be, bt⟩, kl, ke, kt⟩ := kq9;replace HB := Lib.hid (HB.out.trans (hB.mono HB.out.size));have KM := Lib.hid lk1;clear lk1 hgm l0 hB;obtain ⟨W1, rfl⟩ : ∃ W1, W1 = W := ⟨_, rfl⟩;have hlt4 : g < W1.heap.size ∧ gl < W1.heap.size ∧ eb < W1.heap.size ∧ tb < W1.heap.size := ⟨kg.lt, kl.lt, ke.lt, kt.lt⟩
  have hge : w.heap.size < g ∧ w.heap.size < gl ∧ w.heap.size < eb ∧ w.heap.size < tb := by have := km.out.lt; omega
  have SA : Hid (StA W1 g gl eb tb n4 (mshC pa1 pa2 pa3 pa4 n1 n2 n3 n4 cs1 cs2 cs3 cs4) (.slice none 0 0)) := Lib.hid ⟨kg, kl, ke, kt⟩;clear kg kl ke kt bg bl be bt km;have LF := Lib.hid (fun k (hk : k < n4) W (h : Below w.heap.size w W) (q : Lok W gl 50 (mshC pa1 pa2 pa3 pa4 n1 n2 n3 n4 cs1 cs2 cs3 cs4)) => lfacing_any pa1 pa2 pa3 pa4 n1 n2 n3 n4 cs1 cs2 cs3 cs4 FV FT FN FC gl k W (M.out.keep h) HT.out hk q);obtain ⟨fA, hfA⟩ : ∃ f, f = lfA FV FC := ⟨_, rfl⟩;obtain ⟨fS, hfS⟩ : ∃ f, f = lfS FV FC := ⟨_, rfl⟩;obtain ⟨fK, hfK⟩ : ∃ f, f = lfK FV FC := ⟨_, rfl⟩;rw [← hfA, ← hfS, ← hfK] at LF;obtain ⟨MC, hMC⟩ : ∃ MC, MC = mshC pa1 pa2 pa3 pa4 n1 n2 n3 n4 cs1 cs2 cs3 cs4 := ⟨_, rfl⟩;rw [← hMC] at LF SA;have HF := Lib.hid (And.intro hMC (And.intro hfA (And.intro hfS hfK)));clear hMC hfA hfS hfK;have m3 := KM.out.cell (i := 3) rfl
  have hB6 : w.heap.size + 1 ≤ W1.heap.size := by have := KM.out.lt; omega
  obtain ⟨B6, hB6e⟩ : ∃ B6, B6 = W1.heap.size := ⟨_, rfl⟩;rw [← hB6e] at hB6 hlt4;have HB6 := Lib.hid hB6e;clear hB6e
  go_wp2_with fail
  clear m3
  go_loopw [27] (fun x wr => ∃ (k : Nat) (fv : Value), x = .int .i64 k ∧ k ≤ n4 ∧ StA wr g gl eb tb n4 MC fv ∧ OwnR wr B6 53 3 fv k (fcL fA fS fK k) ∧ Below w.heap.size w wr ∧ B6 ≤ wr.heap.size ∧ Lok wr w.heap.size 26 #[.slice pa1 n1 cs1, .slice pa2 n2 cs2, .slice pa3 n3 cs3, .slice pa4 n4 cs4]) (fun x _ => n4 - (intOf x).toNat)
  case atStart => exact ⟨0, _, rfl, Nat.zero_le _, SA.out, World.ownsRow_nil _ _ _ _, HB.out, Nat.le_of_eq HB6.out, KM.out⟩
  case round =>
   clear SA HB;obtain ⟨k, fv, rfl, hk, hS, hO, hB, hz6, hKM⟩ := hrel;replace KM := Lib.hid hKM;clear hKM;have SA := Lib.hid hS;have OF := Lib.hid hO;have HB := Lib.hid hB;clear hS hO hB
   by_cases hlt : k < n4
   ·have hbound : w.heap.size + 1 ≤ wr.heap.size := by have := KM.out.lt; omega
    have s0 := SA.out;have s1 := OF.out
    go_upto_region 6 with fail
    refine wp_region_rel2 (by kernel_rfl) [30, 31, 32, 33, 34, 35, 36, 37, 38, 39, 40, 41, 42, 43, 44] ?Fr1 ?hFr1
     (fun L u W => Below (w.heap.size + 1) wr W ∧ (L 0 = true → u 30 = .pointer (some ⟨g, 0, none⟩)) ∧ (L 1 = true → u 31 = .pointer (some ⟨g, 0, none⟩)) ∧ (L 2 = true → u 32 = .pointer (some ⟨g, 0, none⟩)) ∧ (L 3 = true → u 33 = .pointer (some ⟨g, 1, none⟩)) ∧ (L 4 = true → u 34 = fv) ∧ (L 5 = true → u 35 = .pointer (some ⟨g, 0, none⟩)) ∧ (L 6 = true → u 36 = .pointer (some ⟨g, 0, none⟩)) ∧ (L 7 = true → u 37 = .pointer (some ⟨g, 0, none⟩)) ∧ (L 8 = true → u 38 = .pointer (some ⟨gl, 0, none⟩)) ∧ (L 9 = true → u 39 = .int .i64 (k : Int)) ∧ (L 10 = true → u 40 = .agg #[.int .i64 (fA k), .int .i64 (fS k), .bool (fK k)]) ∧ (L 11 = true → L 12 = false → RowAt W (u 41) 1 53 #[.int .i64 (fA k), .int .i64 (fS k), .bool (fK k)]) ∧ (L 12 = true → L 15 = false → OwnR W B6 53 3 (u 42) (k + 1) (fcL fA fS fK (k + 1))) ∧ (L 13 = true → u 43 = .pointer (some ⟨g, 0, none⟩)) ∧ (L 14 = true → u 44 = .pointer (some ⟨g, 1, none⟩)) ∧ (L 15 = true → FaK W B6 g gl eb tb n4 MC fA fS fK (k + 1)) ∧ (L 15 = false → StA W g gl eb tb n4 MC fv) ∧ (L 12 = false → OwnR W B6 53 3 fv k (fcL fA fS fK k)) ∧ (L 15 = false → True) ∧ (L 15 = true → L 12 = true) ∧ (L 12 = false → True) ∧ (L 12 = true → L 4 = true) ∧ (L 12 = false → True) ∧ (L 12 = true → L 11 = true) ∧ (L 11 = false → True) ∧ (L 11 = true → L 10 = true) ∧ (L 10 = false → True) ∧ (L 10 = true → L 8 = true)) (by kernel_rfl) (by kernel_rfl) 16 rfl ?h0r1 ?stepr1 ?finr1
    case hFr1 => intro u; simp only [putAll, Act.put, List.setIfInBounds_toArray, List.set]; exact rfl
    case h0r1 => intro L hL; exact ⟨(Below.refl _ _).drew, (fun h => by simp [hL] at h), (fun h => by simp [hL] at h), (fun h => by simp [hL] at h), (fun h => by simp [hL] at h), (fun h => by simp [hL] at h), (fun h => by simp [hL] at h), (fun h => by simp [hL] at h), (fun h => by simp [hL] at h), (fun h => by simp [hL] at h), (fun h => by simp [hL] at h), (fun h => by simp [hL] at h), (fun h => by simp [hL] at h), (fun h => by simp [hL] at h), (fun h => by simp [hL] at h), (fun h => by simp [hL] at h), (fun h => by simp [hL] at h), (fun _ => by assumption), (fun _ => by assumption), (fun _ => by first | rfl | trivial), (fun h => by simp [hL] at h), (fun _ => by first | rfl | trivial), (fun h => by simp [hL] at h), (fun _ => by first | rfl | trivial), (fun h => by simp [hL] at h), (fun _ => by first | rfl | trivial), (fun h => by simp [hL] at h), (fun _ => by first | rfl | trivial), (fun h => by simp [hL] at h)⟩
    case stepr1 =>
     refine ops_all (ops_cons ?s0r1 (ops_cons ?s1r1 (ops_cons ?s2r1 (ops_cons ?s3r1 (ops_cons ?s4r1 (ops_cons ?s5r1 (ops_cons ?s6r1 (ops_cons ?s7r1 (ops_cons ?s8r1 (ops_cons ?s9r1 (ops_cons ?s10r1 (ops_cons ?s11r1 (ops_cons ?s12r1 (ops_cons ?s13r1 (ops_cons ?s14r1 (ops_cons ?s15r1 (ops_nil)))))))))))))))))
     case s0r1 =>
      rintro L u W ⟨hB, c0, c1, c2, c3, c4, c5, c6, c7, c8, c9, c10, c11, c12, c13, c14, c15, pre0, pre1, ini0, id0, ini1, id1, ini2, id2, ini3, id3, ini4, id4⟩ hf hd K hK
      dsimp only at hK
      clear hd
      go_simp
      refine hK _ _ ?_ (fun h => by cases h)
      intro s hs
      cases hs
      exact ⟨hB, (fun _ => rfl), c1, c2, c3, c4, c5, c6, c7, c8, c9, c10, c11, c12, c13, c14, c15, pre0, pre1, ini0, id0, ini1, id1, ini2, id2, ini3, id3, ini4, id4⟩
     case s1r1 =>
      rintro L u W ⟨hB, c0, c1, c2, c3, c4, c5, c6, c7, c8, c9, c10, c11, c12, c13, c14, c15, pre0, pre1, ini0, id0, ini1, id1, ini2, id2, ini3, id3, ini4, id4⟩ hf hd K hK
      dsimp only at hK
      clear hd
      go_simp
      refine hK _ _ ?_ (fun h => by cases h)
      intro s hs
      cases hs
      exact ⟨hB, c0, (fun _ => rfl), c2, c3, c4, c5, c6, c7, c8, c9, c10, c11, c12, c13, c14, c15, pre0, pre1, ini0, id0, ini1, id1, ini2, id2, ini3, id3, ini4, id4⟩
     case s2r1 =>
      rintro L u W ⟨hB, c0, c1, c2, c3, c4, c5, c6, c7, c8, c9, c10, c11, c12, c13, c14, c15, pre0, pre1, ini0, id0, ini1, id1, ini2, id2, ini3, id3, ini4, id4⟩ hf hd K hK
      dsimp only at hK
      have hd1 : L 1 = true := (by first | exact hd ⟨1, .data⟩ (by simp) rfl | exact hd ⟨1, .guard⟩ (by simp) rfl | exact hd ⟨1, .phase⟩ (by simp) rfl | exact hd ⟨1, .chain⟩ (by simp) rfl);have e1 := c1 hd1;rw [e1] at hK;clear hd1;clear hd
      go_simp
      refine hK _ _ ?_ (fun h => by cases h)
      intro s hs
      cases hs
      exact ⟨hB, c0, c1, (fun _ => rfl), c3, c4, c5, c6, c7, c8, c9, c10, c11, c12, c13, c14, c15, pre0, pre1, ini0, id0, ini1, id1, ini2, id2, ini3, id3, ini4, id4⟩
     case s3r1 =>
      rintro L u W ⟨hB, c0, c1, c2, c3, c4, c5, c6, c7, c8, c9, c10, c11, c12, c13, c14, c15, pre0, pre1, ini0, id0, ini1, id1, ini2, id2, ini3, id3, ini4, id4⟩ hf hd K hK
      dsimp only at hK
      have hd2 : L 2 = true := (by first | exact hd ⟨2, .data⟩ (by simp) rfl | exact hd ⟨2, .guard⟩ (by simp) rfl | exact hd ⟨2, .phase⟩ (by simp) rfl | exact hd ⟨2, .chain⟩ (by simp) rfl);have e2 := c2 hd2;rw [e2] at hK;clear hd2;clear hd
      go_simp
      refine hK _ _ ?_ (fun h => by cases h)
      intro s hs
      cases hs
      exact ⟨hB, c0, c1, c2, (fun _ => rfl), c4, c5, c6, c7, c8, c9, c10, c11, c12, c13, c14, c15, pre0, pre1, ini0, id0, ini1, id1, ini2, id2, ini3, id3, ini4, id4⟩
     case s4r1 =>
      rintro L u W ⟨hB, c0, c1, c2, c3, c4, c5, c6, c7, c8, c9, c10, c11, c12, c13, c14, c15, pre0, pre1, ini0, id0, ini1, id1, ini2, id2, ini3, id3, ini4, id4⟩ hf hd K hK
      dsimp only at hK
      have hd3 : L 3 = true := (by first | exact hd ⟨3, .data⟩ (by simp) rfl | exact hd ⟨3, .guard⟩ (by simp) rfl | exact hd ⟨3, .phase⟩ (by simp) rfl | exact hd ⟨3, .chain⟩ (by simp) rfl);have e3 := c3 hd3;rw [e3] at hK;have t0 := (pre0 (by cases h9 : L 15 with | false => rfl | true => rw [id1 (id0 h9)] at hf; cases hf)).1.cell (i := 1) (v := fv) rfl;clear hd3;clear hd
      go_simp
      refine hK _ _ ?_ (fun h => by cases h)
      intro s hs
      cases hs
      exact ⟨hB, c0, c1, c2, c3, (fun _ => rfl), c5, c6, c7, c8, c9, c10, c11, c12, c13, c14, c15, pre0, pre1, ini0, id0, ini1, (fun _ => rfl), ini2, id2, ini3, id3, ini4, id4⟩
     case s5r1 =>
      rintro L u W ⟨hB, c0, c1, c2, c3, c4, c5, c6, c7, c8, c9, c10, c11, c12, c13, c14, c15, pre0, pre1, ini0, id0, ini1, id1, ini2, id2, ini3, id3, ini4, id4⟩ hf hd K hK
      dsimp only at hK
      clear hd
      go_simp
      refine hK _ _ ?_ (fun h => by cases h)
      intro s hs
      cases hs
      exact ⟨hB, c0, c1, c2, c3, c4, (fun _ => rfl), c6, c7, c8, c9, c10, c11, c12, c13, c14, c15, pre0, pre1, ini0, id0, ini1, id1, ini2, id2, ini3, id3, ini4, id4⟩
     case s6r1 =>
      rintro L u W ⟨hB, c0, c1, c2, c3, c4, c5, c6, c7, c8, c9, c10, c11, c12, c13, c14, c15, pre0, pre1, ini0, id0, ini1, id1, ini2, id2, ini3, id3, ini4, id4⟩ hf hd K hK
      dsimp only at hK
      have hd5 : L 5 = true := (by first | exact hd ⟨5, .data⟩ (by simp) rfl | exact hd ⟨5, .guard⟩ (by simp) rfl | exact hd ⟨5, .phase⟩ (by simp) rfl | exact hd ⟨5, .chain⟩ (by simp) rfl);have e5 := c5 hd5;rw [e5] at hK;clear hd5;clear hd
      go_simp
      refine hK _ _ ?_ (fun h => by cases h)
      intro s hs
      cases hs
      exact ⟨hB, c0, c1, c2, c3, c4, c5, (fun _ => rfl), c7, c8, c9, c10, c11, c12, c13, c14, c15, pre0, pre1, ini0, id0, ini1, id1, ini2, id2, ini3, id3, ini4, id4⟩
     case s7r1 =>
      rintro L u W ⟨hB, c0, c1, c2, c3, c4, c5, c6, c7, c8, c9, c10, c11, c12, c13, c14, c15, pre0, pre1, ini0, id0, ini1, id1, ini2, id2, ini3, id3, ini4, id4⟩ hf hd K hK
      dsimp only at hK
      have hd6 : L 6 = true := (by first | exact hd ⟨6, .data⟩ (by simp) rfl | exact hd ⟨6, .guard⟩ (by simp) rfl | exact hd ⟨6, .phase⟩ (by simp) rfl | exact hd ⟨6, .chain⟩ (by simp) rfl);have e6 := c6 hd6;rw [e6] at hK;clear hd6;clear hd
      go_simp
      refine hK _ _ ?_ (fun h => by cases h)
      intro s hs
      cases hs
      exact ⟨hB, c0, c1, c2, c3, c4, c5, c6, (fun _ => rfl), c8, c9, c10, c11, c12, c13, c14, c15, pre0, pre1, ini0, id0, ini1, id1, ini2, id2, ini3, id3, ini4, id4⟩
     case s8r1 =>
      rintro L u W ⟨hB, c0, c1, c2, c3, c4, c5, c6, c7, c8, c9, c10, c11, c12, c13, c14, c15, pre0, pre1, ini0, id0, ini1, id1, ini2, id2, ini3, id3, ini4, id4⟩ hf hd K hK
      dsimp only at hK
      have hd7 : L 7 = true := (by first | exact hd ⟨7, .data⟩ (by simp) rfl | exact hd ⟨7, .guard⟩ (by simp) rfl | exact hd ⟨7, .phase⟩ (by simp) rfl | exact hd ⟨7, .chain⟩ (by simp) rfl);have e7 := c7 hd7;rw [e7] at hK;have t0 := (pre0 (by cases h9 : L 15 with | false => rfl | true => rw [id4 (id3 (id2 (id0 h9)))] at hf; cases hf)).1.cell (i := 0) (v := .pointer (some ⟨gl, 0, none⟩)) rfl;clear hd7;clear hd
      go_simp
      refine hK _ _ ?_ (fun h => by cases h)
      intro s hs
      cases hs
      exact ⟨hB, c0, c1, c2, c3, c4, c5, c6, c7, (fun _ => rfl), c9, c10, c11, c12, c13, c14, c15, pre0, pre1, ini0, id0, ini1, id1, ini2, id2, ini3, id3, ini4, (fun _ => rfl)⟩
     case s9r1 =>
      rintro L u W ⟨hB, c0, c1, c2, c3, c4, c5, c6, c7, c8, c9, c10, c11, c12, c13, c14, c15, pre0, pre1, ini0, id0, ini1, id1, ini2, id2, ini3, id3, ini4, id4⟩ hf hd K hK
      dsimp only at hK
      clear hd
      go_simp
      refine hK _ _ ?_ (fun h => by cases h)
      intro s hs
      cases hs
      exact ⟨hB, c0, c1, c2, c3, c4, c5, c6, c7, c8, (fun _ => rfl), c10, c11, c12, c13, c14, c15, pre0, pre1, ini0, id0, ini1, id1, ini2, id2, ini3, id3, ini4, id4⟩
     case s10r1 =>
      rintro L u W ⟨hB, c0, c1, c2, c3, c4, c5, c6, c7, c8, c9, c10, c11, c12, c13, c14, c15, pre0, pre1, ini0, id0, ini1, id1, ini2, id2, ini3, id3, ini4, id4⟩ hf hd K hK
      dsimp only at hK
      have hdi4 : L 8 = true := (by first | exact hd ⟨8, .data⟩ (by simp) rfl | exact hd ⟨8, .phase⟩ (by simp) rfl | exact hd ⟨8, .chain⟩ (by simp) rfl);replace hdi4 := Lib.hid hdi4;have hd8 : L 8 = true := (by first | exact hd ⟨8, .data⟩ (by simp) rfl | exact hd ⟨8, .guard⟩ (by simp) rfl | exact hd ⟨8, .phase⟩ (by simp) rfl | exact hd ⟨8, .chain⟩ (by simp) rfl);have hd9 : L 9 = true := (by first | exact hd ⟨9, .data⟩ (by simp) rfl | exact hd ⟨9, .guard⟩ (by simp) rfl | exact hd ⟨9, .phase⟩ (by simp) rfl | exact hd ⟨9, .chain⟩ (by simp) rfl);have e8 := c8 hd8;rw [e8] at hK;have e9 := c9 hd9;rw [e9] at hK;clear hd8;clear hd9
      have sl := pre0 (by cases h9 : L 15 with | false => rfl | true => rw [id3 (id2 (id0 h9))] at hf; cases hf); have ctr := Lib.hid (LF.out k hlt W (HB.out.trans (hB.mono (Nat.le_succ _))) sl.2.1)
      clear hd
      go_simp
      go_wp2_with (go_at_call 23; ((with_reducible refine (ctr.out).mono ?_); rintro e w5 ⟨rfl, hb⟩))
      refine hK _ _ ?_ (fun h => by cases h)
      intro s hs
      cases hs
      exact ⟨hB.trans (hb.mono (Nat.le_trans hbound hB.size)), c0, c1, c2, c3, c4, c5, c6, c7, c8, c9, (fun _ => rfl), (fun h k => (c11 h k).keep hb), (fun h k => (c12 h k).keep hb), c13, c14, (fun h => (c15 h).keep hb), (fun h => (pre0 h).keep hb), (fun h => (pre1 h).keep hb), ini0, id0, ini1, id1, ini2, id2, ini3, (fun _ => rfl), (fun h => by cases h), (fun _ => hdi4.out)⟩
     case s11r1 =>
      rintro L u W ⟨hB, c0, c1, c2, c3, c4, c5, c6, c7, c8, c9, c10, c11, c12, c13, c14, c15, pre0, pre1, ini0, id0, ini1, id1, ini2, id2, ini3, id3, ini4, id4⟩ hf hd K hK
      dsimp only at hK
      have hdi3 : L 10 = true := (by first | exact hd ⟨10, .data⟩ (by simp) rfl | exact hd ⟨10, .phase⟩ (by simp) rfl | exact hd ⟨10, .chain⟩ (by simp) rfl);replace hdi3 := Lib.hid hdi3;have hd10 : L 10 = true := (by first | exact hd ⟨10, .data⟩ (by simp) rfl | exact hd ⟨10, .guard⟩ (by simp) rfl | exact hd ⟨10, .phase⟩ (by simp) rfl | exact hd ⟨10, .chain⟩ (by simp) rfl);have e10 := c10 hd10;rw [e10] at hK;clear hd10;clear hd
      go_simp
      have hb : Below W.heap.size W (W.alloc (.cells #[.int .i64 (fA k), .int .i64 (fS k), .bool (fK k)] 53)) := (Below.refl _ W).alloc (Nat.le_refl _) _
      refine hK _ _ ?_ (fun h => by cases h)
      intro s hs
      cases hs
      exact ⟨hB.trans (hb.mono (Nat.le_trans hbound hB.size)), c0, c1, c2, c3, c4, c5, c6, c7, c8, c9, c10, (fun _ _ => ⟨_, rfl, Lok.new _ _ _⟩), (fun h k => (c12 h k).keep hb), c13, c14, (fun h => (c15 h).keep hb), (fun h => (pre0 h).keep hb), (fun h => (pre1 h).keep hb), ini0, id0, ini1, id1, ini2, (fun _ => rfl), (fun h => by cases h), (fun _ => hdi3.out), ini4, id4⟩
     case s12r1 =>
      rintro L u W ⟨hB, c0, c1, c2, c3, c4, c5, c6, c7, c8, c9, c10, c11, c12, c13, c14, c15, pre0, pre1, ini0, id0, ini1, id1, ini2, id2, ini3, id3, ini4, id4⟩ hf hd K hK
      dsimp only at hK
      have hdi1 : L 4 = true := (by first | exact hd ⟨4, .data⟩ (by simp) rfl | exact hd ⟨4, .phase⟩ (by simp) rfl | exact hd ⟨4, .chain⟩ (by simp) rfl);replace hdi1 := Lib.hid hdi1;have hdi2 : L 11 = true := (by first | exact hd ⟨11, .data⟩ (by simp) rfl | exact hd ⟨11, .phase⟩ (by simp) rfl | exact hd ⟨11, .chain⟩ (by simp) rfl);replace hdi2 := Lib.hid hdi2;have hd4 : L 4 = true := (by first | exact hd ⟨4, .data⟩ (by simp) rfl | exact hd ⟨4, .guard⟩ (by simp) rfl | exact hd ⟨4, .phase⟩ (by simp) rfl | exact hd ⟨4, .chain⟩ (by simp) rfl);have hd11 : L 11 = true := (by first | exact hd ⟨11, .data⟩ (by simp) rfl | exact hd ⟨11, .guard⟩ (by simp) rfl | exact hd ⟨11, .phase⟩ (by simp) rfl | exact hd ⟨11, .chain⟩ (by simp) rfl);have e4 := c4 hd4;have e11 := c11 hd11 (by first | exact hf | assumption);clear hd4;clear hd11;clear hd
      refine Eq.mpr (if_pos rfl) ?_
      obtain ⟨g5, eg, lg⟩ := e11
      refine app_act _ _ 70 53 _ 3 24 Tryz.underlying70 infoFc rfl (by decide) rfl B6 fv k (fcL fA fS fK k) _ rfl (fun u hu => by simp at hu; rcases hu with rfl | rfl | rfl <;> rfl) e4 (pre1 hf) g5 1 eg lg (by omega) (by omega) (Nat.le_trans hz6 hB.size) ?_
      intro v5 W5 q' hb'
      have q : OwnR W5 B6 53 3 v5 (k + 1) (fcL fA fS fK (k + 1)) := q';have hb : Below (w.heap.size + 1) W W5 := hb'.mono hB6;have hk0 := fun (h : StA W g gl eb tb n4 MC fv) => h.keepB hb' hlt4
      refine hK _ _ ?_ (fun h => by cases h)
      intro s hs
      cases hs
      exact ⟨hB.trans hb, c0, c1, c2, c3, (fun h => by first | rfl | exact c4 h), c5, c6, c7, c8, c9, c10, (fun _ h => by cases h), (fun _ _ => q), c13, c14, (fun h => by have z := id0 h; rw [hf] at z; cases z), (fun h => hk0 (pre0 h)), (fun h => by cases h), ini0, (fun _ => rfl), (fun h => by cases h), (fun _ => hdi1.out), (fun h => by cases h), (fun _ => hdi2.out), ini3, id3, ini4, id4⟩
     case s13r1 =>
      rintro L u W ⟨hB, c0, c1, c2, c3, c4, c5, c6, c7, c8, c9, c10, c11, c12, c13, c14, c15, pre0, pre1, ini0, id0, ini1, id1, ini2, id2, ini3, id3, ini4, id4⟩ hf hd K hK
      dsimp only at hK
      have hd0 : L 0 = true := (by first | exact hd ⟨0, .data⟩ (by simp) rfl | exact hd ⟨0, .guard⟩ (by simp) rfl | exact hd ⟨0, .phase⟩ (by simp) rfl | exact hd ⟨0, .chain⟩ (by simp) rfl);have e0 := c0 hd0;rw [e0] at hK;clear hd0;clear hd
      go_simp
      refine hK _ _ ?_ (fun h => by cases h)
      intro s hs
      cases hs
      exact ⟨hB, c0, c1, c2, c3, c4, c5, c6, c7, c8, c9, c10, c11, c12, (fun _ => rfl), c14, c15, pre0, pre1, ini0, id0, ini1, id1, ini2, id2, ini3, id3, ini4, id4⟩
     case s14r1 =>
      rintro L u W ⟨hB, c0, c1, c2, c3, c4, c5, c6, c7, c8, c9, c10, c11, c12, c13, c14, c15, pre0, pre1, ini0, id0, ini1, id1, ini2, id2, ini3, id3, ini4, id4⟩ hf hd K hK
      dsimp only at hK
      have hd13 : L 13 = true := (by first | exact hd ⟨13, .data⟩ (by simp) rfl | exact hd ⟨13, .guard⟩ (by simp) rfl | exact hd ⟨13, .phase⟩ (by simp) rfl | exact hd ⟨13, .chain⟩ (by simp) rfl);have e13 := c13 hd13;rw [e13] at hK;clear hd13;clear hd
      go_simp
      refine hK _ _ ?_ (fun h => by cases h)
      intro s hs
      cases hs
      exact ⟨hB, c0, c1, c2, c3, c4, c5, c6, c7, c8, c9, c10, c11, c12, c13, (fun _ => rfl), c15, pre0, pre1, ini0, id0, ini1, id1, ini2, id2, ini3, id3, ini4, id4⟩
     case s15r1 =>
      rintro L u W ⟨hB, c0, c1, c2, c3, c4, c5, c6, c7, c8, c9, c10, c11, c12, c13, c14, c15, pre0, pre1, ini0, id0, ini1, id1, ini2, id2, ini3, id3, ini4, id4⟩ hf hd K hK
      dsimp only at hK
      have hdi0 : L 12 = true := (by first | exact hd ⟨12, .data⟩ (by simp) rfl | exact hd ⟨12, .phase⟩ (by simp) rfl | exact hd ⟨12, .chain⟩ (by simp) rfl);replace hdi0 := Lib.hid hdi0;have hd12 : L 12 = true := (by first | exact hd ⟨12, .data⟩ (by simp) rfl | exact hd ⟨12, .guard⟩ (by simp) rfl | exact hd ⟨12, .phase⟩ (by simp) rfl | exact hd ⟨12, .chain⟩ (by simp) rfl);have hd14 : L 14 = true := (by first | exact hd ⟨14, .data⟩ (by simp) rfl | exact hd ⟨14, .guard⟩ (by simp) rfl | exact hd ⟨14, .phase⟩ (by simp) rfl | exact hd ⟨14, .chain⟩ (by simp) rfl);have e12 := c12 hd12 (by first | exact hf | assumption);have e14 := c14 hd14;have hdx12 := Lib.hid hd12;clear hd12;clear hd14;clear hd;obtain ⟨aQ, cQ, eQ⟩ := ownR_slc e12;rw [e14] at hK;rw [eQ] at hK e12;have k0 := Lib.hid (pre0 hf);have O7 := Lib.hid e12;have t0 := k0.out.1.cell (i := 1) (v := fv) rfl;have f0 := k0.out.1.frozen 1;clear e12
      go_simp
      have hb : Below (w.heap.size + 1) W (W.setCell ⟨g, 1, none⟩ (.slice aQ (k + 1) cQ)) := (Below.refl _ W).setCell (p := ⟨g, 1, none⟩) (show w.heap.size + 1 ≤ g from hge.1) _;have q : FaK (W.setCell ⟨g, 1, none⟩ (.slice aQ (k + 1) cQ)) B6 g gl eb tb n4 MC fA fS fK (k + 1) := ⟨_, k0.out.set _, ownsRow_setCell_below O7.out (a := ⟨g, 1, none⟩) hlt4.1 _⟩;have hk1 := fun (h : OwnR W B6 53 3 fv k (fcL fA fS fK k)) => (ownsRow_setCell_below h (a := ⟨g, 1, none⟩) hlt4.1 (.slice aQ (k + 1) cQ) : OwnR _ B6 53 3 fv k (fcL fA fS fK k))
      refine hK undef _ (fun s h => by cases h) (fun _ => ?_)
      exact ⟨hB.trans hb, c0, c1, c2, c3, c4, c5, c6, c7, c8, c9, c10, (fun _ h => by have z := hdx12.out; rw [show L 12 = false from h] at z; cases z), (fun _ h => by cases h), c13, (fun h => by first | rfl | exact c14 h), (fun _ => q), (fun h => by cases h), (fun h => hk1 (pre1 h)), (fun h => by cases h), (fun _ => hdi0.out), ini1, id1, ini2, id2, ini3, id3, ini4, id4⟩
    case finr1 =>
     rintro L u W hL ⟨hB, c0, c1, c2, c3, c4, c5, c6, c7, c8, c9, c10, c11, c12, c13, c14, c15, pre0, pre1, ini0, id0, ini1, id1, ini2, id2, ini3, id3, ini4, id4⟩
     have e0 := c0 (hL 0 (by decide));have e1 := c1 (hL 1 (by decide));have e2 := c2 (hL 2 (by decide));have e3 := c3 (hL 3 (by decide));have e4 := c4 (hL 4 (by decide));have e5 := c5 (hL 5 (by decide));have e6 := c6 (hL 6 (by decide));have e7 := c7 (hL 7 (by decide));have e8 := c8 (hL 8 (by decide));have e9 := c9 (hL 9 (by decide));have e10 := c10 (hL 10 (by decide));have e13 := c13 (hL 13 (by decide));have e14 := c14 (hL 14 (by decide));have kq15 := c15 (hL 15 (by decide));clear hL c0 c1 c2 c3 c4 c5 c6 c7 c8 c9 c10 c11 c12 c13 c14 c15 pre0 pre1 ini0 id0 ini1 id1 ini2 id2 ini3 id3 ini4 id4
     try simp only [e0, e1, e2, e3, e4, e5, e6, e7, e8, e9, e10, e13, e14]
     clear e0 e1 e2 e3 e4 e5 e6 e7 e8 e9 e10 e13 e14;obtain ⟨fv9, sa9, so9⟩ := kq15;have SA9 := Lib.hid sa9;have SO9 := Lib.hid so9;have BN := Lib.hid (HB.out.trans (hB.mono (Nat.le_succ _)));have KM9 := Lib.hid (KM.out.keepB hB (Nat.lt_succ_self _));have hz9 := Nat.le_trans hz6 hB.size;clear sa9 so9 hB HB s0 s1
     go_wp2
     go_roundw
     case rel => exact ⟨k + 1, fv9, by go_num, hlt, SA9.out, SO9.out, BN.out, hz9, KM9.out⟩
     case measure => simp [intOf]; omega
   ·obtain rfl : k = n4 := by omega
    have hms : msB n1 n2 n3 k FV FT FN FC = true := (Bool.and_eq_true_iff.1 HT.out).2;have ED := Lib.hid (fun W (h : Below w.heap.size w W) => edgesE_any pa1 pa2 pa3 pa4 n1 n2 n3 k cs1 cs2 cs3 cs4 FV FT FN FC W (M.out.keep h) h20);rw [hms, show agE true = 0 from rfl, show egA true FC k n1 = eaL FC k n1 n1 from rfl] at ED;clear hms LF hB6 HB6;have m0 := KM.out.cell (i := 0) rfl;have m1 := KM.out.cell (i := 1) rfl;have m2 := KM.out.cell (i := 2) rfl;have m3 := KM.out.cell (i := 3) rfl
    go_wp2_with fail
    ((with_reducible refine (ED.out _ HB.out).mono ?_); rintro e w8 ⟨⟨v, Z, rfl, hZ, hZe⟩, hb8⟩);clear m0 m1 m2 m3 ED KM;have hfvl := fun b (q : fv.ownBlock = some b) => (World.ownsRow.lt OF.out b q);have SB : Hid (StB w8 w.heap.size g gl eb tb k MC fv (fcL fA fS fK k) (fun _ => .slice none 0 0)) := Lib.hid ⟨SA.out.1.keep hb8, SA.out.2.1.keep hb8, SA.out.2.2.1.keep hb8, SA.out.2.2.2.keep hb8, ownR_mono (OF.out.keep hb8) (by omega)⟩
    have hlt7 : g < wr.heap.size ∧ gl < wr.heap.size ∧ eb < wr.heap.size ∧ tb < wr.heap.size := by omega
    have hfv7 : Hid (∀ b, fv.ownBlock = some b → b < wr.heap.size) := Lib.hid (fun b q => (hfvl b q).2);have HB8 := Lib.hid (HB.out.trans (hb8.mono HB.out.size));have O8 := Lib.hid hZ;have AB := Lib.hid (AbP.refl wr.heap.size w8);have EC : Hid (EcW w8 w8.heap.size k (fun _ => .slice none 0 0) (fun j => esL (Z.map edC) (j : Int) 0)) := Lib.hid ⟨fun j _ => OwnI.nil _ _, fun i j _ _ _ b q => by cases q⟩;have h78 := hb8.size;obtain ⟨EL, hELe⟩ : ∃ EL, EL = Z.map edC := ⟨_, rfl⟩;rw [← hELe] at EC;rw [← hELe] at hZe;have HZ := Lib.hid (And.intro hELe hZe)
    have hZl : Z.length = EL.length := by rw [hELe, List.length_map]
    have hELn : EL.length ≤ 1000 := by rw [hZe]; exact HEL.out
    have HTR : Hid (∀ q (hq : q < Z.length), (∀ x ∈ Z[q].2.2.1, ∃ i : Nat, x = (i : Int) ∧ i < k) ∧ Z[q].2.2.1.Pairwise (· < ·) ∧ Z[q].2.2.1.length ≤ k ∧ (EL.getD q (0, 0, [])).2.2 = Z[q].2.2.1) := Lib.hid (fun q hq => by
     have hin : edC Z[q] ∈ eaL FC k n1 n1 := by rw [← hZe, hELe]; exact List.mem_map_of_mem (List.getElem_mem hq)
     obtain ⟨a, b, _, _, e, _⟩ := ea_iff.1 hin
     have e3 : Z[q].2.2.1 = thL FC a b k := by
      have := congrArg (fun x => x.2.2) e
      exact this
     refine ⟨fun x hx => ?_, ?_, ?_, ?_⟩
     ·rw [e3] at hx
      obtain ⟨i, hi, rfl, _⟩ := th_mem.1 hx
      exact ⟨i, rfl, hi⟩
     ·rw [e3]; exact th_rise FC a b k
     ·rw [e3]; exact thL_len FC a b k
     ·rw [hELe, List.getD_eq_getElem?_getD, List.getElem?_map, List.getElem?_eq_getElem hq]; rfl)
    clear hZ hZe hELe hb8 SA OF HB HEL hfvl hz6 hlt4;obtain ⟨aZ, cZ, hvZ⟩ := ownR_slc O8.out.1;subst hvZ;generalize wr.heap.size = B7 at *
    go_wp2_with fail
    clear wr
    go_loopw [53] (fun x wr => ∃ (q : Nat) (ec : Nat → Value), x = .int .i64 q ∧ q ≤ Z.length ∧ StB wr w.heap.size g gl eb tb k MC fv (fcL fA fS fK k) ec ∧ EcW wr w8.heap.size k ec (fun j => esL EL (j : Int) q) ∧ AbP B7 w8 wr ∧ Below w.heap.size w wr) (fun x _ => Z.length - (intOf x).toNat)
    case atStart => exact ⟨0, _, rfl, Nat.zero_le _, SB.out, EC.out, AB.out, HB8.out⟩
    case round =>
     clear SB EC AB HB8;obtain ⟨q, ec, rfl, hq, hS, hE, hA, hB⟩ := hrel;have SB := Lib.hid hS;have EC := Lib.hid hE;have AB := Lib.hid hA;have HB := Lib.hid hB;clear hS hE hA hB
     by_cases hqz : q < Z.length
     ·obtain ⟨gE, cap, tR, cR, hv, hzv, e0, e1, e2, hRI⟩ := ownE_at (ownE_ab O8.out AB.out) hqz
      obtain ⟨hT1, hT2, hT3, hT4⟩ := HTR.out q hqz
      injection hv with hv1 _ hv3
      subst hv1 hv3;have HV := Lib.hid hzv;have T1 := Lib.hid hT1;have T2 := Lib.hid hT2;have T4 := Lib.hid hT4;clear hzv hT1 hT2 hT4 hRI;have HLn := Lib.hid (show (Z[q]).2.2.1.length = (Z[q]).2.2.1.length from rfl);obtain ⟨LS, hL⟩ : ∃ LS, LS = Z[q].2.2.1 := ⟨_, rfl⟩;rw [← hL] at HV T1 T2 T4 e2 hT3;have HLL := Lib.hid hL;clear hL HLn;generalize Z[q].1 = ea at *;generalize Z[q].2.1 = eb2 at *
      have q0 : (0 : Int) ≤ (q : Int) := by omega
      have q1 : (q : Int) < (Z.length : Int) := by omega
      have q2 : ((q : Int)).toNat = q := by omega
      go_upto_region 12 with fail
      have hbe := below_new1 wr (.cells #[.int .i64 ea, .int .i64 eb2, .slice tR LS.length cR] 100);have ke := Lib.hid (Lok.new wr 100 #[.int .i64 ea, .int .i64 eb2, .slice tR LS.length cR]);replace SB := Lib.hid (SB.out.keep hbe);replace EC := Lib.hid (EC.out.keep hbe);replace AB := Lib.hid (AB.out.keep hbe);replace HB := Lib.hid (HB.out.trans (hbe.mono HB.out.size));clear hbe e0 e1 e2;generalize wr.alloc (.cells #[.int .i64 ea, .int .i64 eb2, .slice tR LS.length cR] 100) = V1 at *;have e2 := ke.out.cell (i := 2) rfl
      go_wp2_with fail
      clear e2 ke
      go_loopw [61] (fun x wr => ∃ (p : Nat) (ec : Nat → Value), x = .int .i64 p ∧ p ≤ LS.length ∧ StB wr w.heap.size g gl eb tb k MC fv (fcL fA fS fK k) ec ∧ EcW wr w8.heap.size k ec (esP EL q LS p) ∧ AbP B7 w8 wr ∧ Below w.heap.size w wr) (fun x _ => LS.length - (intOf x).toNat)
      case atStart => exact ⟨0, _, rfl, Nat.zero_le _, SB.out, EC.out.congr fun j _ => esP_none EL q LS j, AB.out, HB.out⟩
      case round =>
       clear SB EC AB HB;obtain ⟨p, ec, rfl, hp, hS, hE, hA, hB⟩ := hrel;have SB := Lib.hid hS;have EC := Lib.hid hE;have AB := Lib.hid hA;have HB := Lib.hid hB;clear hS hE hA hB
       by_cases hpl : p < LS.length
       ·obtain ⟨i, hi, hik⟩ := T1.out (LS.getD p 0) (mem_at hpl)
        have RI : Hid (RowI wr tR LS.length LS) := Lib.hid (by
         obtain ⟨_, _, t', c', _, hzv', _, _, _, hr'⟩ := ownE_at (ownE_ab O8.out AB.out) hqz;rw [← HLL.out] at hzv' hr';rw [HV.out] at hzv'
         injection hzv' with z1 _ _
         rw [z1]; exact hr')
        obtain ⟨b, o, hab, hb, hc⟩ := RI.out.at hpl;subst hab;have x0 := hc p hpl;rw [hi] at x0;have HI := Lib.hid hi
        have p0 : (0 : Int) ≤ (p : Int) := by omega
        have p1 : (p : Int) < (LS.length : Int) := by omega
        have p2 : ((p : Int)).toNat = p := by omega
        have i0 : (0 : Int) ≤ (i : Int) := by omega
        have i1 : (i : Int) < (k : Int) := by omega
        have i2 : ((i : Int)).toNat = i := by omega
        clear hc hb hi
        go_upto_region 15 with fail
        clear x0;have s0 := SB.out;have s1 := EC.out;have s2 := AB.out;have hbound : w.heap.size ≤ wr.heap.size := HB.out.size;have h8r := AB.out.1
        have hw8 : w.heap.size ≤ w8.heap.size := by omega
        have hlt8 : g < w8.heap.size ∧ gl < w8.heap.size ∧ eb < w8.heap.size ∧ tb < w8.heap.size := by omega
        have hfv8 : Hid (∀ b, fv.ownBlock = some b → b < w8.heap.size) := Lib.hid (fun b z => Nat.lt_of_lt_of_le (hfv7.out b z) h78);have s3 : StC wr w.heap.size g gl eb tb k MC fv (fcL fA fS fK k) ec B7 w8 := ⟨s0, s2⟩
        refine wp_region_rel2 (by kernel_rfl) [65, 66, 67, 68, 69, 70, 71, 72, 73, 74, 75, 76, 77, 78, 79, 80] ?Fr2 ?hFr2
         (fun L u W => Below (w.heap.size) wr W ∧ (L 0 = true → u 65 = .pointer (some ⟨g, 0, none⟩)) ∧ (L 1 = true → u 66 = .pointer (some ⟨g, 0, none⟩)) ∧ (L 2 = true → u 67 = .pointer (some ⟨g, 2, none⟩)) ∧ (L 3 = true → u 68 = .slice (some ⟨eb, 0, none⟩) k k) ∧ (L 4 = true → u 69 = .int .i64 (i : Int)) ∧ (L 5 = true → u 70 = .pointer (some ⟨g, 0, none⟩)) ∧ (L 6 = true → u 71 = .pointer (some ⟨g, 0, none⟩)) ∧ (L 7 = true → u 72 = .pointer (some ⟨g, 2, none⟩)) ∧ (L 8 = true → u 73 = .slice (some ⟨eb, 0, none⟩) k k) ∧ (L 9 = true → u 74 = .int .i64 (i : Int)) ∧ (L 10 = true → u 75 = .pointer (some ⟨eb, i, none⟩)) ∧ (L 11 = true → u 76 = ec i) ∧ (L 12 = true → u 77 = .int .i64 (q : Int)) ∧ (L 13 = true → L 14 = false → RowAt W (u 78) 1 3 #[.int .i64 (q : Int)]) ∧ (L 14 = true → L 16 = false → EcN W w8.heap.size k i ec (esP EL q LS p) (q : Int) (u 79)) ∧ (L 15 = true → u 80 = .pointer (some ⟨eb, i, none⟩)) ∧ (L 16 = true → EcK W w8.heap.size w.heap.size g gl eb tb k MC fv (fcL fA fS fK k) (esP EL q LS (p + 1)) B7 w8) ∧ (L 16 = false → StC W w.heap.size g gl eb tb k MC fv (fcL fA fS fK k) ec B7 w8) ∧ (L 14 = false → EcW W w8.heap.size k ec (esP EL q LS p)) ∧ (L 16 = false → True) ∧ (L 16 = true → L 14 = true) ∧ (L 14 = false → True) ∧ (L 14 = true → L 11 = true) ∧ (L 11 = false → True) ∧ (L 11 = true → L 10 = true) ∧ (L 10 = false → True) ∧ (L 10 = true → L 8 = true) ∧ (L 16 = false → True) ∧ (L 16 = true → L 15 = true) ∧ (L 15 = false → True) ∧ (L 15 = true → L 3 = true)) (by kernel_rfl) (by kernel_rfl) 17 rfl ?h0r2 ?stepr2 ?finr2
        case hFr2 => intro u; simp only [putAll, Act.put, List.setIfInBounds_toArray, List.set]; exact rfl
        case h0r2 => intro L hL; exact ⟨(Below.refl _ _).drew, (fun h => by simp [hL] at h), (fun h => by simp [hL] at h), (fun h => by simp [hL] at h), (fun h => by simp [hL] at h), (fun h => by simp [hL] at h), (fun h => by simp [hL] at h), (fun h => by simp [hL] at h), (fun h => by simp [hL] at h), (fun h => by simp [hL] at h), (fun h => by simp [hL] at h), (fun h => by simp [hL] at h), (fun h => by simp [hL] at h), (fun h => by simp [hL] at h), (fun h => by simp [hL] at h), (fun h => by simp [hL] at h), (fun h => by simp [hL] at h), (fun h => by simp [hL] at h), (fun _ => by assumption), (fun _ => by assumption), (fun _ => by first | rfl | trivial), (fun h => by simp [hL] at h), (fun _ => by first | rfl | trivial), (fun h => by simp [hL] at h), (fun _ => by first | rfl | trivial), (fun h => by simp [hL] at h), (fun _ => by first | rfl | trivial), (fun h => by simp [hL] at h), (fun _ => by first | rfl | trivial), (fun h => by simp [hL] at h), (fun _ => by first | rfl | trivial), (fun h => by simp [hL] at h)⟩
        case stepr2 =>
         refine ops_all (ops_cons ?s0r2 (ops_cons ?s1r2 (ops_cons ?s2r2 (ops_cons ?s3r2 (ops_cons ?s4r2 (ops_cons ?s5r2 (ops_cons ?s6r2 (ops_cons ?s7r2 (ops_cons ?s8r2 (ops_cons ?s9r2 (ops_cons ?s10r2 (ops_cons ?s11r2 (ops_cons ?s12r2 (ops_cons ?s13r2 (ops_cons ?s14r2 (ops_cons ?s15r2 (ops_cons ?s16r2 (ops_nil))))))))))))))))))
         case s0r2 =>
          rintro L u W ⟨hB, c0, c1, c2, c3, c4, c5, c6, c7, c8, c9, c10, c11, c12, c13, c14, c15, c16, pre0, pre1, ini0, id0, ini1, id1, ini2, id2, ini3, id3, ini4, id4, ini5, id5⟩ hf hd K hK
          dsimp only at hK
          clear hd
          go_simp
          refine hK _ _ ?_ (fun h => by cases h)
          intro s hs
          cases hs
          exact ⟨hB, (fun _ => rfl), c1, c2, c3, c4, c5, c6, c7, c8, c9, c10, c11, c12, c13, c14, c15, c16, pre0, pre1, ini0, id0, ini1, id1, ini2, id2, ini3, id3, ini4, id4, ini5, id5⟩
         case s1r2 =>
          rintro L u W ⟨hB, c0, c1, c2, c3, c4, c5, c6, c7, c8, c9, c10, c11, c12, c13, c14, c15, c16, pre0, pre1, ini0, id0, ini1, id1, ini2, id2, ini3, id3, ini4, id4, ini5, id5⟩ hf hd K hK
          dsimp only at hK
          have hd0 : L 0 = true := (by first | exact hd ⟨0, .data⟩ (by simp) rfl | exact hd ⟨0, .guard⟩ (by simp) rfl | exact hd ⟨0, .phase⟩ (by simp) rfl | exact hd ⟨0, .chain⟩ (by simp) rfl);have e0 := c0 hd0;rw [e0] at hK;clear hd0;clear hd
          go_simp
          refine hK _ _ ?_ (fun h => by cases h)
          intro s hs
          cases hs
          exact ⟨hB, c0, (fun _ => rfl), c2, c3, c4, c5, c6, c7, c8, c9, c10, c11, c12, c13, c14, c15, c16, pre0, pre1, ini0, id0, ini1, id1, ini2, id2, ini3, id3, ini4, id4, ini5, id5⟩
         case s2r2 =>
          rintro L u W ⟨hB, c0, c1, c2, c3, c4, c5, c6, c7, c8, c9, c10, c11, c12, c13, c14, c15, c16, pre0, pre1, ini0, id0, ini1, id1, ini2, id2, ini3, id3, ini4, id4, ini5, id5⟩ hf hd K hK
          dsimp only at hK
          have hd1 : L 1 = true := (by first | exact hd ⟨1, .data⟩ (by simp) rfl | exact hd ⟨1, .guard⟩ (by simp) rfl | exact hd ⟨1, .phase⟩ (by simp) rfl | exact hd ⟨1, .chain⟩ (by simp) rfl);have e1 := c1 hd1;rw [e1] at hK;clear hd1;clear hd
          go_simp
          refine hK _ _ ?_ (fun h => by cases h)
          intro s hs
          cases hs
          exact ⟨hB, c0, c1, (fun _ => rfl), c3, c4, c5, c6, c7, c8, c9, c10, c11, c12, c13, c14, c15, c16, pre0, pre1, ini0, id0, ini1, id1, ini2, id2, ini3, id3, ini4, id4, ini5, id5⟩
         case s3r2 =>
          rintro L u W ⟨hB, c0, c1, c2, c3, c4, c5, c6, c7, c8, c9, c10, c11, c12, c13, c14, c15, c16, pre0, pre1, ini0, id0, ini1, id1, ini2, id2, ini3, id3, ini4, id4, ini5, id5⟩ hf hd K hK
          dsimp only at hK
          have hd2 : L 2 = true := (by first | exact hd ⟨2, .data⟩ (by simp) rfl | exact hd ⟨2, .guard⟩ (by simp) rfl | exact hd ⟨2, .phase⟩ (by simp) rfl | exact hd ⟨2, .chain⟩ (by simp) rfl);have e2 := c2 hd2;rw [e2] at hK;have t0 := (pre0 (by cases h9 : L 16 with | false => rfl | true => rw [id5 (id4 h9)] at hf; cases hf)).1.1.cell (i := 2) (v := .slice (some ⟨eb, 0, none⟩) k k) rfl;clear hd2;clear hd
          go_simp
          refine hK _ _ ?_ (fun h => by cases h)
          intro s hs
          cases hs
          exact ⟨hB, c0, c1, c2, (fun _ => rfl), c4, c5, c6, c7, c8, c9, c10, c11, c12, c13, c14, c15, c16, pre0, pre1, ini0, id0, ini1, id1, ini2, id2, ini3, id3, ini4, id4, ini5, (fun _ => rfl)⟩
         case s4r2 =>
          rintro L u W ⟨hB, c0, c1, c2, c3, c4, c5, c6, c7, c8, c9, c10, c11, c12, c13, c14, c15, c16, pre0, pre1, ini0, id0, ini1, id1, ini2, id2, ini3, id3, ini4, id4, ini5, id5⟩ hf hd K hK
          dsimp only at hK
          clear hd
          go_simp
          refine hK _ _ ?_ (fun h => by cases h)
          intro s hs
          cases hs
          exact ⟨hB, c0, c1, c2, c3, (fun _ => rfl), c5, c6, c7, c8, c9, c10, c11, c12, c13, c14, c15, c16, pre0, pre1, ini0, id0, ini1, id1, ini2, id2, ini3, id3, ini4, id4, ini5, id5⟩
         case s5r2 =>
          rintro L u W ⟨hB, c0, c1, c2, c3, c4, c5, c6, c7, c8, c9, c10, c11, c12, c13, c14, c15, c16, pre0, pre1, ini0, id0, ini1, id1, ini2, id2, ini3, id3, ini4, id4, ini5, id5⟩ hf hd K hK
          dsimp only at hK
          clear hd
          go_simp
          refine hK _ _ ?_ (fun h => by cases h)
          intro s hs
          cases hs
          exact ⟨hB, c0, c1, c2, c3, c4, (fun _ => rfl), c6, c7, c8, c9, c10, c11, c12, c13, c14, c15, c16, pre0, pre1, ini0, id0, ini1, id1, ini2, id2, ini3, id3, ini4, id4, ini5, id5⟩
         case s6r2 =>
          rintro L u W ⟨hB, c0, c1, c2, c3, c4, c5, c6, c7, c8, c9, c10, c11, c12, c13, c14, c15, c16, pre0, pre1, ini0, id0, ini1, id1, ini2, id2, ini3, id3, ini4, id4, ini5, id5⟩ hf hd K hK
          dsimp only at hK
          have hd5 : L 5 = true := (by first | exact hd ⟨5, .data⟩ (by simp) rfl | exact hd ⟨5, .guard⟩ (by simp) rfl | exact hd ⟨5, .phase⟩ (by simp) rfl | exact hd ⟨5, .chain⟩ (by simp) rfl);have e5 := c5 hd5;rw [e5] at hK;clear hd5;clear hd
          go_simp
          refine hK _ _ ?_ (fun h => by cases h)
          intro s hs
          cases hs
          exact ⟨hB, c0, c1, c2, c3, c4, c5, (fun _ => rfl), c7, c8, c9, c10, c11, c12, c13, c14, c15, c16, pre0, pre1, ini0, id0, ini1, id1, ini2, id2, ini3, id3, ini4, id4, ini5, id5⟩
         case s7r2 =>
          rintro L u W ⟨hB, c0, c1, c2, c3, c4, c5, c6, c7, c8, c9, c10, c11, c12, c13, c14, c15, c16, pre0, pre1, ini0, id0, ini1, id1, ini2, id2, ini3, id3, ini4, id4, ini5, id5⟩ hf hd K hK
          dsimp only at hK
          have hd6 : L 6 = true := (by first | exact hd ⟨6, .data⟩ (by simp) rfl | exact hd ⟨6, .guard⟩ (by simp) rfl | exact hd ⟨6, .phase⟩ (by simp) rfl | exact hd ⟨6, .chain⟩ (by simp) rfl);have e6 := c6 hd6;rw [e6] at hK;clear hd6;clear hd
          go_simp
          refine hK _ _ ?_ (fun h => by cases h)
          intro s hs
          cases hs
          exact ⟨hB, c0, c1, c2, c3, c4, c5, c6, (fun _ => rfl), c8, c9, c10, c11, c12, c13, c14, c15, c16, pre0, pre1, ini0, id0, ini1, id1, ini2, id2, ini3, id3, ini4, id4, ini5, id5⟩
         case s8r2 =>
          rintro L u W ⟨hB, c0, c1, c2, c3, c4, c5, c6, c7, c8, c9, c10, c11, c12, c13, c14, c15, c16, pre0, pre1, ini0, id0, ini1, id1, ini2, id2, ini3, id3, ini4, id4, ini5, id5⟩ hf hd K hK
          dsimp only at hK
          have hd7 : L 7 = true := (by first | exact hd ⟨7, .data⟩ (by simp) rfl | exact hd ⟨7, .guard⟩ (by simp) rfl | exact hd ⟨7, .phase⟩ (by simp) rfl | exact hd ⟨7, .chain⟩ (by simp) rfl);have e7 := c7 hd7;rw [e7] at hK;have t0 := (pre0 (by cases h9 : L 16 with | false => rfl | true => rw [id3 (id2 (id1 (id0 h9)))] at hf; cases hf)).1.1.cell (i := 2) (v := .slice (some ⟨eb, 0, none⟩) k k) rfl;clear hd7;clear hd
          go_simp
          refine hK _ _ ?_ (fun h => by cases h)
          intro s hs
          cases hs
          exact ⟨hB, c0, c1, c2, c3, c4, c5, c6, c7, (fun _ => rfl), c9, c10, c11, c12, c13, c14, c15, c16, pre0, pre1, ini0, id0, ini1, id1, ini2, id2, ini3, (fun _ => rfl), ini4, id4, ini5, id5⟩
         case s9r2 =>
          rintro L u W ⟨hB, c0, c1, c2, c3, c4, c5, c6, c7, c8, c9, c10, c11, c12, c13, c14, c15, c16, pre0, pre1, ini0, id0, ini1, id1, ini2, id2, ini3, id3, ini4, id4, ini5, id5⟩ hf hd K hK
          dsimp only at hK
          clear hd
          go_simp
          refine hK _ _ ?_ (fun h => by cases h)
          intro s hs
          cases hs
          exact ⟨hB, c0, c1, c2, c3, c4, c5, c6, c7, c8, (fun _ => rfl), c10, c11, c12, c13, c14, c15, c16, pre0, pre1, ini0, id0, ini1, id1, ini2, id2, ini3, id3, ini4, id4, ini5, id5⟩
         case s10r2 =>
          rintro L u W ⟨hB, c0, c1, c2, c3, c4, c5, c6, c7, c8, c9, c10, c11, c12, c13, c14, c15, c16, pre0, pre1, ini0, id0, ini1, id1, ini2, id2, ini3, id3, ini4, id4, ini5, id5⟩ hf hd K hK
          dsimp only at hK
          have hdi3 : L 8 = true := (by first | exact hd ⟨8, .data⟩ (by simp) rfl | exact hd ⟨8, .phase⟩ (by simp) rfl | exact hd ⟨8, .chain⟩ (by simp) rfl);replace hdi3 := Lib.hid hdi3;have hd8 : L 8 = true := (by first | exact hd ⟨8, .data⟩ (by simp) rfl | exact hd ⟨8, .guard⟩ (by simp) rfl | exact hd ⟨8, .phase⟩ (by simp) rfl | exact hd ⟨8, .chain⟩ (by simp) rfl);have hd9 : L 9 = true := (by first | exact hd ⟨9, .data⟩ (by simp) rfl | exact hd ⟨9, .guard⟩ (by simp) rfl | exact hd ⟨9, .phase⟩ (by simp) rfl | exact hd ⟨9, .chain⟩ (by simp) rfl);have e8 := c8 hd8;rw [e8] at hK;have e9 := c9 hd9;rw [e9] at hK;clear hd8;clear hd9;clear hd
          go_simp
          refine hK _ _ ?_ (fun h => by cases h)
          intro s hs
          cases hs
          exact ⟨hB, c0, c1, c2, c3, c4, c5, c6, c7, c8, c9, (fun _ => rfl), c11, c12, c13, c14, c15, c16, pre0, pre1, ini0, id0, ini1, id1, ini2, (fun _ => rfl), (fun h => by cases h), (fun _ => hdi3.out), ini4, id4, ini5, id5⟩
         case s11r2 =>
          rintro L u W ⟨hB, c0, c1, c2, c3, c4, c5, c6, c7, c8, c9, c10, c11, c12, c13, c14, c15, c16, pre0, pre1, ini0, id0, ini1, id1, ini2, id2, ini3, id3, ini4, id4, ini5, id5⟩ hf hd K hK
          dsimp only at hK
          have hdi2 : L 10 = true := (by first | exact hd ⟨10, .data⟩ (by simp) rfl | exact hd ⟨10, .phase⟩ (by simp) rfl | exact hd ⟨10, .chain⟩ (by simp) rfl);replace hdi2 := Lib.hid hdi2;have hd10 : L 10 = true := (by first | exact hd ⟨10, .data⟩ (by simp) rfl | exact hd ⟨10, .guard⟩ (by simp) rfl | exact hd ⟨10, .phase⟩ (by simp) rfl | exact hd ⟨10, .chain⟩ (by simp) rfl);have e10 := c10 hd10;rw [e10] at hK;have t0 := (pre0 (by cases h9 : L 16 with | false => rfl | true => rw [id1 (id0 h9)] at hf; cases hf)).1.2.2.1.cell (i := i) (rwL_at _ hik);clear hd10;clear hd
          go_simp
          refine hK _ _ ?_ (fun h => by cases h)
          intro s hs
          cases hs
          exact ⟨hB, c0, c1, c2, c3, c4, c5, c6, c7, c8, c9, c10, (fun _ => rfl), c12, c13, c14, c15, c16, pre0, pre1, ini0, id0, ini1, (fun _ => rfl), (fun h => by cases h), (fun _ => hdi2.out), ini3, id3, ini4, id4, ini5, id5⟩
         case s12r2 =>
          rintro L u W ⟨hB, c0, c1, c2, c3, c4, c5, c6, c7, c8, c9, c10, c11, c12, c13, c14, c15, c16, pre0, pre1, ini0, id0, ini1, id1, ini2, id2, ini3, id3, ini4, id4, ini5, id5⟩ hf hd K hK
          dsimp only at hK
          clear hd
          go_simp
          refine hK _ _ ?_ (fun h => by cases h)
          intro s hs
          cases hs
          exact ⟨hB, c0, c1, c2, c3, c4, c5, c6, c7, c8, c9, c10, c11, (fun _ => rfl), c13, c14, c15, c16, pre0, pre1, ini0, id0, ini1, id1, ini2, id2, ini3, id3, ini4, id4, ini5, id5⟩
         case s13r2 =>
          rintro L u W ⟨hB, c0, c1, c2, c3, c4, c5, c6, c7, c8, c9, c10, c11, c12, c13, c14, c15, c16, pre0, pre1, ini0, id0, ini1, id1, ini2, id2, ini3, id3, ini4, id4, ini5, id5⟩ hf hd K hK
          dsimp only at hK
          have hd12 : L 12 = true := (by first | exact hd ⟨12, .data⟩ (by simp) rfl | exact hd ⟨12, .guard⟩ (by simp) rfl | exact hd ⟨12, .phase⟩ (by simp) rfl | exact hd ⟨12, .chain⟩ (by simp) rfl);have e12 := c12 hd12;rw [e12] at hK;clear hd12;clear hd
          go_simp
          have hb : Below W.heap.size W (W.alloc (.cells #[.int .i64 (q : Int)] 3)) := (Below.refl _ W).alloc (Nat.le_refl _) _
          refine hK _ _ ?_ (fun h => by cases h)
          intro s hs
          cases hs
          exact ⟨hB.trans (hb.mono (Nat.le_trans hbound hB.size)), c0, c1, c2, c3, c4, c5, c6, c7, c8, c9, c10, c11, c12, (fun _ _ => ⟨_, rfl, Lok.new _ _ _⟩), (fun h k => (c14 h k).keep hb), c15, (fun h => (c16 h).keep hb), (fun h => (pre0 h).keep hb), (fun h => (pre1 h).keep hb), ini0, id0, ini1, id1, ini2, id2, ini3, id3, ini4, id4, ini5, id5⟩
         case s14r2 =>
          rintro L u W ⟨hB, c0, c1, c2, c3, c4, c5, c6, c7, c8, c9, c10, c11, c12, c13, c14, c15, c16, pre0, pre1, ini0, id0, ini1, id1, ini2, id2, ini3, id3, ini4, id4, ini5, id5⟩ hf hd K hK
          dsimp only at hK
          have hdi1 : L 11 = true := (by first | exact hd ⟨11, .data⟩ (by simp) rfl | exact hd ⟨11, .phase⟩ (by simp) rfl | exact hd ⟨11, .chain⟩ (by simp) rfl);replace hdi1 := Lib.hid hdi1;have hd11 : L 11 = true := (by first | exact hd ⟨11, .data⟩ (by simp) rfl | exact hd ⟨11, .guard⟩ (by simp) rfl | exact hd ⟨11, .phase⟩ (by simp) rfl | exact hd ⟨11, .chain⟩ (by simp) rfl);have hd13 : L 13 = true := (by first | exact hd ⟨13, .data⟩ (by simp) rfl | exact hd ⟨13, .guard⟩ (by simp) rfl | exact hd ⟨13, .phase⟩ (by simp) rfl | exact hd ⟨13, .chain⟩ (by simp) rfl);have e11 := c11 hd11;have e13 := c13 hd13 (by first | exact hf | assumption);clear hd11;clear hd13;clear hd
          refine Eq.mpr (if_pos rfl) ?_
          obtain ⟨g5, eg, lg⟩ := e13;have ecw := pre1 hf;have hln : (esP EL q LS p i).length ≤ q + 1 := esP_len EL q LS p i
          refine app_act_at _ _ 27 3 _ 1 8 Tryz.underlying27 infoI rfl (by decide) rfl w8.heap.size (ec i) (esP EL q LS p i).length ((esP EL q LS p i).map (Value.int .i64)) _ rfl (fun u hu => by simp at hu; rw [hu]; rfl) e11 (ecw.1 i hik) g5 1 eg lg (by omega) (by omega) (Nat.le_trans h8r hB.size) ?_
          intro v5 W5 q' hg' hl'
          have q9 : OwnI W5 w8.heap.size v5 (esP EL q LS p i ++ [(q : Int)]) := by unfold OwnI; rw [List.length_append, List.map_append]; exact q'
          have q : EcN W5 w8.heap.size k i ec (esP EL q LS p) (q : Int) v5 := ecw.grown hik q9 hg' hl';have hrow : ∀ b, (ec i).ownBlock = some b → w8.heap.size ≤ b := fun b z => (World.ownsRow.lt (ecw.1 i hik) b z).1;have hb8 : Below w8.heap.size W W5 := (Below.refl _ W).grown hg' (Nat.le_trans h8r hB.size) hrow;have hb : Below w.heap.size W W5 := hb8.mono hw8;have hk0 := fun (h : StC W w.heap.size g gl eb tb k MC fv (fcL fA fS fK k) ec B7 w8) => h.grown hb8 hlt8 hfv8.out hg' hrow
          refine hK _ _ ?_ (fun h => by cases h)
          intro s hs
          cases hs
          exact ⟨hB.trans hb, c0, c1, c2, c3, c4, c5, c6, c7, c8, c9, c10, (fun h => by first | rfl | exact c11 h), c12, (fun _ h => by cases h), (fun _ _ => q), c15, (fun h => by have z := id0 h; rw [hf] at z; cases z), (fun h => hk0 (pre0 h)), (fun h => by cases h), ini0, (fun _ => rfl), (fun h => by cases h), (fun _ => hdi1.out), ini2, id2, ini3, id3, ini4, id4, ini5, id5⟩
         case s15r2 =>
          rintro L u W ⟨hB, c0, c1, c2, c3, c4, c5, c6, c7, c8, c9, c10, c11, c12, c13, c14, c15, c16, pre0, pre1, ini0, id0, ini1, id1, ini2, id2, ini3, id3, ini4, id4, ini5, id5⟩ hf hd K hK
          dsimp only at hK
          have hdi5 : L 3 = true := (by first | exact hd ⟨3, .data⟩ (by simp) rfl | exact hd ⟨3, .phase⟩ (by simp) rfl | exact hd ⟨3, .chain⟩ (by simp) rfl);replace hdi5 := Lib.hid hdi5;have hd3 : L 3 = true := (by first | exact hd ⟨3, .data⟩ (by simp) rfl | exact hd ⟨3, .guard⟩ (by simp) rfl | exact hd ⟨3, .phase⟩ (by simp) rfl | exact hd ⟨3, .chain⟩ (by simp) rfl);have hd4 : L 4 = true := (by first | exact hd ⟨4, .data⟩ (by simp) rfl | exact hd ⟨4, .guard⟩ (by simp) rfl | exact hd ⟨4, .phase⟩ (by simp) rfl | exact hd ⟨4, .chain⟩ (by simp) rfl);have e3 := c3 hd3;rw [e3] at hK;have e4 := c4 hd4;rw [e4] at hK;clear hd3;clear hd4;clear hd
          go_simp
          refine hK _ _ ?_ (fun h => by cases h)
          intro s hs
          cases hs
          exact ⟨hB, c0, c1, c2, c3, c4, c5, c6, c7, c8, c9, c10, c11, c12, c13, c14, (fun _ => rfl), c16, pre0, pre1, ini0, id0, ini1, id1, ini2, id2, ini3, id3, ini4, (fun _ => rfl), (fun h => by cases h), (fun _ => hdi5.out)⟩
         case s16r2 =>
          rintro L u W ⟨hB, c0, c1, c2, c3, c4, c5, c6, c7, c8, c9, c10, c11, c12, c13, c14, c15, c16, pre0, pre1, ini0, id0, ini1, id1, ini2, id2, ini3, id3, ini4, id4, ini5, id5⟩ hf hd K hK
          dsimp only at hK
          have hdi0 : L 14 = true := (by first | exact hd ⟨14, .data⟩ (by simp) rfl | exact hd ⟨14, .phase⟩ (by simp) rfl | exact hd ⟨14, .chain⟩ (by simp) rfl);replace hdi0 := Lib.hid hdi0;have hdi4 : L 15 = true := (by first | exact hd ⟨15, .data⟩ (by simp) rfl | exact hd ⟨15, .phase⟩ (by simp) rfl | exact hd ⟨15, .chain⟩ (by simp) rfl);replace hdi4 := Lib.hid hdi4;have hd14 : L 14 = true := (by first | exact hd ⟨14, .data⟩ (by simp) rfl | exact hd ⟨14, .guard⟩ (by simp) rfl | exact hd ⟨14, .phase⟩ (by simp) rfl | exact hd ⟨14, .chain⟩ (by simp) rfl);have hd15 : L 15 = true := (by first | exact hd ⟨15, .data⟩ (by simp) rfl | exact hd ⟨15, .guard⟩ (by simp) rfl | exact hd ⟨15, .phase⟩ (by simp) rfl | exact hd ⟨15, .chain⟩ (by simp) rfl);have e14 := c14 hd14 (by first | exact hf | assumption);have e15 := c15 hd15;have hdx14 := Lib.hid hd14;clear hd14;clear hd15;clear hd;obtain ⟨aQ, cQ, eQ⟩ := ownR_slc e14.1;rw [e15] at hK;rw [eQ] at hK e14;have k0 := Lib.hid (pre0 hf);have O7 := Lib.hid e14;have t0 := k0.out.1.2.2.1.cell (i := i) (rwL_at _ hik);have f0 := k0.out.1.2.2.1.frozen i;clear e14;generalize (esP EL q LS p i ++ [(q : Int)]).length = lQ at *
          go_simp
          have hb : Below w.heap.size W (W.setCell ⟨eb, i, none⟩ (.slice aQ lQ cQ)) := (Below.refl _ W).setCell (p := ⟨eb, i, none⟩) (Nat.le_of_lt hge.2.2.1) _;have hk1 := fun (h : EcW W w8.heap.size k ec (esP EL q LS p)) => h.kept (W' := W.setCell ⟨eb, i, none⟩ (.slice aQ lQ cQ)) (fun b z => Below.heap_setCell W ⟨eb, i, none⟩ _ b (by show b ≠ eb; omega));have q : EcK (W.setCell ⟨eb, i, none⟩ (.slice aQ lQ cQ)) w8.heap.size w.heap.size g gl eb tb k MC fv (fcL fA fS fK k) (esP EL q LS (p + 1)) B7 w8 := ⟨_, k0.out.set hik _ hlt7.2.2.1, (O7.out.set (fun b z => Below.heap_setCell W ⟨eb, i, none⟩ _ b (by show b ≠ eb; omega))).congr fun j _ => esP_more T2.out hpl HI.out j⟩
          refine hK undef _ (fun s h => by cases h) (fun _ => ?_)
          exact ⟨hB.trans hb, c0, c1, c2, c3, c4, c5, c6, c7, c8, c9, c10, c11, c12, (fun _ h => by have z := hdx14.out; rw [show L 14 = false from h] at z; cases z), (fun _ h => by cases h), (fun h => by first | rfl | exact c15 h), (fun _ => q), (fun h => by cases h), (fun h => hk1 (pre1 h)), (fun h => by cases h), (fun _ => hdi0.out), ini1, id1, ini2, id2, ini3, id3, (fun h => by cases h), (fun _ => hdi4.out), ini5, id5⟩
        case finr2 =>
         rintro L u W hL ⟨hB, c0, c1, c2, c3, c4, c5, c6, c7, c8, c9, c10, c11, c12, c13, c14, c15, c16, pre0, pre1, ini0, id0, ini1, id1, ini2, id2, ini3, id3, ini4, id4, ini5, id5⟩
         have e0 := c0 (hL 0 (by decide));have e1 := c1 (hL 1 (by decide));have e2 := c2 (hL 2 (by decide));have e3 := c3 (hL 3 (by decide));have e4 := c4 (hL 4 (by decide));have e5 := c5 (hL 5 (by decide));have e6 := c6 (hL 6 (by decide));have e7 := c7 (hL 7 (by decide));have e8 := c8 (hL 8 (by decide));have e9 := c9 (hL 9 (by decide));have e10 := c10 (hL 10 (by decide));have e11 := c11 (hL 11 (by decide));have e12 := c12 (hL 12 (by decide));have e15 := c15 (hL 15 (by decide));have kq16 := c16 (hL 16 (by decide));clear hL c0 c1 c2 c3 c4 c5 c6 c7 c8 c9 c10 c11 c12 c13 c14 c15 c16 pre0 pre1 ini0 id0 ini1 id1 ini2 id2 ini3 id3 ini4 id4 ini5 id5
         try simp only [e0, e1, e2, e3, e4, e5, e6, e7, e8, e9, e10, e11, e12, e15]
         clear e0 e1 e2 e3 e4 e5 e6 e7 e8 e9 e10 e11 e12 e15;obtain ⟨ec9, sc9, ew9⟩ := kq16;have SB9 := Lib.hid sc9.1;have AB9 := Lib.hid sc9.2;have EC9 := Lib.hid ew9;have BN := Lib.hid (HB.out.trans hB);clear sc9 ew9 hB HB s0 s1 s2
         go_wp2
         go_roundw
         case rel => exact ⟨p + 1, ec9, by go_num, hpl, SB9.out, EC9.out, AB9.out, BN.out⟩
         case measure => simp [intOf]; omega
       ·obtain rfl : p = LS.length := by omega
        have EC9 := Lib.hid (EC.out.congr fun j _ => esP_all T4.out j)
        go_wp2
        go_roundw
        case rel => exact ⟨q + 1, ec, by go_num, hqz, SB.out, EC9.out, AB.out, HB.out⟩
        case measure => simp [intOf]; omega
     ·obtain rfl : q = Z.length := by omega
      have EC9 : Hid (EcW wr w8.heap.size k ec (fun j => esA EL (j : Int))) := Lib.hid (EC.out.congr fun j _ => by show esL EL (j : Int) Z.length = esL EL (j : Int) EL.length; rw [hZl]);clear EC O8 HTR hq hqz;have hmkB := make_row (t := 72) (e := 4) rfl infoBo rfl (by decide) EL.length (by omega);have hmkI := make_row (t := 27) (e := 3) rfl infoI rfl (by decide) k h4;have hbA := below_new1 wr (.cells (rwL EL.length fun _ => .bool false) 4);obtain ⟨s1, s2, s3, s4, s5⟩ := SB.out.keep hbA;have ec1 := EC9.out.keep hbA;have rb1 := Lok.new wr 4 (rwL EL.length fun _ => .bool false);have hrbl := rb1.lt;have c7 := s1.cell (i := 7) (v := .slice none 0 0) rfl;have f7 := s1.frozen 7;have A1 := Lib.hid (s1.set (i := 7) (v := .slice (some ⟨wr.heap.size, 0, none⟩) EL.length EL.length));have A2 := Lib.hid (s2.far (g' := g) (i := 7) (v := .slice (some ⟨wr.heap.size, 0, none⟩) EL.length EL.length) (lok_apart s2 s1 (by decide)));have A3 := Lib.hid (s3.far (g' := g) (i := 7) (v := .slice (some ⟨wr.heap.size, 0, none⟩) EL.length EL.length) (lok_apart s3 s1 (by decide)));have A4 := Lib.hid (s4.far (g' := g) (i := 7) (v := .slice (some ⟨wr.heap.size, 0, none⟩) EL.length EL.length) (lok_apart s4 s1 (by decide)));have A7 := Lib.hid (rb1.far (g' := g) (i := 7) (v := .slice (some ⟨wr.heap.size, 0, none⟩) EL.length EL.length) (lok_apart rb1 s1 (by decide)));have A5 : Hid (OwnR ((wr.alloc (.cells (rwL EL.length fun _ => .bool false) 4)).setCell ⟨g, 7, none⟩ (.slice (some ⟨wr.heap.size, 0, none⟩) EL.length EL.length)) w.heap.size 53 3 fv k (fcL fA fS fK k)) := Lib.hid (ownR_block s5 fun b z => Below.heap_setCell _ ⟨g, 7, none⟩ _ b (fun e => ownR_lok s5 s1 (by decide) (by rw [z, show b = g from e])));have A6 : Hid (EcW ((wr.alloc (.cells (rwL EL.length fun _ => .bool false) 4)).setCell ⟨g, 7, none⟩ (.slice (some ⟨wr.heap.size, 0, none⟩) EL.length EL.length)) w8.heap.size k ec (fun j => esA EL (j : Int))) := Lib.hid (ec1.kept fun b z => Below.heap_setCell _ ⟨g, 7, none⟩ _ b (by show b ≠ g; omega));have hwg : w.heap.size ≤ g := Nat.le_of_lt hge.1
      have AB1 : Hid (Below w.heap.size w ((wr.alloc (.cells (rwL EL.length fun _ => .bool false) 4)).setCell ⟨g, 7, none⟩ (.slice (some ⟨wr.heap.size, 0, none⟩) EL.length EL.length))) := Lib.hid ((HB.out.trans (hbA.mono HB.out.size)).setCell (p := ⟨g, 7, none⟩) hwg _)
      have hrt : tb ≠ wr.heap.size := by have := SB.out.2.2.2.1.lt; omega
      have hwr : w.heap.size ≤ wr.heap.size := HB.out.size;clear s1 s2 s3 s4 s5 ec1 rb1 hbA SB HB EC9 AB
      go_upto_region 19 with fail
      clear c7 f7 hmkB;generalize wr.heap.size = rb at *;have hsz2 : rb < ((wr.alloc (.cells (rwL EL.length fun _ => .bool false) 4)).setCell ⟨g, 7, none⟩ (.slice (some ⟨rb, 0, none⟩) EL.length EL.length)).heap.size := A7.out.lt;generalize (wr.alloc (.cells (rwL EL.length fun _ => .bool false) 4)).setCell ⟨g, 7, none⟩ (.slice (some ⟨rb, 0, none⟩) EL.length EL.length) = V2 at *;have hbI := below_new1 V2 (.cells (rwL k fun _ => .int .i64 0) 3);have s1 := A1.out.keep hbI;have s2 := A2.out.keep hbI;have s3 := A3.out.keep hbI;have s4 := A4.out.keep hbI;have s5 := A5.out.keep hbI;have s6 := A6.out.keep hbI;have s7 := A7.out.keep hbI;have ob1 := Lok.new V2 3 (rwL k fun _ => .int .i64 0);have hecl := fun j (hj : j < k) b (z : (ec j).ownBlock = some b) => (World.ownsRow.lt (A6.out.1 j hj) b z);have c8 := s1.cell (i := 8) (v := .slice none 0 0) rfl;have f8 := s1.frozen 8;have B1 := Lib.hid (s1.set (i := 8) (v := .slice (some ⟨V2.heap.size, 0, none⟩) k k));have B2 := Lib.hid (s2.far (g' := g) (i := 8) (v := .slice (some ⟨V2.heap.size, 0, none⟩) k k) (lok_apart s2 s1 (by decide)));have B3 := Lib.hid (s3.far (g' := g) (i := 8) (v := .slice (some ⟨V2.heap.size, 0, none⟩) k k) (lok_apart s3 s1 (by decide)));have B4 := Lib.hid (s4.far (g' := g) (i := 8) (v := .slice (some ⟨V2.heap.size, 0, none⟩) k k) (lok_apart s4 s1 (by decide)));have B7a := Lib.hid (s7.far (g' := g) (i := 8) (v := .slice (some ⟨V2.heap.size, 0, none⟩) k k) (lok_apart s7 s1 (by decide)));have B8 := Lib.hid (ob1.far (g' := g) (i := 8) (v := .slice (some ⟨V2.heap.size, 0, none⟩) k k) (lok_apart ob1 s1 (by decide)));have B5 : Hid (OwnR ((V2.alloc (.cells (rwL k fun _ => .int .i64 0) 3)).setCell ⟨g, 8, none⟩ (.slice (some ⟨V2.heap.size, 0, none⟩) k k)) w.heap.size 53 3 fv k (fcL fA fS fK k)) := Lib.hid (ownR_block s5 fun b z => Below.heap_setCell _ ⟨g, 8, none⟩ _ b (fun e => ownR_lok s5 s1 (by decide) (by rw [z, show b = g from e])));have B6a : Hid (EcW ((V2.alloc (.cells (rwL k fun _ => .int .i64 0) 3)).setCell ⟨g, 8, none⟩ (.slice (some ⟨V2.heap.size, 0, none⟩) k k)) w8.heap.size k ec (fun j => esA EL (j : Int))) := Lib.hid (s6.kept fun b z => Below.heap_setCell _ ⟨g, 8, none⟩ _ b (by show b ≠ g; omega))
      have AB2 : Hid (Below w.heap.size w ((V2.alloc (.cells (rwL k fun _ => .int .i64 0) 3)).setCell ⟨g, 8, none⟩ (.slice (some ⟨V2.heap.size, 0, none⟩) k k))) := Lib.hid ((AB1.out.trans (hbI.mono AB1.out.size)).setCell (p := ⟨g, 8, none⟩) hwg _);have hto : tb < V2.heap.size := A4.out.lt;have HEC := Lib.hid hecl;clear s1 s2 s3 s4 s5 s6 s7 ob1 hbI A1 A2 A3 A4 A5 A6 A7 AB1 hecl
      go_wp2_with fail
      clear c8 f8 hmkI;have hob := B8.out.lt;generalize hobe : V2.heap.size = ob at *;replace hobe := Lib.hid hobe;generalize (V2.alloc (.cells (rwL k fun _ => .int .i64 0) 3)).setCell ⟨g, 8, none⟩ (.slice (some ⟨ob, 0, none⟩) k k) = V3 at *
      go_ret
      obtain ⟨h1, h2, h3, h5⟩ := HF.out
      refine ⟨⟨⟨w.heap.size, V3.heap.size, g, gl, eb, tb, rb, ob, k, EL.length, MC, fv, ec, fA, fS, fK, fun j => esA EL (j : Int)⟩, rfl, ?_, ?_, Nat.le_refl _⟩, AB2.out⟩
      ·rw [← HZ.out.2]
       exact ⟨rfl, h1, rfl, fun i _ => by rw [h2], fun i _ => by rw [h3], fun i _ => by rw [h5], fun _ _ => rfl, rfl, by omega, h4⟩
      ·have lg := B1.out.lt
       have ll := B2.out.lt;have le := B3.out.lt;have lt := B4.out.lt;have lr := B7a.out.lt;have n1 := lok_apart B1.out B4.out (by decide);have n2 := lok_apart B1.out B7a.out (by decide);have n3 := lok_apart B1.out B8.out (by decide);have n4 := lok_apart B4.out B8.out (by decide);have n5 := lok_apart B7a.out B8.out (by decide);have p1 := lok_apart B2.out B1.out (by decide);have p2 := lok_apart B2.out B4.out (by decide);have p3 := lok_apart B2.out B7a.out (by decide);have p4 := lok_apart B2.out B8.out (by decide);have q1 := lok_apart B3.out B1.out (by decide);have q2 := lok_apart B3.out B4.out (by decide);have q3 := lok_apart B3.out B7a.out (by decide);have q4 := lok_apart B3.out B8.out (by decide)
       refine ⟨0, 0, .slice none 0 0, fun _ => false, fun _ => 0, ⟨fun b hb => ?_, fun b hb => ?_, n1, n2, n3, hrt, n4, n5⟩, ⟨B2.out, B5.out, B3.out, fun i hi => ownI_mono (B6a.out.1 i hi) (by show w.heap.size ≤ w8.heap.size; omega)⟩, B1.out, B4.out, B7a.out, B8.out⟩
       ·rcases hb with rfl | rfl | rfl | rfl
        ·exact ⟨hwg, lg⟩
        ·exact ⟨Nat.le_of_lt hge.2.2.2, lt⟩
        ·exact ⟨hwr, lr⟩
        ·exact ⟨Nat.le_trans hwr (Nat.le_of_lt hsz2), hob⟩
       ·rcases hb with rfl | rfl | hb | ⟨i, hi, hb⟩
        ·refine ⟨Nat.le_of_lt hge.2.1, ll, ?_⟩
         rintro (e | e | e | e)
         ·exact p1 e
         ·exact p2 e
         ·exact p3 e
         ·exact p4 e
        ·refine ⟨Nat.le_of_lt hge.2.2.1, le, ?_⟩
         rintro (e | e | e | e)
         ·exact q1 e
         ·exact q2 e
         ·exact q3 e
         ·exact q4 e
        ·have z := World.ownsRow.lt B5.out b hb
         refine ⟨z.1, z.2, ?_⟩
         rintro (e | e | e | e) <;> rw [e] at hb
         ·exact ownR_lok B5.out B1.out (by decide) hb
         ·exact ownR_lok B5.out B4.out (by decide) hb
         ·exact ownR_lok B5.out B7a.out (by decide) hb
         ·exact ownR_lok B5.out B8.out (by decide) hb
        ·have z := World.ownsRow.lt (B6a.out.1 i hi) b hb
         have z2 := HEC.out i hi b hb
         refine ⟨by show w.heap.size ≤ b; omega, z.2, ?_⟩
         rintro (e | e | e | e)
         ·rw [e] at hb; exact ownR_lok (B6a.out.1 i hi) B1.out (by decide) hb
         ·rw [e] at hb; exact ownR_lok (B6a.out.1 i hi) B4.out (by decide) hb
         ·rw [e] at hb; exact ownR_lok (B6a.out.1 i hi) B7a.out (by decide) hb
         ·have e : b = ob := e
          omega
end Go.Proofs.YtcnbbanpnoigdaaGreat
