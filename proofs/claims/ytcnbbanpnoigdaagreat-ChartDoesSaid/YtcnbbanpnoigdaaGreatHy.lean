import Derived.Test.YtcnbbanpnoigdaaGreatHx
import Derived.Test.YtcnbbanpnoigdaaGreatHi
import Derived.Test.YtcnbbanpnoigdaaGreatHm
import Derived.Test.YtcnbbanpnoigdaaGreatHa
import Derived.Test.YtcnbbanpnoigdaaGreatHg
import Derived.ChangeKeysEq
import Derived.Test.YtcnbbanpnoigdaaGreatHt
namespace Go.Proofs.YtcnbbanpnoigdaaGreat
open Go.RowKit

theorem all_len20 : ∀ {L : List ChT}, (∀ e ∈ L, e.2.2.length ≤ 20) → (ChF.all L).length ≤ 20 * L.length
 | [], _ => Nat.le_refl _
 | c :: L, h => by
  have h1 := h c List.mem_cons_self;have h2 := all_len20 (L := L) fun e q => h e (List.mem_cons_of_mem _ q)
  show (c.2.2 ++ ChF.all L).length ≤ _
  rw [List.length_append, List.length_cons]
  omega
theorem cnt_more {P : List Int} {i n : Nat} (hi : i < n) : (rwL n fun j => Value.int .i64 ((P.count (j : Int) : Nat) : Int)).setIfInBounds i (.int .i64 ((P.count (i : Int) + 1 : Nat) : Int)) = rwL n fun j => .int .i64 (((P ++ [(i : Int)]).count (j : Int) : Nat) : Int) := by
 rw [rwL_set _ _ hi]
 refine rwL_congr fun j _ => ?_
 by_cases e : j = i
 ·subst e
  rw [if_pos rfl, List.count_append, List.count_singleton_self]
 ·rw [if_neg e, List.count_append, List.count_eq_zero.2 (by rw [List.mem_singleton]; omega : ¬ (j : Int) ∈ [(i : Int)]), Nat.add_zero]
theorem cnt_le {L : List ChT} (h : ∀ e ∈ L, e.2.2.length ≤ 20) {k : Nat} (hL : L.length ≤ 20) {l : List Int} (hl : l.length ≤ 20) (x : Int) : (ChF.all (L.take k) ++ l).count x ≤ 1000 := by
 have h1 := all_len20 (L := L.take k) fun e q => h e (List.mem_of_mem_take q)
 have h2 : (L.take k).length ≤ 20 := by rw [List.length_take]; omega
 have h3 := List.count_le_length (a := x) (l := ChF.all (L.take k) ++ l);rw [List.length_append] at h3
 omega
theorem eq_one (q : Nat) : (((q : Nat) : Int) != 1) = !(q == 1) := by
 rw [bne]
 congr 1
 apply Bool.eq_iff_iff.2
 rw [beq_iff_eq, beq_iff_eq]
 omega

set_option maxRecDepth 100000 in
set_option maxHeartbeats 16000000 in
theorem rright15_any (pa1 pa2 pa3 pa4 : Option Addr) (n1 n2 n3 n4 c1 c2 c3 c4 : Nat) (FV FT FN FC : Nat → Nat → Int) (a : Option Addr) (m c : Nat) (Q : List ChT) (w : World) (hm : MsW w pa1 pa2 pa3 pa4 n1 n2 n3 n4 FV FT FN FC) (h4 : n4 ≤ 1000000) (hr : RowC w a m Q) (hm2 : m ≤ 20) (hl2 : ∀ e ∈ Q, e.2.2.length ≤ 20) :
  Calls Tryz.prog 16 #[.agg #[.slice pa1 n1 c1, .slice pa2 n2 c2, .slice pa3 n3 c3, .slice pa4 n4 c4], .slice a m c] w fun e w' => e = .returned (.bool (tmB n1 n2 n3 n4 FV FT FN FC && (chF (tmB n1 n2 n3 n4 FV FT FN FC) n4 FV FC).rightB Q)) ∧ Below w.heap.size w w' := by
 have HB := Lib.hid (Below.refl w.heap.size w);have M := Lib.hid hm;have RL := Lib.hid hr;have hlm := hr.1;have TA := Lib.hid (fun W (h : Below w.heap.size w W) => rtame15_any pa1 pa2 pa3 pa4 n1 n2 n3 n4 c1 c2 c3 c4 FV FT FN FC W (hm.keep h));clear hm hr
 cases ht : tmB n1 n2 n3 n4 FV FT FN FC with
 | false =>
  rw [ht] at TA;rw [Bool.false_and];clear ht M RL
  go_enter Tryz.func16, Tryz.ntmps16
  go_upto_region 1 with fail
  have hbm := below_new1 w (.cells #[.slice pa1 n1 c1, .slice pa2 n2 c2, .slice pa3 n3 c3, .slice pa4 n4 c4] 26)
  have zm : (w.alloc (.cells #[.slice pa1 n1 c1, .slice pa2 n2 c2, .slice pa3 n3 c3, .slice pa4 n4 c4] 26)).heap.size = w.heap.size + 1 := by simp
  have HB := Lib.hid hbm;have km := Lib.hid (Lok.new w 26 #[.slice pa1 n1 c1, .slice pa2 n2 c2, .slice pa3 n3 c3, .slice pa4 n4 c4]);clear hbm;generalize w.alloc (.cells #[.slice pa1 n1 c1, .slice pa2 n2 c2, .slice pa3 n3 c3, .slice pa4 n4 c4] 26) = Vm at *;clear zm;have m0 := km.out.cell (i := 0) rfl;have m1 := km.out.cell (i := 1) rfl;have m2 := km.out.cell (i := 2) rfl;have m3 := km.out.cell (i := 3) rfl
  go_wp2_with fail
  clear m0 m1 m2 m3
  (((with_reducible refine (TA.out _ HB.out).mono ?_); rintro e w1 ⟨rfl, hb1⟩); replace HB := Lib.hid (HB.out.trans (hb1.mono HB.out.size)); replace km := Lib.hid (km.out.keep hb1); clear hb1)
  clear TA km
  go_wp2
  go_ret
  exact ⟨rfl, HB.out⟩
 | true =>
  rw [ht] at TA;rw [Bool.true_and];have FA := Lib.hid (fun (j : Nat) W (h : Below w.heap.size w W) => rfacing15_any pa1 pa2 pa3 pa4 n1 n2 n3 n4 c1 c2 c3 c4 FV FT FN FC (j : Int) W (M.out.keep h));have FI := Lib.hid (fun ax sd a m c l i W (h : Below w.heap.size w W) (hr : RowI W a m l) (hm2 : m ≤ 1000000) => rfits15_any pa1 pa2 pa3 pa4 n1 n2 n3 n4 c1 c2 c3 c4 FV FT FN FC ax sd a m c l i W (M.out.keep h) hr hm2 h4);rw [ht] at FA FI;have hmk := make_row (t := 27) (e := 3) rfl infoI rfl (by decide) n4 h4;clear ht M
  go_enter Tryz.func16, Tryz.ntmps16
  go_upto_region 1 with fail
  have hbm := below_new1 w (.cells #[.slice pa1 n1 c1, .slice pa2 n2 c2, .slice pa3 n3 c3, .slice pa4 n4 c4] 26)
  have zm : (w.alloc (.cells #[.slice pa1 n1 c1, .slice pa2 n2 c2, .slice pa3 n3 c3, .slice pa4 n4 c4] 26)).heap.size = w.heap.size + 1 := by simp
  have HB := Lib.hid hbm;have km := Lib.hid (Lok.new w 26 #[.slice pa1 n1 c1, .slice pa2 n2 c2, .slice pa3 n3 c3, .slice pa4 n4 c4]);clear hbm;generalize w.alloc (.cells #[.slice pa1 n1 c1, .slice pa2 n2 c2, .slice pa3 n3 c3, .slice pa4 n4 c4] 26) = Vm at *;clear zm;have m0 := km.out.cell (i := 0) rfl;have m1 := km.out.cell (i := 1) rfl;have m2 := km.out.cell (i := 2) rfl;have m3 := km.out.cell (i := 3) rfl
  go_wp2_with fail
  clear m0 m1 m2 m3
  (((with_reducible refine (TA.out _ HB.out).mono ?_); rintro e w1 ⟨rfl, hb1⟩); replace HB := Lib.hid (HB.out.trans (hb1.mono HB.out.size)); replace km := Lib.hid (km.out.keep hb1); clear hb1)
  clear TA;have m3 := km.out.cell (i := 3) rfl
  go_upto_region 4 with fail
  clear hmk;have hgm : w.heap.size < w1.heap.size := km.out.lt;have KT : Hid (Lok (w1.alloc (.cells (rwL n4 fun _ => .int .i64 0) 3)) w1.heap.size 3 (rwL n4 fun j => .int .i64 (((ChF.all (Q.take 0)).count (j : Int) : Nat) : Int))) := Lib.hid (Lok.new w1 3 (rwL n4 fun _ => .int .i64 0));have hbN : Below w1.heap.size w1 (w1.alloc (.cells (rwL n4 fun _ => .int .i64 0) 3)) := (Below.refl _ _).alloc (Nat.le_refl _) _;replace HB := Lib.hid (HB.out.trans (hbN.mono HB.out.size));replace km := Lib.hid (km.out.keep hbN);clear m3;generalize htb : w1.heap.size = tb at *;generalize w1.alloc (.cells (rwL n4 fun _ => .int .i64 0) 3) = V at *;clear hbN htb
  go_wp2_with fail
  go_loopw [6] (fun x wr => ∃ k : Nat, x = .int .i64 k ∧ k ≤ m ∧ (∀ e ∈ Q.take k, (chF true n4 FV FC).goodB e = true) ∧ Lok wr tb 3 (rwL n4 fun j => .int .i64 (((ChF.all (Q.take k)).count (j : Int) : Nat) : Int)) ∧ Lok wr w.heap.size 26 #[.slice pa1 n1 c1, .slice pa2 n2 c2, .slice pa3 n3 c3, .slice pa4 n4 c4] ∧ Below w.heap.size w wr) (fun x _ => m - (intOf x).toNat)
  case atStart => exact ⟨0, rfl, Nat.zero_le _, fun e h => by rw [List.take_zero] at h; exact absurd h List.not_mem_nil, KT.out, km.out, HB.out⟩
  case round =>
   clear KT km HB;obtain ⟨k, rfl, hk, hG, hL, hM, hB⟩ := hrel;have HG := Lib.hid hG;have KT := Lib.hid hL;have km := Lib.hid hM;have HB := Lib.hid hB;have htr : tb < wr.heap.size := hL.lt;clear hG hL hM hB
   by_cases hlt : k < m
   ·obtain ⟨b, o, t, m1, ct, x, y, l, rfl, hb, hL, hx, hy, hz, hri, _, _, _⟩ := RL.out.at hlt
    have hmem := List.mem_of_getElem? hL
    have hm1 : m1 ≤ 20 := by
     have := hl2 _ hmem;have := hri.1
     simp only at *
     omega
    have hlm1 := hri.1;rw [← Nat.add_assoc] at hy hz;have X0 := Lib.hid (keepc HB.out hx);have X1 := Lib.hid (keepc HB.out hy);have X2 := Lib.hid (keepc HB.out hz);have X3 := Lib.hid hz;have RI := Lib.hid hri;have hbm : b < w.heap.size := hb;have TKL := Lib.hid (ChF.all_take hL);have BAD := Lib.hid (fun (q : (chF true n4 FV FC).goodB (x, y, l) = false) => (chF true n4 FV FC).right_no hmem q)
    have GOOD := Lib.hid (fun (q : (chF true n4 FV FC).goodB (x, y, l) = true) => (fun e he => by
     rw [List.take_add_one, hL] at he
     rcases List.mem_append.1 he with z | z
     ·exact HG.out e z
     ·rw [Option.toList_some, List.mem_singleton] at z
      rw [z]; exact q : ∀ e ∈ Q.take (k + 1), (chF true n4 FV FC).goodB e = true))
    have CL := Lib.hid (fun j (hj : j ≤ l.length) z => cnt_le hl2 (k := k) (by omega) (l := l.take j) (by rw [List.length_take]; have := hl2 _ hmem; simp only at this; omega) z);clear hx hy hz hri hL hmem HG
    have k0 : (0 : Int) ≤ (k : Int) := by omega
    have k1 : (k : Int) < (m : Int) := by omega
    have k2 : ((k : Int)).toNat = k := by omega
    go_upto_region 7 with fail
    refine wp_region_rel (by kernel_rfl) [27, 28, 29, 30, 31, 32, 33, 34, 35, 36, 37, 7] ?Fr1 ?hFr1
     (fun L u W => Below wr.heap.size wr W ∧ (L 0 = true → u 27 = .slice (some ⟨b, o, none⟩) m c) ∧ (L 1 = true → u 28 = .int .i64 (k : Int)) ∧ (L 2 = true → u 29 = .pointer (some ⟨b, o + k * 3, none⟩)) ∧ (L 3 = true → u 30 = .pointer (some ⟨b, o + k * 3, none⟩)) ∧ (L 4 = true → u 31 = .int .i64 x) ∧ (L 5 = true → u 32 = .slice (some ⟨b, o, none⟩) m c) ∧ (L 6 = true → u 33 = .int .i64 (k : Int)) ∧ (L 7 = true → u 34 = .pointer (some ⟨b, o + k * 3, none⟩)) ∧ (L 8 = true → u 35 = .pointer (some ⟨b, o + k * 3 + 1, none⟩)) ∧ (L 9 = true → u 36 = .int .i64 y) ∧ (L 10 = true → u 37 = .agg #[.int .i64 x, .int .i64 y, .slice none 0 0]) ∧ (L 11 = true → ∃ (g : Nat) (x11_0 x11_1 x11_2 : Value), u 7 = .pointer (some ⟨g, 0, none⟩) ∧ wr.heap.size ≤ g ∧ Lok W g 29 #[x11_0, x11_1, x11_2] ∧ (L 12 = true → x11_0 = .int .i64 x ∧ x11_1 = .int .i64 y ∧ x11_2 = .slice none 0 0)) ∧ (L 12 = true → L 11 = true)) (by kernel_rfl) (by kernel_rfl) 13 rfl ?h0r1 ?stepr1 ?finr1
    case hFr1 => intro u; simp only [putAll, Act.put, List.setIfInBounds_toArray, List.set]; exact rfl
    case h0r1 => intro L u hL; exact ⟨(Below.refl _ _).drew, (fun h => by simp [hL] at h), (fun h => by simp [hL] at h), (fun h => by simp [hL] at h), (fun h => by simp [hL] at h), (fun h => by simp [hL] at h), (fun h => by simp [hL] at h), (fun h => by simp [hL] at h), (fun h => by simp [hL] at h), (fun h => by simp [hL] at h), (fun h => by simp [hL] at h), (fun h => by simp [hL] at h), (fun h => by simp [hL] at h), (fun h => by simp [hL] at h)⟩
    case stepr1 =>
     refine ops_all (ops_cons ?s0r1 (ops_cons ?s1r1 (ops_cons ?s2r1 (ops_cons ?s3r1 (ops_cons ?s4r1 (ops_cons ?s5r1 (ops_cons ?s6r1 (ops_cons ?s7r1 (ops_cons ?s8r1 (ops_cons ?s9r1 (ops_cons ?s10r1 (ops_cons ?s11r1 (ops_cons ?s12r1 (ops_nil))))))))))))))
     case s0r1 =>
      rintro L u W ⟨hB, c0, c1, c2, c3, c4, c5, c6, c7, c8, c9, c10, c11, d12⟩ hf hd K hK
      dsimp only at hK
      clear hd
      go_simp
      refine hK _ _ ?_ (fun h => by cases h)
      intro s hs
      cases hs
      exact ⟨hB, (fun _ => rfl), c1, c2, c3, c4, c5, c6, c7, c8, c9, c10, c11, d12⟩
     case s1r1 =>
      rintro L u W ⟨hB, c0, c1, c2, c3, c4, c5, c6, c7, c8, c9, c10, c11, d12⟩ hf hd K hK
      dsimp only at hK
      clear hd
      go_simp
      refine hK _ _ ?_ (fun h => by cases h)
      intro s hs
      cases hs
      exact ⟨hB, c0, (fun _ => rfl), c2, c3, c4, c5, c6, c7, c8, c9, c10, c11, d12⟩
     case s2r1 =>
      rintro L u W ⟨hB, c0, c1, c2, c3, c4, c5, c6, c7, c8, c9, c10, c11, d12⟩ hf hd K hK
      dsimp only at hK
      have hd0 : L 0 = true := (by first | exact hd ⟨0, .data⟩ (by simp) rfl | exact hd ⟨0, .guard⟩ (by simp) rfl | exact hd ⟨0, .phase⟩ (by simp) rfl | exact hd ⟨0, .chain⟩ (by simp) rfl);have hd1 : L 1 = true := (by first | exact hd ⟨1, .data⟩ (by simp) rfl | exact hd ⟨1, .guard⟩ (by simp) rfl | exact hd ⟨1, .phase⟩ (by simp) rfl | exact hd ⟨1, .chain⟩ (by simp) rfl);have e0 := c0 hd0;rw [e0] at hK;have e1 := c1 hd1;rw [e1] at hK;clear hd0;clear hd1;clear hd
      go_simp
      refine hK _ _ ?_ (fun h => by cases h)
      intro s hs
      cases hs
      exact ⟨hB, c0, c1, (fun _ => rfl), c3, c4, c5, c6, c7, c8, c9, c10, c11, d12⟩
     case s3r1 =>
      rintro L u W ⟨hB, c0, c1, c2, c3, c4, c5, c6, c7, c8, c9, c10, c11, d12⟩ hf hd K hK
      dsimp only at hK
      have hd2 : L 2 = true := (by first | exact hd ⟨2, .data⟩ (by simp) rfl | exact hd ⟨2, .guard⟩ (by simp) rfl | exact hd ⟨2, .phase⟩ (by simp) rfl | exact hd ⟨2, .chain⟩ (by simp) rfl);have e2 := c2 hd2;rw [e2] at hK;clear hd2;clear hd
      go_simp
      refine hK _ _ ?_ (fun h => by cases h)
      intro s hs
      cases hs
      exact ⟨hB, c0, c1, c2, (fun _ => rfl), c4, c5, c6, c7, c8, c9, c10, c11, d12⟩
     case s4r1 =>
      rintro L u W ⟨hB, c0, c1, c2, c3, c4, c5, c6, c7, c8, c9, c10, c11, d12⟩ hf hd K hK
      dsimp only at hK
      have hd3 : L 3 = true := (by first | exact hd ⟨3, .data⟩ (by simp) rfl | exact hd ⟨3, .guard⟩ (by simp) rfl | exact hd ⟨3, .phase⟩ (by simp) rfl | exact hd ⟨3, .chain⟩ (by simp) rfl);have e3 := c3 hd3;rw [e3] at hK;have t0 := keepc hB X0.out;clear hd3;clear hd
      go_simp
      refine hK _ _ ?_ (fun h => by cases h)
      intro s hs
      cases hs
      exact ⟨hB, c0, c1, c2, c3, (fun _ => rfl), c5, c6, c7, c8, c9, c10, c11, d12⟩
     case s5r1 =>
      rintro L u W ⟨hB, c0, c1, c2, c3, c4, c5, c6, c7, c8, c9, c10, c11, d12⟩ hf hd K hK
      dsimp only at hK
      clear hd
      go_simp
      refine hK _ _ ?_ (fun h => by cases h)
      intro s hs
      cases hs
      exact ⟨hB, c0, c1, c2, c3, c4, (fun _ => rfl), c6, c7, c8, c9, c10, c11, d12⟩
     case s6r1 =>
      rintro L u W ⟨hB, c0, c1, c2, c3, c4, c5, c6, c7, c8, c9, c10, c11, d12⟩ hf hd K hK
      dsimp only at hK
      clear hd
      go_simp
      refine hK _ _ ?_ (fun h => by cases h)
      intro s hs
      cases hs
      exact ⟨hB, c0, c1, c2, c3, c4, c5, (fun _ => rfl), c7, c8, c9, c10, c11, d12⟩
     case s7r1 =>
      rintro L u W ⟨hB, c0, c1, c2, c3, c4, c5, c6, c7, c8, c9, c10, c11, d12⟩ hf hd K hK
      dsimp only at hK
      have hd5 : L 5 = true := (by first | exact hd ⟨5, .data⟩ (by simp) rfl | exact hd ⟨5, .guard⟩ (by simp) rfl | exact hd ⟨5, .phase⟩ (by simp) rfl | exact hd ⟨5, .chain⟩ (by simp) rfl);have hd6 : L 6 = true := (by first | exact hd ⟨6, .data⟩ (by simp) rfl | exact hd ⟨6, .guard⟩ (by simp) rfl | exact hd ⟨6, .phase⟩ (by simp) rfl | exact hd ⟨6, .chain⟩ (by simp) rfl);have e5 := c5 hd5;rw [e5] at hK;have e6 := c6 hd6;rw [e6] at hK;clear hd5;clear hd6;clear hd
      go_simp
      refine hK _ _ ?_ (fun h => by cases h)
      intro s hs
      cases hs
      exact ⟨hB, c0, c1, c2, c3, c4, c5, c6, (fun _ => rfl), c8, c9, c10, c11, d12⟩
     case s8r1 =>
      rintro L u W ⟨hB, c0, c1, c2, c3, c4, c5, c6, c7, c8, c9, c10, c11, d12⟩ hf hd K hK
      dsimp only at hK
      have hd7 : L 7 = true := (by first | exact hd ⟨7, .data⟩ (by simp) rfl | exact hd ⟨7, .guard⟩ (by simp) rfl | exact hd ⟨7, .phase⟩ (by simp) rfl | exact hd ⟨7, .chain⟩ (by simp) rfl);have e7 := c7 hd7;rw [e7] at hK;clear hd7;clear hd
      go_simp
      refine hK _ _ ?_ (fun h => by cases h)
      intro s hs
      cases hs
      exact ⟨hB, c0, c1, c2, c3, c4, c5, c6, c7, (fun _ => rfl), c9, c10, c11, d12⟩
     case s9r1 =>
      rintro L u W ⟨hB, c0, c1, c2, c3, c4, c5, c6, c7, c8, c9, c10, c11, d12⟩ hf hd K hK
      dsimp only at hK
      have hd8 : L 8 = true := (by first | exact hd ⟨8, .data⟩ (by simp) rfl | exact hd ⟨8, .guard⟩ (by simp) rfl | exact hd ⟨8, .phase⟩ (by simp) rfl | exact hd ⟨8, .chain⟩ (by simp) rfl);have e8 := c8 hd8;rw [e8] at hK;have t0 := keepc hB X1.out;clear hd8;clear hd
      go_simp
      refine hK _ _ ?_ (fun h => by cases h)
      intro s hs
      cases hs
      exact ⟨hB, c0, c1, c2, c3, c4, c5, c6, c7, c8, (fun _ => rfl), c10, c11, d12⟩
     case s10r1 =>
      rintro L u W ⟨hB, c0, c1, c2, c3, c4, c5, c6, c7, c8, c9, c10, c11, d12⟩ hf hd K hK
      dsimp only at hK
      have hd4 : L 4 = true := (by first | exact hd ⟨4, .data⟩ (by simp) rfl | exact hd ⟨4, .guard⟩ (by simp) rfl | exact hd ⟨4, .phase⟩ (by simp) rfl | exact hd ⟨4, .chain⟩ (by simp) rfl);have hd9 : L 9 = true := (by first | exact hd ⟨9, .data⟩ (by simp) rfl | exact hd ⟨9, .guard⟩ (by simp) rfl | exact hd ⟨9, .phase⟩ (by simp) rfl | exact hd ⟨9, .chain⟩ (by simp) rfl);have e4 := c4 hd4;rw [e4] at hK;have e9 := c9 hd9;rw [e9] at hK;clear hd4;clear hd9;clear hd
      go_simp
      refine hK _ _ ?_ (fun h => by cases h)
      intro s hs
      cases hs
      exact ⟨hB, c0, c1, c2, c3, c4, c5, c6, c7, c8, c9, (fun _ => rfl), c11, d12⟩
     case s11r1 =>
      rintro L u W ⟨hB, c0, c1, c2, c3, c4, c5, c6, c7, c8, c9, c10, c11, d12⟩ hf hd K hK
      dsimp only at hK
      go_simp
      have hb : Below W.heap.size W (W.alloc (.cells #[.int .i64 0, .int .i64 0, .slice none 0 0] 29)) := (Below.refl _ W).alloc (Nat.le_refl _) _
      refine hK _ _ ?_ (fun h => by cases h)
      intro s hs
      cases hs
      exact ⟨hB.trans (hb.mono hB.size), c0, c1, c2, c3, c4, c5, c6, c7, c8, c9, c10, (fun _ => ⟨_, _, _, _, rfl, hB.size, Lok.new _ _ _, fun h => absurd (d12 h) (by rw [hf]; decide)⟩), (fun _ => rfl)⟩
     case s12r1 =>
      rintro L u W ⟨hB, c0, c1, c2, c3, c4, c5, c6, c7, c8, c9, c10, c11, d12⟩ hf hd K hK
      dsimp only at hK
      have hd11 : L 11 = true := hd ⟨11, .data⟩ (by simp) rfl;have hd10 : L 10 = true := (by first | exact hd ⟨10, .data⟩ (by simp) rfl | exact hd ⟨10, .guard⟩ (by simp) rfl | exact hd ⟨10, .phase⟩ (by simp) rfl | exact hd ⟨10, .chain⟩ (by simp) rfl);obtain ⟨g, x11_0, x11_1, x11_2, e11, k2, k3, k4⟩ := c11 hd11;rw [e11] at hK;have e10 := c10 hd10;rw [e10] at hK;have t0 := k3.cell (i := 0) rfl;have f0 := k3.frozen 0;have t1 := k3.cell (i := 1) rfl;have f1 := k3.frozen 1;have t2 := k3.cell (i := 2) rfl;have f2 := k3.frozen 2;have HH := Lib.hid (And.intro trivial trivial);clear hd;have hd11' := Lib.hid hd11;clear hd11;have hd10' := Lib.hid hd10;clear hd10
      go_simp
      have hd11 := hd11'.out;have hd10 := hd10'.out;have hlok := ((k3.set (i := 0) (v := .int .i64 x)).set (i := 1) (v := .int .i64 y)).set (i := 2) (v := .slice none 0 0)
      refine hK undef _ (fun s h => by cases h) (fun _ => ?_)
      exact ⟨((hB.setCell k2 _).setCell k2 _).setCell k2 _, c0, c1, c2, c3, c4, c5, c6, c7, c8, c9, (fun _ => rfl), (fun _ => ⟨g, _, _, _, rfl, k2, hlok, fun _ => ⟨rfl, rfl, rfl⟩⟩), (fun _ => hd11)⟩
    case finr1 =>
     rintro L u W hL ⟨hB, c0, c1, c2, c3, c4, c5, c6, c7, c8, c9, c10, c11, d12⟩
     have e0 := c0 (hL 0 (by decide));have e1 := c1 (hL 1 (by decide));have e2 := c2 (hL 2 (by decide));have e3 := c3 (hL 3 (by decide));have e4 := c4 (hL 4 (by decide));have e5 := c5 (hL 5 (by decide));have e6 := c6 (hL 6 (by decide));have e7 := c7 (hL 7 (by decide));have e8 := c8 (hL 8 (by decide));have e9 := c9 (hL 9 (by decide));have e10 := c10 (hL 10 (by decide));obtain ⟨g11, x11_0, x11_1, x11_2, e11, hg11, hlok11, hst11⟩ := c11 (hL 11 (by decide));obtain ⟨rfl, rfl, rfl⟩ := hst11 (hL 12 (by decide));clear hst11;clear hL c0 c1 c2 c3 c4 c5 c6 c7 c8 c9 c10 c11 d12
     try simp only [e0, e1, e2, e3, e4, e5, e6, e7, e8, e9, e10, e11]
     clear e0 e1 e2 e3 e4 e5 e6 e7 e8 e9 e10 e11;have kf := Lib.hid hlok11;have hcb : wr.heap.size ≤ g11 := hg11;replace KT := Lib.hid (KT.out.keep hB);replace km := Lib.hid (km.out.keep hB);replace HB := Lib.hid (HB.out.trans (hB.mono HB.out.size));replace X2 := Lib.hid (keepc hB X2.out);have hgW : g11 < W.heap.size := kf.out.lt;clear hlok11 hg11 hB X0 X1;generalize g11 = cb at *;have x2 := X2.out
     by_cases h0 : l.length = 0
     ·have E := Lib.hid (BAD.out (by unfold ChF.goodB; rw [List.length_eq_zero_iff.1 h0]; rfl))
      have hm0 : m1 = 0 := by omega
      subst hm0;clear KT km kf
      go_wp2_with fail
      clear x2
      go_ret
      exact ⟨by rw [E.out]; rfl, HB.out⟩
     ·have mne : ¬ (m1 : Int) = 0 := by omega
      go_upto_region 11 with fail
      clear x2;have T3 : Hid (Lok W tb 3 (rwL n4 fun j => .int .i64 (((ChF.all (Q.take k) ++ l.take 0).count (j : Int) : Nat) : Int))) := Lib.hid (by rw [List.take_zero, List.append_nil]; exact KT.out);have N3 : Hid (OwnI W (cb + 1) (.slice none 0 0) (l.take 0)) := Lib.hid (World.ownsRow_nil _ _ _ _);clear KT
      go_loopw [8] (fun z wz => ∃ (j : Nat) (a : Option Addr) (cc : Nat), z = .int .i64 j ∧ j ≤ m1 ∧ (∀ q, q < j → (chF true n4 FV FC).fits x y (l.take q) (l.getD q 0) = true) ∧ Lok wz cb 29 #[.int .i64 x, .int .i64 y, .slice a j cc] ∧ OwnI wz (cb + 1) (.slice a j cc) (l.take j) ∧ Lok wz tb 3 (rwL n4 fun q => .int .i64 (((ChF.all (Q.take k) ++ l.take j).count (q : Int) : Nat) : Int)) ∧ Lok wz w.heap.size 26 #[.slice pa1 n1 c1, .slice pa2 n2 c2, .slice pa3 n3 c3, .slice pa4 n4 c4] ∧ Below w.heap.size w wz) (fun z _ => m1 - (intOf z).toNat)
      case atStart => exact ⟨0, none, 0, rfl, Nat.zero_le _, fun q h => absurd h (by omega), kf.out, N3.out, T3.out, km.out, HB.out⟩
      case round =>
       clear kf N3 T3 km HB X2 hgW;obtain ⟨j, av, cv, rfl, hj, hQ, hF, hN, hT, hM, hB⟩ := hrel;have HQ := Lib.hid hQ;have kf := Lib.hid hF;have ON := Lib.hid hN;have KT := Lib.hid hT;have km := Lib.hid hM;have HB := Lib.hid hB;have hsr : cb < wr.heap.size := hF.lt;clear hQ hF hN hT hM hB
       by_cases hjt : j < m1
       ·have hjl : j < l.length := by omega
        have R2 := RI.out.keep HB.out;obtain ⟨b2, o2, rfl, hb2, hc2⟩ := R2.at hjt;have x3 := hc2 j hjt;have x2 := keepc HB.out X3.out;have TK := Lib.hid (take_snoc hjl);have NO := Lib.hid (fun (q : (chF true n4 FV FC).fits x y (l.take j) (l.getD j 0) = false) => BAD.out ((chF true n4 FV FC).good_no (c := (x, y, l)) hjl q))
        have MORE := Lib.hid (fun (q : (chF true n4 FV FC).fits x y (l.take j) (l.getD j 0) = true) => (fun z hz => by
         by_cases e : z = j
         ·rw [e]; exact q
         ·exact HQ.out z (by omega) : ∀ z, z < j + 1 → (chF true n4 FV FC).fits x y (l.take z) (l.getD z 0) = true))
        have PL := Lib.hid (fun (q : (chF true n4 FV FC).fits x y (l.take j) (l.getD j 0) = true) => (fb_place ((((chF true n4 FV FC).fits_iff).1 q).1)).1);have CF := Lib.hid (fun (z : Int) => FI.out x y av j cv (l.take j) z wr HB.out (rowI_sl ON.out) (by omega));clear hc2 R2;generalize l.getD j 0 = z at *
        have j0 : (0 : Int) ≤ (j : Int) := by omega
        have j1 : (j : Int) < (m1 : Int) := by omega
        have j2 : ((j : Int)).toNat = j := by omega
        have C1 := Lib.hid (CF.out z);have m0 := km.out.cell (i := 0) rfl;have m1' := km.out.cell (i := 1) rfl;have m2 := km.out.cell (i := 2) rfl;have m3 := km.out.cell (i := 3) rfl;have f0 := kf.out.cell (i := 0) rfl;have f1 := kf.out.cell (i := 1) rfl;have f2 := kf.out.cell (i := 2) rfl
        cases hf : (chF true n4 FV FC).fits x y (l.take j) z with
        | false =>
         have E := Lib.hid (NO.out hf);rw [hf] at C1;clear NO MORE PL CF hf
         go_wp2_with fail
         clear m0 m1' m2 m3 f0 f1 f2 x2 x3;((with_reducible refine C1.out.mono ?_); rintro e w8 ⟨rfl, hb8⟩);have HB8 := Lib.hid (HB.out.trans (hb8.mono HB.out.size));clear hb8 C1 km kf ON KT HB
         go_wp2
         go_ret
         exact ⟨by rw [E.out]; rfl, HB8.out⟩
        | true =>
         obtain ⟨i, rfl, hi⟩ := PL.out hf;have HQ2 := Lib.hid (MORE.out hf);rw [hf] at C1;clear NO MORE PL CF hf
         go_upto_region 15 with fail
         clear m0 m1' m2 m3 f0 f1 f2 x2 x3;((with_reducible refine C1.out.mono ?_); rintro e w8 ⟨rfl, hb8⟩);have kf3 := Lib.hid (kf.out.keep hb8);have KT3 := Lib.hid (KT.out.keep hb8);have km3 := Lib.hid (km.out.keep hb8);have ON3 := Lib.hid (ON.out.keep hb8);have HB3 := Lib.hid (HB.out.trans (hb8.mono HB.out.size));have hs3 : cb < w8.heap.size := kf3.out.lt;clear hb8 C1 kf KT km ON HB;have c2 := kf3.out.cell (i := 2) rfl
         have hlk : (l.take j).length ≤ 1000000 := by rw [List.length_take]; omega
         go_wp2_with (at_builtin; refine app_intD rfl _ _ rfl (cb + 1) (.slice av j cv) (l.take j) (i : Int) rfl ON3.out rfl hlk (by omega) ?_)
         intro v6 w6 hO6 hb6
         obtain ⟨a6, m6, e6, -⟩ := rowI_of_own hO6;rw [← TK.out] at hO6;have KT6 := Lib.hid (KT3.out.keepB hb6 (by omega));have kf6 := Lib.hid (kf3.out.keepB hb6 (by omega));have km6 := Lib.hid (km3.out.keepB hb6 (by omega));have HB6 := Lib.hid (HB3.out.trans (hb6.mono (by omega)));have ON6 := Lib.hid hO6
         have hlv1 : (l.take j ++ [(i : Int)]).length = j + 1 := by rw [List.length_append, List.length_singleton, List.length_take]; omega
         rw [hlv1] at e6;clear hO6 hb6 c2 KT3 kf3 km3 HB3 ON3 hlk hlv1;subst e6;have g2 := kf6.out.cell (i := 2) rfl;have q2 := kf6.out.frozen 2;have kf7 : Hid (Lok (w6.setCell ⟨cb, 2, none⟩ (.slice a6 (j + 1) m6)) cb 29 #[.int .i64 x, .int .i64 y, .slice a6 (j + 1) m6]) := Lib.hid (kf6.out.set (i := 2) (v := .slice a6 (j + 1) m6));have KT7 := Lib.hid (KT6.out.far (i := 2) (v := .slice a6 (j + 1) m6) (g' := cb) (by omega));have km7 := Lib.hid (km6.out.far (i := 2) (v := .slice a6 (j + 1) m6) (g' := cb) (by omega));have ON7 := Lib.hid (ownI_set (i := 2) (x := .slice a6 (j + 1) m6) ON6.out (show cb < cb + 1 by omega));have HB7 := Lib.hid (HB6.out.setCell (p := ⟨cb, 2, none⟩) (show w.heap.size ≤ cb by omega) (.slice a6 (j + 1) m6));clear kf6 KT6 km6 ON6 HB6
         go_upto_region 17 with fail
         clear g2 q2;generalize w6.setCell ⟨cb, 2, none⟩ (.slice a6 (j + 1) m6) = V7 at *;have t0 := KT7.out.cell (rwL_at _ hi);have q0 := KT7.out.frozen i;have hcnt := CL.out j (by omega) (i : Int);have kt8 := KT7.out.set (i := i) (v := .int .i64 (((ChF.all (Q.take k) ++ l.take j).count (i : Int) + 1 : Nat) : Int));rw [cnt_more hi, List.append_assoc, ← TK.out] at kt8
         have i0 : (0 : Int) ≤ (i : Int) := by omega
         have i1 : (i : Int) < (n4 : Int) := by omega
         have i2 : ((i : Int)).toNat = i := by omega
         have KT8 := Lib.hid kt8;clear kt8;have HCN := Lib.hid hcnt;clear hcnt;generalize (ChF.all (Q.take k) ++ l.take j).count (i : Int) = q at *;have hcnt := HCN.out
         have hw : IntKind.i64.wrap (((q : Nat) : Int) + 1) = ((q + 1 : Nat) : Int) := by rw [IntKind.wrap_i64]; omega
         have kf8 := Lib.hid (kf7.out.far (i := i) (v := .int .i64 ((q + 1 : Nat) : Int)) (g' := tb) (by omega));have km8 := Lib.hid (km7.out.far (i := i) (v := .int .i64 ((q + 1 : Nat) : Int)) (g' := tb) (by omega));have ON8 := Lib.hid (ownI_set (i := i) (x := .int .i64 ((q + 1 : Nat) : Int)) ON7.out (show tb < cb + 1 by omega));have HB8 := Lib.hid (HB7.out.setCell (p := ⟨tb, i, none⟩) (show w.heap.size ≤ tb by omega) (.int .i64 ((q + 1 : Nat) : Int)));clear kf7 KT7 km7 ON7 HB7 HCN
         go_wp2
         go_roundw
         case rel => exact ⟨j + 1, a6, m6, by go_num, hjt, HQ2.out, kf8.out, ON8.out, KT8.out, km8.out, HB8.out⟩
         case measure => simp [intOf]; omega
       ·obtain rfl : j = m1 := by omega
        have htk : l.take j = l := List.take_of_length_le (by omega);have E := Lib.hid (GOOD.out ((chF true n4 FV FC).good_yes (c := (x, y, l)) h0 (fun q hq => HQ.out q (by have hq : q < l.length := hq; omega))));have kt3 := KT.out;rw [htk, show ChF.all (Q.take k) ++ l = ChF.all (Q.take (k + 1)) from TKL.out.symm] at kt3;have KT3 := Lib.hid kt3;have x2 := keepc HB.out X3.out;clear kt3 htk KT ON kf
        go_wp2_with fail
        clear x2
        go_roundw
        case rel => exact ⟨k + 1, by go_num, hlt, E.out, KT3.out, km.out, HB.out⟩
        case measure => simp [intOf]; omega
   ·obtain rfl : k = m := by omega
    have htk : Q.take k = Q := List.take_of_length_le (by omega);have HG2 : Hid (∀ e ∈ Q, (chF true n4 FV FC).goodB e = true) := Lib.hid (fun e he => HG.out e (by rw [htk]; exact he));have kt3 := KT.out;rw [htk] at kt3;have KT3 := Lib.hid kt3;clear kt3 htk KT HG
    go_wp2_with fail
    go_loopw [10] (fun z wz => ∃ j : Nat, z = .int .i64 j ∧ j ≤ n4 ∧ (∀ q, q < j → (chF true n4 FV FC).onceB Q q = true) ∧ Lok wz tb 3 (rwL n4 fun q => .int .i64 (((ChF.all Q).count (q : Int) : Nat) : Int)) ∧ Lok wz w.heap.size 26 #[.slice pa1 n1 c1, .slice pa2 n2 c2, .slice pa3 n3 c3, .slice pa4 n4 c4] ∧ Below w.heap.size w wz) (fun z _ => n4 - (intOf z).toNat)
    case atStart => exact ⟨0, rfl, Nat.zero_le _, fun q h => absurd h (by omega), KT3.out, km.out, HB.out⟩
    case round =>
     clear KT3 km HB;obtain ⟨j, rfl, hj, hQ, hT, hM, hB⟩ := hrel;have HQ := Lib.hid hQ;have KT := Lib.hid hT;have km := Lib.hid hM;have HB := Lib.hid hB;clear hQ hT hM hB;have m3 := km.out.cell (i := 3) rfl
     by_cases hjt : j < n4
     ·have C1 := Lib.hid (FA.out j wr HB.out)
      have NO := Lib.hid (fun (q : (chF true n4 FV FC).onceB Q j = false) => (chF true n4 FV FC).once_no (i := j) hjt q)
      have MORE := Lib.hid (fun (q : (chF true n4 FV FC).onceB Q j = true) => (fun z hz => by
       by_cases e : z = j
       ·rw [e]; exact q
       ·exact HQ.out z (by omega) : ∀ z, z < j + 1 → (chF true n4 FV FC).onceB Q z = true))
      have j0 : (0 : Int) ≤ (j : Int) := by omega
      have j1 : (j : Int) < (n4 : Int) := by omega
      have j2 : ((j : Int)).toNat = j := by omega
      have m0 := km.out.cell (i := 0) rfl;have m1 := km.out.cell (i := 1) rfl;have m2 := km.out.cell (i := 2) rfl;have OE : Hid ((chF true n4 FV FC).onceB Q j = (!(chF true n4 FV FC).K j || ((ChF.all Q).count (j : Int) == 1))) := Lib.hid rfl
      cases hK : (chF true n4 FV FC).K j with
      | false =>
       rw [hK] at C1;have E := Lib.hid (MORE.out (by rw [OE.out, hK]; rfl));clear NO MORE OE hK
       go_wp2_with fail
       clear m0 m1 m2 m3;((with_reducible refine C1.out.mono ?_); rintro e w8 ⟨rfl, hb8⟩);have KT8 := Lib.hid (KT.out.keep hb8);have km8 := Lib.hid (km.out.keep hb8);have HB8 := Lib.hid (HB.out.trans (hb8.mono HB.out.size));clear hb8 C1 KT km HB
       go_wp2
       go_roundw
       case rel => exact ⟨j + 1, by go_num, hjt, E.out, KT8.out, km8.out, HB8.out⟩
       case measure => simp [intOf]; omega
      | true =>
       rw [hK] at C1
       go_upto_region 22 with fail
       clear m0 m1 m2 m3;((with_reducible refine C1.out.mono ?_); rintro e w8 ⟨rfl, hb8⟩);have KT8 := Lib.hid (KT.out.keep hb8);have km8 := Lib.hid (km.out.keep hb8);have HB8 := Lib.hid (HB.out.trans (hb8.mono HB.out.size));clear hb8 C1 KT km HB;have t0 := KT8.out.cell (rwL_at _ hjt);have EQ := eq_one ((ChF.all Q).count (j : Int))
       cases hq : (ChF.all Q).count (j : Int) == 1 with
       | true =>
        rw [hq] at EQ;have E := Lib.hid (MORE.out (by rw [OE.out, hq, Bool.or_true]))
        have CE : (((ChF.all Q).count (j : Int) : Nat) : Int) = 1 := by rw [beq_iff_eq.1 hq]; rfl
        rw [CE] at t0;clear NO MORE OE hK EQ hq CE
        go_wp2_with fail
        clear t0
        go_roundw
        case rel => exact ⟨j + 1, by go_num, hjt, E.out, KT8.out, km8.out, HB8.out⟩
        case measure => simp [intOf]; omega
       | false =>
        rw [hq] at EQ;have E := Lib.hid (NO.out (by rw [OE.out, hK, hq]; rfl));clear NO MORE OE hK hq;generalize (((ChF.all Q).count (j : Int) : Nat) : Int) = z at *
        have nz : ¬ z = 1 := by
         intro e
         rw [e] at EQ
         cases EQ
        clear KT8 km8
        go_wp2_with fail
        clear t0
        go_ret
        exact ⟨by rw [E.out]; rfl, HB8.out⟩
     ·obtain rfl : j = n4 := by omega
      have E := Lib.hid (ChF.right_yes _ HG2.out (fun q hq => HQ.out q hq));clear KT
      go_wp2_with fail
      clear m3
      go_ret
      exact ⟨by rw [E.out]; rfl, HB.out⟩
end Go.Proofs.YtcnbbanpnoigdaaGreat
namespace Go.Proofs.YtcnbbanpnoigdaaGreat
open Go.RowKit

def flB (m : Nat) (L : List ChT) : Bool := decide (m ≤ 20) && L.all fun c => decide (c.2.2.length ≤ 20)
theorem fl_yes {m : Nat} {L : List ChT} (h : flB m L = true) : m ≤ 20 ∧ ∀ e ∈ L, e.2.2.length ≤ 20 := by
 obtain ⟨a, b⟩ := Bool.and_eq_true_iff.1 h
 exact ⟨of_decide_eq_true a, fun e he => of_decide_eq_true (List.all_eq_true.1 b e he)⟩
set_option maxRecDepth 100000 in
set_option maxHeartbeats 4000000 in
theorem rfewC_any (pa1 pa2 pa3 pa4 : Option Addr) (n1 n2 n3 n4 c1 c2 c3 c4 : Nat) (a : Option Addr) (m c : Nat) (Q : List ChT) (w : World) (hr : RowC w a m Q) :
  Calls Tryz.prog 4 #[.agg #[.slice pa1 n1 c1, .slice pa2 n2 c2, .slice pa3 n3 c3, .slice pa4 n4 c4], .slice a m c] w fun e' w' => e' = .returned (.bool (flB m Q && (fwB n1 n2 n3 n4 && decide (n4 ≤ 12)))) ∧ Below w.heap.size w w' := by
 have HB := Lib.hid (Below.refl w.heap.size w);have FW := Lib.hid (fun W => rfew_any pa1 pa2 pa3 pa4 n1 n2 n3 n4 c1 c2 c3 c4 W);have RL := Lib.hid hr;have hlm := hr.1;clear hr
 by_cases h20 : m ≤ 20
 case neg =>
  have E : Hid (flB m Q = false) := Lib.hid (by unfold flB; rw [decide_eq_false h20]; rfl)
  have q1 : ¬ (m : Int) ≤ 20 := by omega
  have q2 : (0 : Int) < (m : Int) := by omega
  clear RL FW hlm
  go_enter Tryz.func4, Tryz.ntmps4
  go_upto_region 1 with fail
  have hbm := below_new1 w (.cells #[.slice pa1 n1 c1, .slice pa2 n2 c2, .slice pa3 n3 c3, .slice pa4 n4 c4] 26)
  have zm : (w.alloc (.cells #[.slice pa1 n1 c1, .slice pa2 n2 c2, .slice pa3 n3 c3, .slice pa4 n4 c4] 26)).heap.size = w.heap.size + 1 := by simp
  have HB := Lib.hid hbm;have km := Lib.hid (Lok.new w 26 #[.slice pa1 n1 c1, .slice pa2 n2 c2, .slice pa3 n3 c3, .slice pa4 n4 c4]);clear hbm;generalize w.alloc (.cells #[.slice pa1 n1 c1, .slice pa2 n2 c2, .slice pa3 n3 c3, .slice pa4 n4 c4] 26) = Vm at *;clear zm
  go_wp2_with fail
  go_loopw [5] (fun x wr => x = .int .i64 0 ∧ Below w.heap.size w wr) (fun _ _ => 0)
  case atStart => exact ⟨rfl, HB.out⟩
  case round =>
   clear HB km;obtain ⟨rfl, hB⟩ := hrel;have HB := Lib.hid hB;clear hB
   go_wp2_with fail
   go_ret
   exact ⟨by rw [E.out]; rfl, HB.out⟩
 have q1 : (m : Int) ≤ 20 := by omega
 go_enter Tryz.func4, Tryz.ntmps4
 go_upto_region 1 with fail
 have hbm := below_new1 w (.cells #[.slice pa1 n1 c1, .slice pa2 n2 c2, .slice pa3 n3 c3, .slice pa4 n4 c4] 26)
 have zm : (w.alloc (.cells #[.slice pa1 n1 c1, .slice pa2 n2 c2, .slice pa3 n3 c3, .slice pa4 n4 c4] 26)).heap.size = w.heap.size + 1 := by simp
 have HB := Lib.hid hbm;have km := Lib.hid (Lok.new w 26 #[.slice pa1 n1 c1, .slice pa2 n2 c2, .slice pa3 n3 c3, .slice pa4 n4 c4]);clear hbm;generalize w.alloc (.cells #[.slice pa1 n1 c1, .slice pa2 n2 c2, .slice pa3 n3 c3, .slice pa4 n4 c4] 26) = Vm at *;clear zm
 go_wp2_with fail
 go_loopw [5] (fun x wr => ∃ k : Nat, x = .int .i64 k ∧ k ≤ m ∧ (∀ e ∈ Q.take k, e.2.2.length ≤ 20) ∧ Lok wr w.heap.size 26 #[.slice pa1 n1 c1, .slice pa2 n2 c2, .slice pa3 n3 c3, .slice pa4 n4 c4] ∧ Below w.heap.size w wr) (fun x _ => m - (intOf x).toNat)
 case atStart => exact ⟨0, rfl, Nat.zero_le _, fun e h => by rw [List.take_zero] at h; exact absurd h List.not_mem_nil, km.out, HB.out⟩
 case round =>
  clear km HB;obtain ⟨k, rfl, hk, hG, hM, hB⟩ := hrel;have HG := Lib.hid hG;have km := Lib.hid hM;have HB := Lib.hid hB;clear hG hM hB
  by_cases hlt : k < m
  ·obtain ⟨b, o, t, m1, ct, x, y, l, rfl, hb, hL, hx, hy, hz, hri, _, _, _⟩ := RL.out.at hlt
   have hll := hri.1
   have BAD := Lib.hid (fun (q : ¬ l.length ≤ 20) => (by
    cases h : flB m Q with
    | false => rfl
    | true => exact absurd ((fl_yes h).2 _ (List.mem_of_getElem? hL)) q : flB m Q = false))
   have GOOD := Lib.hid (fun (q : l.length ≤ 20) => (fun e he => by
    rw [List.take_add_one, hL] at he
    rcases List.mem_append.1 he with z | z
    ·exact HG.out e z
    ·rw [Option.toList_some, List.mem_singleton] at z
     rw [z]; exact q : ∀ e ∈ Q.take (k + 1), e.2.2.length ≤ 20))
   rw [← Nat.add_assoc] at hy hz;have x2 := keepc HB.out hz
   have k0 : (0 : Int) ≤ (k : Int) := by omega
   have k1 : (k : Int) < (m : Int) := by omega
   have k2 : ((k : Int)).toNat = k := by omega
   clear hx hy hz hri hL HG FW
   by_cases h1 : m1 ≤ 20
   ·have g1 : (m1 : Int) ≤ 20 := by omega
    have E := Lib.hid (GOOD.out (by omega));clear GOOD BAD
    go_wp2_with fail
    clear x2
    go_roundw
    case rel => exact ⟨k + 1, by go_num, hlt, E.out, km.out, HB.out⟩
    case measure => simp [intOf]; omega
   ·have g1 : ¬ (m1 : Int) ≤ 20 := by omega
    have g2 : (20 : Int) < (m1 : Int) := by omega
    have E := Lib.hid (BAD.out (by omega));clear GOOD BAD km
    go_wp2_with fail
    clear x2
    go_ret
    exact ⟨by rw [E.out]; rfl, HB.out⟩
  ·obtain rfl : k = m := by omega
   have E : Hid (flB k Q = true) := Lib.hid (by
    unfold flB;rw [decide_eq_true h20, Bool.true_and]
    refine List.all_eq_true.2 fun e he => decide_eq_true (HG.out e ?_)
    rw [List.take_of_length_le (by omega)]; exact he)
   have m0 := km.out.cell (i := 0) rfl;have m1 := km.out.cell (i := 1) rfl;have m2 := km.out.cell (i := 2) rfl;have m3 := km.out.cell (i := 3) rfl;have CF := Lib.hid (FW.out wr);clear FW RL HG
   cases hf : fwB n1 n2 n3 n4 with
   | false =>
    rw [hf] at CF;have HF := Lib.hid hf;clear hf
    go_wp2_with fail
    clear m0 m1 m2 m3;((with_reducible refine CF.out.mono ?_); rintro e w8 ⟨rfl, hb8⟩);have HB8 := Lib.hid (HB.out.trans (hb8.mono HB.out.size));clear hb8 CF km HB
    go_wp2
    go_ret
    exact ⟨by rw [E.out, HF.out]; rfl, HB8.out⟩
   | true =>
    rw [hf] at CF;have HF := Lib.hid hf;clear hf
    go_wp2_with fail
    clear m0 m1 m2 m3;((with_reducible refine CF.out.mono ?_); rintro e w8 ⟨rfl, hb8⟩);have HB8 := Lib.hid (HB.out.trans (hb8.mono HB.out.size));have km8 := Lib.hid (km.out.keep hb8);clear hb8 CF km HB;have m3 := km8.out.cell (i := 3) rfl
    by_cases h12 : n4 ≤ 12
    ·have g1 : (n4 : Int) ≤ 12 := by omega
     go_wp2
     go_ret
     exact ⟨by rw [E.out, HF.out, decide_eq_true h12]; rfl, HB8.out⟩
    ·have g1 : decide ((n4 : Int) ≤ 12) = false := decide_eq_false (by omega)
     go_wp2
     go_ret
     exact ⟨by rw [E.out, HF.out, decide_eq_false h12]; rfl, HB8.out⟩
end Go.Proofs.YtcnbbanpnoigdaaGreat
namespace Go.Proofs.YtcnbbanpnoigdaaGreat
open Go.RowKit

theorem infoCnD : ∃ i, Tryz.prog.info? 87 = some i := by
 cases h : Tryz.prog.info? 87 with
 | some i => exact ⟨i, rfl⟩
 | none =>
  have k : (Tryz.prog.info? 87).isSome = true := by kernel_rfl
  rw [h] at k; cases k
theorem cellsCD : Tryz.prog.cellsOf 87 = 3 := by kernel_rfl
set_option maxRecDepth 100000 in
theorem eq_triD (W : World) (x0 x1 x2 x3 x4 x5 x6 x7 x8 : Int) : (Op.equalIn 10000 88 (.agg #[.int .i64 x0, .int .i64 x1, .int .i64 x2, .int .i64 x3, .int .i64 x4, .int .i64 x5, .int .i64 x6, .int .i64 x7, .int .i64 x8]) (.agg #[.int .i64 x0, .int .i64 x1, .int .i64 x2, .int .i64 x3, .int .i64 x4, .int .i64 x5, .int .i64 x6, .int .i64 x7, .int .i64 x8])).run Tryz.prog W = .ok true W := by
 obtain ⟨i, hi⟩ := infoCnD;rw [run_equalIn_array W 9999 _ _ Tryz.underlying88 hi, cellsCD];have r : List.range 3 = [0, 1, 2] := rfl;rw [r]
 simp [Op.eqItems, go_sem]
@[go_sem high] theorem neq_triD (W : World) (x0 x1 x2 x3 x4 x5 x6 x7 x8 : Int) : (binOp .neq 88 (.agg #[.int .i64 x0, .int .i64 x1, .int .i64 x2, .int .i64 x3, .int .i64 x4, .int .i64 x5, .int .i64 x6, .int .i64 x7, .int .i64 x8]) (.agg #[.int .i64 x0, .int .i64 x1, .int .i64 x2, .int .i64 x3, .int .i64 x4, .int .i64 x5, .int .i64 x6, .int .i64 x7, .int .i64 x8])).run Tryz.prog W = .ok (.bool false) W := by
 rw [run_neq_struct, eq_triD]; rfl

set_option maxRecDepth 100000 in
set_option maxHeartbeats 8000000 in
theorem same9D (A B : Option Addr) (n c d : Nat) (F : Nat → Nat → Int) (w : World) (ha : RowK w A n 9 F) (hb : RowK w B n 9 F) (hn : n ≤ 1000) :
  Calls Tryz.prog 48 #[.slice A n c, .slice B n d] w fun e w' => e = .returned (.bool true) ∧ Below w.heap.size w w' := by
 have RA := Lib.hid ha;have RB := Lib.hid hb;have HB := Lib.hid (Below.refl w.heap.size w);clear ha hb
 go_enter Tryz.func48, Tryz.ntmps48
 go_wp2_with fail
 go_loopw [5] (fun x wr => ∃ k : Nat, x = .int .i64 k ∧ k ≤ n ∧ Below w.heap.size w wr) (fun x _ => n - (intOf x).toNat)
 case atStart => exact ⟨0, rfl, Nat.zero_le _, HB.out⟩
 case round =>
  clear HB;obtain ⟨k, rfl, hk, hB⟩ := hrel;have HB := Lib.hid hB;clear hB
  by_cases hlt : k < n
  ·obtain ⟨b1, o1, rfl, hl1, hc⟩ := (RA.out.keep HB.out).at hlt
   obtain ⟨b2, o2, rfl, hl2, hd⟩ := (RB.out.keep HB.out).at hlt
   have i0 : (0 : Int) ≤ (k : Int) := by omega
   have i1 : (k : Int) < n := by omega
   have c0 := hc k hlt 0 (by decide);have d0 := hd k hlt 0 (by decide);have c1 := hc k hlt 1 (by decide);have d1 := hd k hlt 1 (by decide);have c2 := hc k hlt 2 (by decide);have d2 := hd k hlt 2 (by decide);have c3 := hc k hlt 3 (by decide);have d3 := hd k hlt 3 (by decide);have c4 := hc k hlt 4 (by decide);have d4 := hd k hlt 4 (by decide);have c5 := hc k hlt 5 (by decide);have d5 := hd k hlt 5 (by decide);have c6 := hc k hlt 6 (by decide);have d6 := hd k hlt 6 (by decide);have c7 := hc k hlt 7 (by decide);have d7 := hd k hlt 7 (by decide);have c8 := hc k hlt 8 (by decide);have d8 := hd k hlt 8 (by decide);rw [Nat.add_zero] at c0 d0;rw [← Nat.add_assoc] at c1 d1 c2 d2 c3 d3 c4 d4 c5 d5 c6 d6 c7 d7 c8 d8;obtain ⟨x0, hx0⟩ : ∃ x, F k 0 = x := ⟨_, rfl⟩;rw [hx0] at c0 d0;clear hx0;obtain ⟨x1, hx1⟩ : ∃ x, F k 1 = x := ⟨_, rfl⟩;rw [hx1] at c1 d1;clear hx1;obtain ⟨x2, hx2⟩ : ∃ x, F k 2 = x := ⟨_, rfl⟩;rw [hx2] at c2 d2;clear hx2;obtain ⟨x3, hx3⟩ : ∃ x, F k 3 = x := ⟨_, rfl⟩;rw [hx3] at c3 d3;clear hx3;obtain ⟨x4, hx4⟩ : ∃ x, F k 4 = x := ⟨_, rfl⟩;rw [hx4] at c4 d4;clear hx4;obtain ⟨x5, hx5⟩ : ∃ x, F k 5 = x := ⟨_, rfl⟩;rw [hx5] at c5 d5;clear hx5;obtain ⟨x6, hx6⟩ : ∃ x, F k 6 = x := ⟨_, rfl⟩;rw [hx6] at c6 d6;clear hx6;obtain ⟨x7, hx7⟩ : ∃ x, F k 7 = x := ⟨_, rfl⟩;rw [hx7] at c7 d7;clear hx7;obtain ⟨x8, hx8⟩ : ∃ x, F k 8 = x := ⟨_, rfl⟩;rw [hx8] at c8 d8;clear hx8;clear hc hd
   go_wp2_with fail
   go_quiet (fail)
   go_wp2_with fail
   go_roundw
   case rel => exact ⟨k + 1, by go_num, hlt, below_drewN HB.out _⟩
   case measure => simp [intOf]; omega
  ·go_wp2_with fail
   go_ret
   exact ⟨rfl, HB.out⟩

set_option maxRecDepth 100000 in
set_option maxHeartbeats 16000000 in
theorem rsame8_any (pa1 pa2 pa3 pa4 b1 b2 b3 b4 : Option Addr) (n1 n2 n3 n4 c1 c2 c3 c4 d1 d2 d3 d4 : Nat) (FV FT FN FC : Nat → Nat → Int) (w : World) (ha : MsW w pa1 pa2 pa3 pa4 n1 n2 n3 n4 FV FT FN FC) (hb : MsW w b1 b2 b3 b4 n1 n2 n3 n4 FV FT FN FC) (h4 : n4 ≤ 1000) :
  Calls Tryz.prog 20 #[.agg #[.slice pa1 n1 c1, .slice pa2 n2 c2, .slice pa3 n3 c3, .slice pa4 n4 c4], .agg #[.slice b1 n1 d1, .slice b2 n2 d2, .slice b3 n3 d3, .slice b4 n4 d4]] w fun e w' => e = .returned (.bool true) ∧ Below w.heap.size w w' := by
 have RA1 := Lib.hid ha.1.1;have RA2 := Lib.hid ha.1.2.1;have RA3 := Lib.hid ha.1.2.2.1;have RB1 := Lib.hid hb.1.1;have RB2 := Lib.hid hb.1.2.1;have RB3 := Lib.hid hb.1.2.2.1;obtain ⟨ln1, ln2, ln3, ln4⟩ := hb.2;have SM := Lib.hid (fun W (h : Below w.heap.size w W) => same9D pa4 b4 n4 c4 d4 FC W ((ha.keep h).1.2.2.2) ((hb.keep h).1.2.2.2) h4);have HB := Lib.hid (Below.refl w.heap.size w);clear ha hb
 go_enter Tryz.func20, Tryz.ntmps20
 go_upto_region 1 with fail
 have hbm := below_new1 w (.cells #[.slice pa1 n1 c1, .slice pa2 n2 c2, .slice pa3 n3 c3, .slice pa4 n4 c4] 26)
 have zm : (w.alloc (.cells #[.slice pa1 n1 c1, .slice pa2 n2 c2, .slice pa3 n3 c3, .slice pa4 n4 c4] 26)).heap.size = w.heap.size + 1 := by simp
 have HB := Lib.hid hbm;have km := Lib.hid (Lok.new w 26 #[.slice pa1 n1 c1, .slice pa2 n2 c2, .slice pa3 n3 c3, .slice pa4 n4 c4]);clear hbm;generalize w.alloc (.cells #[.slice pa1 n1 c1, .slice pa2 n2 c2, .slice pa3 n3 c3, .slice pa4 n4 c4] 26) = Vm at *;have hbn := below_new1 Vm (.cells #[.slice b1 n1 d1, .slice b2 n2 d2, .slice b3 n3 d3, .slice b4 n4 d4] 26);replace km := Lib.hid (km.out.keep hbn)
 have zn : (Vm.alloc (.cells #[.slice b1 n1 d1, .slice b2 n2 d2, .slice b3 n3 d3, .slice b4 n4 d4] 26)).heap.size = Vm.heap.size + 1 := by simp
 replace HB := Lib.hid (HB.out.trans (hbn.mono HB.out.size));have kn := Lib.hid (Lok.new Vm 26 #[.slice b1 n1 d1, .slice b2 n2 d2, .slice b3 n3 d3, .slice b4 n4 d4]);clear hbn;generalize Vm.alloc (.cells #[.slice b1 n1 d1, .slice b2 n2 d2, .slice b3 n3 d3, .slice b4 n4 d4] 26) = Vn at *;rw [zm] at kn;clear zm zn;have m0 := km.out.cell (i := 0) rfl;have e0 := kn.out.cell (i := 0) rfl;have m1 := km.out.cell (i := 1) rfl;have e1 := kn.out.cell (i := 1) rfl;have m2 := km.out.cell (i := 2) rfl;have e2 := kn.out.cell (i := 2) rfl
 go_upto_region 4 with fail
 clear m0 m1 m2 e0 e1 e2
 go_loopw [5] (fun x wr => ∃ k : Nat, x = .int .i64 k ∧ k ≤ n1 ∧ Lok wr w.heap.size 26 #[.slice pa1 n1 c1, .slice pa2 n2 c2, .slice pa3 n3 c3, .slice pa4 n4 c4] ∧ Lok wr (w.heap.size + 1) 26 #[.slice b1 n1 d1, .slice b2 n2 d2, .slice b3 n3 d3, .slice b4 n4 d4] ∧ Below w.heap.size w wr) (fun x _ => n1 - (intOf x).toNat)
 case atStart => exact ⟨0, rfl, Nat.zero_le _, km.out, kn.out, HB.out⟩
 case round =>
  clear HB km kn;obtain ⟨k, rfl, hk, hM, hN, hB⟩ := hrel;have HB := Lib.hid hB;have km := Lib.hid hM;have kn := Lib.hid hN;clear hB hM hN;have m := km.out.cell (i := 0) rfl;have n := kn.out.cell (i := 0) rfl
  by_cases hlt : k < n1
  ·obtain ⟨p1, o1, e1, hl1, hc⟩ := (RA1.out.keep HB.out).at hlt
   obtain ⟨p2, o2, e2, hl2, hd⟩ := (RB1.out.keep HB.out).at hlt;subst e1;subst e2
   have i0 : (0 : Int) ≤ (k : Int) := by omega
   have i1 : (k : Int) < n1 := by omega
   have i2 : ((k : Int)).toNat = k := by omega
   have x0 := hc k hlt 0 (by decide);have y0 := hd k hlt 0 (by decide);have x1 := hc k hlt 1 (by decide);have y1 := hd k hlt 1 (by decide);have x2 := hc k hlt 2 (by decide);have y2 := hd k hlt 2 (by decide);rw [Nat.add_zero] at x0 y0;rw [← Nat.add_assoc] at x1 y1 x2 y2;obtain ⟨z0, hz0⟩ : ∃ z, FV k 0 = z := ⟨_, rfl⟩;rw [hz0] at x0 y0;clear hz0;obtain ⟨z1, hz1⟩ : ∃ z, FV k 1 = z := ⟨_, rfl⟩;rw [hz1] at x1 y1;clear hz1;obtain ⟨z2, hz2⟩ : ∃ z, FV k 2 = z := ⟨_, rfl⟩;rw [hz2] at x2 y2;clear hz2;clear hc hd
   go_wp2_with fail
   go_quiet (fail)
   go_wp2_with fail
   clear m n x0 y0 x1 y1 x2 y2
   go_roundw
   case rel => exact ⟨k + 1, by go_num, hlt, km.out, kn.out, below_drewN HB.out _⟩
   case measure => simp [intOf]; omega
  ·obtain rfl : n1 = k := by omega
   go_upto_region 9 with fail
   clear m n
   go_loopw [6] (fun x wr => ∃ k : Nat, x = .int .i64 k ∧ k ≤ n2 ∧ Lok wr w.heap.size 26 #[.slice pa1 n1 c1, .slice pa2 n2 c2, .slice pa3 n3 c3, .slice pa4 n4 c4] ∧ Lok wr (w.heap.size + 1) 26 #[.slice b1 n1 d1, .slice b2 n2 d2, .slice b3 n3 d3, .slice b4 n4 d4] ∧ Below w.heap.size w wr) (fun x _ => n2 - (intOf x).toNat)
   case atStart => exact ⟨0, rfl, Nat.zero_le _, km.out, kn.out, HB.out⟩
   case round =>
    clear HB km kn;obtain ⟨k, rfl, hk, hM, hN, hB⟩ := hrel;have HB := Lib.hid hB;have km := Lib.hid hM;have kn := Lib.hid hN;clear hB hM hN;have m := km.out.cell (i := 1) rfl;have n := kn.out.cell (i := 1) rfl
    by_cases hlt : k < n2
    ·obtain ⟨p1, o1, e1, hl1, hc⟩ := (RA2.out.keep HB.out).at hlt
     obtain ⟨p2, o2, e2, hl2, hd⟩ := (RB2.out.keep HB.out).at hlt;subst e1;subst e2
     have i0 : (0 : Int) ≤ (k : Int) := by omega
     have i1 : (k : Int) < n2 := by omega
     have i2 : ((k : Int)).toNat = k := by omega
     have x0 := hc k hlt 0 (by decide);have y0 := hd k hlt 0 (by decide);have x1 := hc k hlt 1 (by decide);have y1 := hd k hlt 1 (by decide);rw [Nat.add_zero] at x0 y0;rw [← Nat.add_assoc] at x1 y1;obtain ⟨z0, hz0⟩ : ∃ z, FT k 0 = z := ⟨_, rfl⟩;rw [hz0] at x0 y0;clear hz0;obtain ⟨z1, hz1⟩ : ∃ z, FT k 1 = z := ⟨_, rfl⟩;rw [hz1] at x1 y1;clear hz1;clear hc hd
     go_wp2_with fail
     go_quiet (fail)
     go_wp2_with fail
     clear m n x0 y0 x1 y1
     go_roundw
     case rel => exact ⟨k + 1, by go_num, hlt, km.out, kn.out, below_drewN HB.out _⟩
     case measure => simp [intOf]; omega
    ·obtain rfl : n2 = k := by omega
     go_upto_region 14 with fail
     clear m n
     go_loopw [7] (fun x wr => ∃ k : Nat, x = .int .i64 k ∧ k ≤ n3 ∧ Lok wr w.heap.size 26 #[.slice pa1 n1 c1, .slice pa2 n2 c2, .slice pa3 n3 c3, .slice pa4 n4 c4] ∧ Lok wr (w.heap.size + 1) 26 #[.slice b1 n1 d1, .slice b2 n2 d2, .slice b3 n3 d3, .slice b4 n4 d4] ∧ Below w.heap.size w wr) (fun x _ => n3 - (intOf x).toNat)
     case atStart => exact ⟨0, rfl, Nat.zero_le _, km.out, kn.out, HB.out⟩
     case round =>
      clear HB km kn;obtain ⟨k, rfl, hk, hM, hN, hB⟩ := hrel;have HB := Lib.hid hB;have km := Lib.hid hM;have kn := Lib.hid hN;clear hB hM hN;have m := km.out.cell (i := 2) rfl;have n := kn.out.cell (i := 2) rfl
      by_cases hlt : k < n3
      ·obtain ⟨p1, o1, e1, hl1, hc⟩ := (RA3.out.keep HB.out).at hlt
       obtain ⟨p2, o2, e2, hl2, hd⟩ := (RB3.out.keep HB.out).at hlt;subst e1;subst e2
       have i0 : (0 : Int) ≤ (k : Int) := by omega
       have i1 : (k : Int) < n3 := by omega
       have i2 : ((k : Int)).toNat = k := by omega
       have x0 := hc k hlt 0 (by decide);have y0 := hd k hlt 0 (by decide);have x1 := hc k hlt 1 (by decide);have y1 := hd k hlt 1 (by decide);have x2 := hc k hlt 2 (by decide);have y2 := hd k hlt 2 (by decide);rw [Nat.add_zero] at x0 y0;rw [← Nat.add_assoc] at x1 y1 x2 y2;obtain ⟨z0, hz0⟩ : ∃ z, FN k 0 = z := ⟨_, rfl⟩;rw [hz0] at x0 y0;clear hz0;obtain ⟨z1, hz1⟩ : ∃ z, FN k 1 = z := ⟨_, rfl⟩;rw [hz1] at x1 y1;clear hz1;obtain ⟨z2, hz2⟩ : ∃ z, FN k 2 = z := ⟨_, rfl⟩;rw [hz2] at x2 y2;clear hz2;clear hc hd
       go_wp2_with fail
       go_quiet (fail)
       go_wp2_with fail
       clear m n x0 y0 x1 y1 x2 y2
       go_roundw
       case rel => exact ⟨k + 1, by go_num, hlt, km.out, kn.out, below_drewN HB.out _⟩
       case measure => simp [intOf]; omega
      ·obtain rfl : n3 = k := by omega
       go_upto_region 18 with fail
       clear m n;have m3 := km.out.cell (i := 3) rfl;have e3 := kn.out.cell (i := 3) rfl
       go_wp2_with fail
       clear m3 e3;((with_reducible refine (SM.out _ HB.out).mono ?_); rintro e w8 ⟨rfl, hb8⟩);have HB8 := Lib.hid (HB.out.trans (hb8.mono HB.out.size));clear hb8
       go_wp2
       go_ret
       exact ⟨rfl, HB8.out⟩
end Go.Proofs.YtcnbbanpnoigdaaGreat
namespace Go.Proofs.YtcnbbanpnoigdaaGreat
open Go.RowKit

theorem infoV2D : ∃ i, Tryz.prog.info? 36 = some i := by
 cases h : Tryz.prog.info? 36 with
 | some i => exact ⟨i, rfl⟩
 | none =>
  have k : (Tryz.prog.info? 36).isSome = true := by kernel_rfl
  rw [h] at k; cases k
theorem cellsV2D : Tryz.prog.cellsOf 36 = 2 := by kernel_rfl
set_option maxRecDepth 100000 in
theorem eq_shD (W : World) (x0 x1 x2 x3 x4 x5 : Int) : (Op.equalIn 10000 37 (.agg #[.int .i64 x0, .int .i64 x1, .int .i64 x2, .int .i64 x3, .int .i64 x4, .int .i64 x5]) (.agg #[.int .i64 x0, .int .i64 x1, .int .i64 x2, .int .i64 x3, .int .i64 x4, .int .i64 x5])).run Tryz.prog W = .ok true W := by
 obtain ⟨i, hi⟩ := infoV2D;rw [run_equalIn_array W 9999 _ _ Tryz.underlying37 hi, cellsV2D];have r : List.range 3 = [0, 1, 2] := rfl;rw [r]
 simp [Op.eqItems, go_sem]
@[go_sem high] theorem eql_shD (W : World) (x0 x1 x2 x3 x4 x5 : Int) : (binOp .eql 37 (.agg #[.int .i64 x0, .int .i64 x1, .int .i64 x2, .int .i64 x3, .int .i64 x4, .int .i64 x5]) (.agg #[.int .i64 x0, .int .i64 x1, .int .i64 x2, .int .i64 x3, .int .i64 x4, .int .i64 x5])).run Tryz.prog W = .ok (.bool true) W := by
 rw [run_eql_struct, eq_shD]; rfl
theorem chA_short (t : Bool) (n : Nat) (FV FC : Nat → Nat → Int) : (chA t n FV FC).length ≤ n := by
 unfold chA
 split
 ·exact grow_short _ n
 ·exact Nat.zero_le _
set_option maxRecDepth 100000 in
set_option maxHeartbeats 32000000 in
theorem law_does (E : ChOK) (CD0 : ∀ w, Calls Tryz.prog 19 #[] w fun e w' => e = .returned (.bool true) ∧ Below w.heap.size w w') (pa1 pa2 pa3 pa4 : Option Addr) (n1 n2 n3 n4 c1 c2 c3 c4 : Nat) (FV FT FN FC : Nat → Nat → Int) (i ax xa xs : Int) (ac : Option Addr) (mc cc : Nat) (l : List Int) (al : Option Addr) (ml cl : Nat) (Q : List ChT) (w : World) (hm : RowK w pa1 n1 3 FV ∧ RowK w pa2 n2 2 FT ∧ RowK w pa3 n3 3 FN ∧ RowK w pa4 n4 9 FC) (hz : (pa1 = none → n1 = 0 ∧ c1 = 0) ∧ (pa2 = none → n2 = 0 ∧ c2 = 0) ∧ (pa3 = none → n3 = 0 ∧ c3 = 0) ∧ (pa4 = none → n4 = 0 ∧ c4 = 0)) (hr : RowI w ac mc l) (hq : RowC w al ml Q) :
  Calls Tryz.prog 3 #[.agg #[.slice pa1 n1 c1, .slice pa2 n2 c2, .slice pa3 n3 c3, .slice pa4 n4 c4], .int .i64 i, .int .i64 ax, .agg #[.int .i64 xa, .int .i64 xs, .slice ac mc cc], .slice al ml cl] w fun e w' => e = .returned (.bool true) ∧ Below w.heap.size w w' := by
 have HB := Lib.hid (Below.refl w.heap.size w);have FW := Lib.hid (fun W (h : Below w.heap.size w W) => rfewC_any pa1 pa2 pa3 pa4 n1 n2 n3 n4 c1 c2 c3 c4 al ml cl Q W (hq.keep h));have CD := Lib.hid CD0;clear CD0
 cases hf : flB ml Q && (fwB n1 n2 n3 n4 && decide (n4 ≤ 12)) with
 | false =>
  rw [hf] at FW;clear hf CD E hm hz hr hq
  go_enter Tryz.func3, Tryz.ntmps3
  go_upto_region 1 with fail
  have hbm := below_new1 w (.cells #[.slice pa1 n1 c1, .slice pa2 n2 c2, .slice pa3 n3 c3, .slice pa4 n4 c4] 26)
  have zm : (w.alloc (.cells #[.slice pa1 n1 c1, .slice pa2 n2 c2, .slice pa3 n3 c3, .slice pa4 n4 c4] 26)).heap.size = w.heap.size + 1 := by simp
  have HB := Lib.hid hbm;have km := Lib.hid (Lok.new w 26 #[.slice pa1 n1 c1, .slice pa2 n2 c2, .slice pa3 n3 c3, .slice pa4 n4 c4]);clear hbm;generalize w.alloc (.cells #[.slice pa1 n1 c1, .slice pa2 n2 c2, .slice pa3 n3 c3, .slice pa4 n4 c4] 26) = Vm at *;have hbc := below_new1 Vm (.cells #[.int .i64 xa, .int .i64 xs, .slice ac mc cc] 29);replace km := Lib.hid (km.out.keep hbc)
  have zc : (Vm.alloc (.cells #[.int .i64 xa, .int .i64 xs, .slice ac mc cc] 29)).heap.size = Vm.heap.size + 1 := by simp
  replace HB := Lib.hid (HB.out.trans (hbc.mono HB.out.size));have kc := Lib.hid (Lok.new Vm 29 #[.int .i64 xa, .int .i64 xs, .slice ac mc cc]);clear hbc;generalize Vm.alloc (.cells #[.int .i64 xa, .int .i64 xs, .slice ac mc cc] 29) = Vc at *;rw [zm] at kc;clear zm zc;have m0 := km.out.cell (i := 0) rfl;have m1 := km.out.cell (i := 1) rfl;have m2 := km.out.cell (i := 2) rfl;have m3 := km.out.cell (i := 3) rfl;have f0 := kc.out.cell (i := 0) rfl;have f1 := kc.out.cell (i := 1) rfl;have f2 := kc.out.cell (i := 2) rfl
  go_wp2_with fail
  clear m0 m1 m2 m3 f0 f1 f2
  (((with_reducible refine (FW.out _ HB.out).mono ?_); rintro e w1 ⟨rfl, hb1⟩); replace HB := Lib.hid (HB.out.trans (hb1.mono HB.out.size)); replace km := Lib.hid (km.out.keep hb1); replace kc := Lib.hid (kc.out.keep hb1); clear hb1)
  clear km kc FW
  go_wp2
  go_ret
  exact ⟨rfl, HB.out⟩
 | true =>
  rw [hf] at FW;obtain ⟨q1, q2⟩ := Bool.and_eq_true_iff.1 hf;obtain ⟨q3, q4⟩ := Bool.and_eq_true_iff.1 q2;obtain ⟨hml, hQ⟩ := fl_yes q1;obtain ⟨h1, h2, h3, _⟩ := fw_yes q3;have h12 : n4 ≤ 12 := of_decide_eq_true q4;clear q1 q2 q3 q4 hf
  by_cases hmc : mc ≤ 20
  case neg =>
   have g1 : (20 : Int) < (mc : Int) := by omega
   clear CD E hm hz hr hq
   go_enter Tryz.func3, Tryz.ntmps3
   go_upto_region 1 with fail
   have hbm := below_new1 w (.cells #[.slice pa1 n1 c1, .slice pa2 n2 c2, .slice pa3 n3 c3, .slice pa4 n4 c4] 26)
   have zm : (w.alloc (.cells #[.slice pa1 n1 c1, .slice pa2 n2 c2, .slice pa3 n3 c3, .slice pa4 n4 c4] 26)).heap.size = w.heap.size + 1 := by simp
   have HB := Lib.hid hbm;have km := Lib.hid (Lok.new w 26 #[.slice pa1 n1 c1, .slice pa2 n2 c2, .slice pa3 n3 c3, .slice pa4 n4 c4]);clear hbm;generalize w.alloc (.cells #[.slice pa1 n1 c1, .slice pa2 n2 c2, .slice pa3 n3 c3, .slice pa4 n4 c4] 26) = Vm at *;have hbc := below_new1 Vm (.cells #[.int .i64 xa, .int .i64 xs, .slice ac mc cc] 29);replace km := Lib.hid (km.out.keep hbc)
   have zc : (Vm.alloc (.cells #[.int .i64 xa, .int .i64 xs, .slice ac mc cc] 29)).heap.size = Vm.heap.size + 1 := by simp
   replace HB := Lib.hid (HB.out.trans (hbc.mono HB.out.size));have kc := Lib.hid (Lok.new Vm 29 #[.int .i64 xa, .int .i64 xs, .slice ac mc cc]);clear hbc;generalize Vm.alloc (.cells #[.int .i64 xa, .int .i64 xs, .slice ac mc cc] 29) = Vc at *;rw [zm] at kc;clear zm zc;have m0 := km.out.cell (i := 0) rfl;have m1 := km.out.cell (i := 1) rfl;have m2 := km.out.cell (i := 2) rfl;have m3 := km.out.cell (i := 3) rfl
   go_wp2_with fail
   clear m0 m1 m2 m3
   (((with_reducible refine (FW.out _ HB.out).mono ?_); rintro e w1 ⟨rfl, hb1⟩); replace HB := Lib.hid (HB.out.trans (hb1.mono HB.out.size)); replace km := Lib.hid (km.out.keep hb1); replace kc := Lib.hid (kc.out.keep hb1); clear hb1)
   clear FW;have f2 := kc.out.cell (i := 2) rfl
   go_wp2
   go_ret
   exact ⟨rfl, HB.out⟩
  have g1 : (mc : Int) ≤ 20 := by omega
  have g2 : decide ((20 : Int) < (mc : Int)) = false := decide_eq_false (by omega);have M : Hid (MsW w pa1 pa2 pa3 pa4 n1 n2 n3 n4 FV FT FN FC) := Lib.hid ⟨hm, by omega, by omega, by omega, by omega⟩;have RI := Lib.hid hr;have RQ := Lib.hid hq;have OW := Lib.hid (fun W (h : Below w.heap.size w W) => rown08_any pa1 pa2 pa3 pa4 n1 n2 n3 n4 c1 c2 c3 c4 FV FT FN FC W (M.out.keep h) hz ⟨by omega, by omega, by omega, by omega⟩);have FA := Lib.hid (fun W (h : Below w.heap.size w W) => E.facing pa1 pa2 pa3 pa4 n1 n2 n3 n4 c1 c2 c3 c4 FV FT FN FC i W (M.out.keep h) h1 h12);have SH := Lib.hid (fun W (h : Below w.heap.size w W) => E.shadow pa1 pa2 pa3 pa4 n1 n2 n3 n4 c1 c2 c3 c4 FV FT FN FC i ax W (M.out.keep h) h1 h12);have FI := Lib.hid (fun W (h : Below w.heap.size w W) => E.fits pa1 pa2 pa3 pa4 n1 n2 n3 n4 c1 c2 c3 c4 FV FT FN FC xa xs ac mc cc l i W (M.out.keep h) h1 h12 (RI.out.keep h) hmc);have GR := Lib.hid (fun W (h : Below w.heap.size w W) => E.grow pa1 pa2 pa3 pa4 n1 n2 n3 n4 c1 c2 c3 c4 FV FT FN FC W (M.out.keep h) h1 h12);have IS := Lib.hid (fun W (h : Below w.heap.size w W) => E.right pa1 pa2 pa3 pa4 n1 n2 n3 n4 c1 c2 c3 c4 FV FT FN FC al ml cl Q W (M.out.keep h) h1 h12 (RQ.out.keep h) hml hQ);have TA := Lib.hid (fun W (h : Below w.heap.size w W) => E.tame pa1 pa2 pa3 pa4 n1 n2 n3 n4 c1 c2 c3 c4 FV FT FN FC W (M.out.keep h) h1 h12);have FA2 := Lib.hid (fun b1 b2 b3 b4 d1 d2 d3 d4 W (h : MsW W b1 b2 b3 b4 n1 n2 n3 n4 FV FT FN FC) => rfacing15_any b1 b2 b3 b4 n1 n2 n3 n4 d1 d2 d3 d4 FV FT FN FC i W h);have SH2 := Lib.hid (fun b1 b2 b3 b4 d1 d2 d3 d4 W (h : MsW W b1 b2 b3 b4 n1 n2 n3 n4 FV FT FN FC) => rshadow15_any b1 b2 b3 b4 n1 n2 n3 n4 d1 d2 d3 d4 FV FT FN FC i ax W h);have FI2 := Lib.hid (fun b1 b2 b3 b4 d1 d2 d3 d4 W (h : MsW W b1 b2 b3 b4 n1 n2 n3 n4 FV FT FN FC) (h0 : Below w.heap.size w W) => rfits15_any b1 b2 b3 b4 n1 n2 n3 n4 d1 d2 d3 d4 FV FT FN FC xa xs ac mc cc l i W h (RI.out.keep h0) (by omega) (by omega));have GR2 := Lib.hid (fun b1 b2 b3 b4 d1 d2 d3 d4 W (h : MsW W b1 b2 b3 b4 n1 n2 n3 n4 FV FT FN FC) => rgrow15_any b1 b2 b3 b4 n1 n2 n3 n4 d1 d2 d3 d4 FV FT FN FC W h (by omega))
  have IS2 := Lib.hid (fun b1 b2 b3 b4 d1 d2 d3 d4 W (h : MsW W b1 b2 b3 b4 n1 n2 n3 n4 FV FT FN FC) (h0 : Below w.heap.size w W) => rright15_any b1 b2 b3 b4 n1 n2 n3 n4 d1 d2 d3 d4 FV FT FN FC al ml cl Q W h (by omega) (RQ.out.keep h0) hml hQ);have TA2 := Lib.hid (fun b1 b2 b3 b4 d1 d2 d3 d4 W (h : MsW W b1 b2 b3 b4 n1 n2 n3 n4 FV FT FN FC) => rtame15_any b1 b2 b3 b4 n1 n2 n3 n4 d1 d2 d3 d4 FV FT FN FC W h);have SM := Lib.hid (fun b1 b2 b3 b4 d1 d2 d3 d4 W (h : MsW W b1 b2 b3 b4 n1 n2 n3 n4 FV FT FN FC) (h0 : Below w.heap.size w W) => rsame8_any pa1 pa2 pa3 pa4 b1 b2 b3 b4 n1 n2 n3 n4 c1 c2 c3 c4 d1 d2 d3 d4 FV FT FN FC W (M.out.keep h0) h (by omega));have GL := Lib.hid (Nat.le_trans (chA_short (tmB n1 n2 n3 n4 FV FT FN FC) n4 FV FC) h12);have BN : n1 ≤ 20 ∧ n2 ≤ 60 ∧ n3 ≤ 60 ∧ n4 ≤ 12 := ⟨h1, h2, h3, h12⟩;clear hm hz hr hq E M hQ RI RQ h1 h2 h3 h12;replace BN := Lib.hid BN;generalize (chF (tmB n1 n2 n3 n4 FV FT FN FC) n4 FV FC).A i = fa at *;generalize (chF (tmB n1 n2 n3 n4 FV FT FN FC) n4 FV FC).S i = fs at *;generalize (chF (tmB n1 n2 n3 n4 FV FT FN FC) n4 FV FC).K i = fk at *;generalize (chF (tmB n1 n2 n3 n4 FV FT FN FC) n4 FV FC).fits xa xs l i = ft at *;generalize ((tmB n1 n2 n3 n4 FV FT FN FC) && (chF (tmB n1 n2 n3 n4 FV FT FN FC) n4 FV FC).rightB Q) = rb at *;generalize chA (tmB n1 n2 n3 n4 FV FT FN FC) n4 FV FC = G at *;generalize vF (shT (tmB n1 n2 n3 n4 FV FT FN FC) n4 i ax) (shX FV FC ax.toNat i.toNat 0) = s0 at *;generalize vF (shT (tmB n1 n2 n3 n4 FV FT FN FC) n4 i ax) (shY FV FC ax.toNat i.toNat 0) = s1 at *;generalize vF (shT (tmB n1 n2 n3 n4 FV FT FN FC) n4 i ax) (shX FV FC ax.toNat i.toNat 1) = s2 at *;generalize vF (shT (tmB n1 n2 n3 n4 FV FT FN FC) n4 i ax) (shY FV FC ax.toNat i.toNat 1) = s3 at *;generalize vF (shT (tmB n1 n2 n3 n4 FV FT FN FC) n4 i ax) (shX FV FC ax.toNat i.toNat 2) = s4 at *;generalize vF (shT (tmB n1 n2 n3 n4 FV FT FN FC) n4 i ax) (shY FV FC ax.toNat i.toNat 2) = s5 at *;generalize agE (shT (tmB n1 n2 n3 n4 FV FT FN FC) n4 i ax) = es at *;generalize agE (tmB n1 n2 n3 n4 FV FT FN FC) = eg at *
  generalize tmB n1 n2 n3 n4 FV FT FN FC = tm at *
  go_enter Tryz.func3, Tryz.ntmps3
  go_upto_region 1 with fail
  have hbm := below_new1 w (.cells #[.slice pa1 n1 c1, .slice pa2 n2 c2, .slice pa3 n3 c3, .slice pa4 n4 c4] 26)
  have zm : (w.alloc (.cells #[.slice pa1 n1 c1, .slice pa2 n2 c2, .slice pa3 n3 c3, .slice pa4 n4 c4] 26)).heap.size = w.heap.size + 1 := by simp
  have HB := Lib.hid hbm;have km := Lib.hid (Lok.new w 26 #[.slice pa1 n1 c1, .slice pa2 n2 c2, .slice pa3 n3 c3, .slice pa4 n4 c4]);clear hbm;generalize w.alloc (.cells #[.slice pa1 n1 c1, .slice pa2 n2 c2, .slice pa3 n3 c3, .slice pa4 n4 c4] 26) = Vm at *;have hbc := below_new1 Vm (.cells #[.int .i64 xa, .int .i64 xs, .slice ac mc cc] 29);replace km := Lib.hid (km.out.keep hbc)
  have zc : (Vm.alloc (.cells #[.int .i64 xa, .int .i64 xs, .slice ac mc cc] 29)).heap.size = Vm.heap.size + 1 := by simp
  replace HB := Lib.hid (HB.out.trans (hbc.mono HB.out.size));have kc := Lib.hid (Lok.new Vm 29 #[.int .i64 xa, .int .i64 xs, .slice ac mc cc]);clear hbc;generalize Vm.alloc (.cells #[.int .i64 xa, .int .i64 xs, .slice ac mc cc] 29) = Vc at *;rw [zm] at kc;clear zm zc;have m0 := km.out.cell (i := 0) rfl;have m1 := km.out.cell (i := 1) rfl;have m2 := km.out.cell (i := 2) rfl;have m3 := km.out.cell (i := 3) rfl
  go_wp2_with fail
  clear m0 m1 m2 m3
  (((with_reducible refine (FW.out _ HB.out).mono ?_); rintro e w1 ⟨rfl, hb1⟩); replace HB := Lib.hid (HB.out.trans (hb1.mono HB.out.size)); replace km := Lib.hid (km.out.keep hb1); replace kc := Lib.hid (kc.out.keep hb1); clear hb1)
  clear FW;have f2 := kc.out.cell (i := 2) rfl;have m0 := km.out.cell (i := 0) rfl;have m1 := km.out.cell (i := 1) rfl;have m2 := km.out.cell (i := 2) rfl;have m3 := km.out.cell (i := 3) rfl
  go_wp2_with fail
  clear m0 m1 m2 m3 f2;((with_reducible refine (OW.out _ HB.out).mono ?_); rintro e w2 ⟨⟨v1, v2, v3, v4, rfl, O1, O2, O3, O4⟩, hb2⟩);obtain ⟨as1, cs1, rfl, -, -, -, r1⟩ := rowK_of_own O1;obtain ⟨as2, cs2, rfl, -, -, -, r2⟩ := rowK_of_own O2;obtain ⟨as3, cs3, rfl, -, -, -, r3⟩ := rowK_of_own O3;obtain ⟨as4, cs4, rfl, -, -, -, r4⟩ := rowK_of_own O4;have MO : Hid (MsW w2 as1 as2 as3 as4 n1 n2 n3 n4 FV FT FN FC) := Lib.hid (by have := BN.out; exact ⟨⟨r1, r2, r3, r4⟩, by omega, by omega, by omega, by omega⟩);replace km := Lib.hid (km.out.keep hb2);replace kc := Lib.hid (kc.out.keep hb2);replace HB := Lib.hid (HB.out.trans (hb2.mono HB.out.size));clear OW hb2 O1 O2 O3 O4 r1 r2 r3 r4
  go_upto_region 4 with fail
  have hbo := below_new1 w2 (.cells #[.slice as1 n1 cs1, .slice as2 n2 cs2, .slice as3 n3 cs3, .slice as4 n4 cs4] 26);replace km := Lib.hid (km.out.keep hbo);replace kc := Lib.hid (kc.out.keep hbo);replace MO := Lib.hid (MO.out.keep hbo)
  have zo : (w2.alloc (.cells #[.slice as1 n1 cs1, .slice as2 n2 cs2, .slice as3 n3 cs3, .slice as4 n4 cs4] 26)).heap.size = w2.heap.size + 1 := by simp
  replace HB := Lib.hid (HB.out.trans (hbo.mono HB.out.size));have ko := Lib.hid (Lok.new w2 26 #[.slice as1 n1 cs1, .slice as2 n2 cs2, .slice as3 n3 cs3, .slice as4 n4 cs4]);clear hbo;generalize w2.alloc (.cells #[.slice as1 n1 cs1, .slice as2 n2 cs2, .slice as3 n3 cs3, .slice as4 n4 cs4] 26) = Vo at *;clear zo;generalize w2.heap.size = go at *;have m0 := km.out.cell (i := 0) rfl;have m1 := km.out.cell (i := 1) rfl;have m2 := km.out.cell (i := 2) rfl;have m3 := km.out.cell (i := 3) rfl
  go_wp2_with fail
  clear m0 m1 m2 m3
  (((with_reducible refine (FA.out _ HB.out).mono ?_); rintro e w3 ⟨rfl, hb3⟩); replace HB := Lib.hid (HB.out.trans (hb3.mono HB.out.size)); replace km := Lib.hid (km.out.keep hb3); replace kc := Lib.hid (kc.out.keep hb3); replace ko := Lib.hid (ko.out.keep hb3); replace MO := Lib.hid (MO.out.keep hb3); clear hb3)
  clear FA;have m0 := ko.out.cell (i := 0) rfl;have m1 := ko.out.cell (i := 1) rfl;have m2 := ko.out.cell (i := 2) rfl;have m3 := ko.out.cell (i := 3) rfl
  go_wp2_with fail
  clear m0 m1 m2 m3
  (((with_reducible refine (FA2.out _ _ _ _ _ _ _ _ _ MO.out).mono ?_); rintro e w4 ⟨rfl, hb4⟩); replace HB := Lib.hid (HB.out.trans (hb4.mono HB.out.size)); replace km := Lib.hid (km.out.keep hb4); replace kc := Lib.hid (kc.out.keep hb4); replace ko := Lib.hid (ko.out.keep hb4); replace MO := Lib.hid (MO.out.keep hb4); clear hb4)
  clear FA2;have m0 := km.out.cell (i := 0) rfl;have m1 := km.out.cell (i := 1) rfl;have m2 := km.out.cell (i := 2) rfl;have m3 := km.out.cell (i := 3) rfl
  go_wp2_with fail
  clear m0 m1 m2 m3;((with_reducible refine (SH.out _ HB.out).mono ?_); rintro e w5 ⟨rfl, hb5⟩);replace HB := Lib.hid (HB.out.trans (hb5.mono HB.out.size));replace km := Lib.hid (km.out.keep hb5);replace kc := Lib.hid (kc.out.keep hb5);replace ko := Lib.hid (ko.out.keep hb5);replace MO := Lib.hid (MO.out.keep hb5);clear hb5
  go_upto_region 7 with fail
  have hb5 := below_new1 w5 (.cells #[.int .i64 s0, .int .i64 s1, .int .i64 s2, .int .i64 s3, .int .i64 s4, .int .i64 s5] 37);replace HB := Lib.hid (HB.out.trans (hb5.mono HB.out.size));replace km := Lib.hid (km.out.keep hb5);replace kc := Lib.hid (kc.out.keep hb5);replace ko := Lib.hid (ko.out.keep hb5);replace MO := Lib.hid (MO.out.keep hb5);have k5 := Lib.hid (Lok.new w5 37 #[.int .i64 s0, .int .i64 s1, .int .i64 s2, .int .i64 s3, .int .i64 s4, .int .i64 s5]);clear hb5;generalize w5.alloc (.cells #[.int .i64 s0, .int .i64 s1, .int .i64 s2, .int .i64 s3, .int .i64 s4, .int .i64 s5] 37) = V5 at *;generalize w5.heap.size = g5 at *;clear SH;have m0 := ko.out.cell (i := 0) rfl;have m1 := ko.out.cell (i := 1) rfl;have m2 := ko.out.cell (i := 2) rfl;have m3 := ko.out.cell (i := 3) rfl
  go_wp2_with fail
  clear m0 m1 m2 m3;((with_reducible refine (SH2.out _ _ _ _ _ _ _ _ _ MO.out).mono ?_); rintro e w6 ⟨rfl, hb6⟩);replace HB := Lib.hid (HB.out.trans (hb6.mono HB.out.size));replace km := Lib.hid (km.out.keep hb6);replace kc := Lib.hid (kc.out.keep hb6);replace ko := Lib.hid (ko.out.keep hb6);replace MO := Lib.hid (MO.out.keep hb6);replace k5 := Lib.hid (k5.out.keep hb6);clear hb6
  go_upto_region 8 with fail
  have hb6 := below_new1 w6 (.cells #[.int .i64 s0, .int .i64 s1, .int .i64 s2, .int .i64 s3, .int .i64 s4, .int .i64 s5] 37);replace HB := Lib.hid (HB.out.trans (hb6.mono HB.out.size));replace km := Lib.hid (km.out.keep hb6);replace kc := Lib.hid (kc.out.keep hb6);replace ko := Lib.hid (ko.out.keep hb6);replace MO := Lib.hid (MO.out.keep hb6);replace k5 := Lib.hid (k5.out.keep hb6);have k6 := Lib.hid (Lok.new w6 37 #[.int .i64 s0, .int .i64 s1, .int .i64 s2, .int .i64 s3, .int .i64 s4, .int .i64 s5]);clear hb6;generalize w6.alloc (.cells #[.int .i64 s0, .int .i64 s1, .int .i64 s2, .int .i64 s3, .int .i64 s4, .int .i64 s5] 37) = V6 at *;generalize w6.heap.size = g6 at *;clear SH2;have m0 := km.out.cell (i := 0) rfl;have m1 := km.out.cell (i := 1) rfl;have m2 := km.out.cell (i := 2) rfl;have m3 := km.out.cell (i := 3) rfl
  go_wp2_with fail
  clear m0 m1 m2 m3;((with_reducible refine (GR.out _ HB.out).mono ?_); rintro e w7 ⟨⟨v7, Z7, rfl, O7, hZ7⟩, hb7⟩);obtain ⟨a7, d7, rfl, -, -, -, R7⟩ := rowC_of_own O7;rw [hZ7] at R7;generalize Z7.length = l7 at *
  have hl7 : l7 ≤ 12 := by have := R7.1; have := GL.out; omega
  replace R7 := Lib.hid R7;replace km := Lib.hid (km.out.keep hb7);replace kc := Lib.hid (kc.out.keep hb7);replace ko := Lib.hid (ko.out.keep hb7);replace MO := Lib.hid (MO.out.keep hb7);replace k5 := Lib.hid (k5.out.keep hb7);replace k6 := Lib.hid (k6.out.keep hb7);replace HB := Lib.hid (HB.out.trans (hb7.mono HB.out.size));clear GR hb7 O7 hZ7;have m0 := ko.out.cell (i := 0) rfl;have m1 := ko.out.cell (i := 1) rfl;have m2 := ko.out.cell (i := 2) rfl;have m3 := ko.out.cell (i := 3) rfl
  go_wp2_with fail
  clear m0 m1 m2 m3;((with_reducible refine (GR2.out _ _ _ _ _ _ _ _ _ MO.out).mono ?_); rintro e w8 ⟨⟨v8, Z8, rfl, O8, hZ8⟩, hb8⟩);obtain ⟨a8, d8, rfl, -, -, -, R8⟩ := rowC_of_own O8;rw [hZ8] at R8;generalize Z8.length = l8 at *
  have hl8 : l8 ≤ 12 := by have := R8.1; have := GL.out; omega
  replace R8 := Lib.hid R8;replace R7 := Lib.hid (R7.out.keep hb8);replace km := Lib.hid (km.out.keep hb8);replace kc := Lib.hid (kc.out.keep hb8);replace ko := Lib.hid (ko.out.keep hb8);replace MO := Lib.hid (MO.out.keep hb8);replace k5 := Lib.hid (k5.out.keep hb8);replace k6 := Lib.hid (k6.out.keep hb8);replace HB := Lib.hid (HB.out.trans (hb8.mono HB.out.size));clear GR2 hb8 O8 hZ8 GL BN;have SC := Lib.hid (rsame_charts a7 a8 l7 l8 d7 d8 G G w8 R7.out R8.out (by omega) (by omega));rw [show seB G G = true from decide_eq_true rfl] at SC;clear R7 R8;have x0 := k5.out.cell (i := 0) rfl;have x1 := k5.out.cell (i := 1) rfl;have x2 := k5.out.cell (i := 2) rfl;have x3 := k5.out.cell (i := 3) rfl;have x4 := k5.out.cell (i := 4) rfl;have x5 := k5.out.cell (i := 5) rfl;have y0 := k6.out.cell (i := 0) rfl;have y1 := k6.out.cell (i := 1) rfl;have y2 := k6.out.cell (i := 2) rfl;have y3 := k6.out.cell (i := 3) rfl;have y4 := k6.out.cell (i := 4) rfl;have y5 := k6.out.cell (i := 5) rfl
  go_wp2_with fail
  clear x0 x1 x2 x3 x4 x5 y0 y1 y2 y3 y4 y5
  (((with_reducible refine (SC.out).mono ?_); rintro e w9 ⟨rfl, hb9⟩); replace HB := Lib.hid (HB.out.trans (hb9.mono HB.out.size)); replace km := Lib.hid (km.out.keep hb9); replace kc := Lib.hid (kc.out.keep hb9); replace ko := Lib.hid (ko.out.keep hb9); replace MO := Lib.hid (MO.out.keep hb9); clear hb9)
  clear SC k5 k6
  go_upto_region 11 with fail
  have ST := Lib.hid (pastV_stays w9);have ne : Nonempty (Of (PastV w9)) := ⟨⟨w9, Below.refl _ _⟩⟩;have G1 := Lib.hid (fun D : Of (PastV w9) => HB.out.trans ((show Below w9.heap.size w9 D.world from D.holds).mono HB.out.size));have C1 := Lib.hid (fun D : Of (PastV w9) => FI.out D.world (G1.out D));have C2 := Lib.hid (fun D : Of (PastV w9) => FI2.out as1 as2 as3 as4 cs1 cs2 cs3 cs4 D.world (MO.out.keep (show Below w9.heap.size w9 D.world from D.holds)) (G1.out D));have C3 := Lib.hid (fun D : Of (PastV w9) => IS.out D.world (G1.out D));have C4 := Lib.hid (fun D : Of (PastV w9) => IS2.out as1 as2 as3 as4 cs1 cs2 cs3 cs4 D.world (MO.out.keep (show Below w9.heap.size w9 D.world from D.holds)) (G1.out D));have C5 := Lib.hid (fun D : Of (PastV w9) => TA.out D.world (G1.out D));have C6 := Lib.hid (fun D : Of (PastV w9) => TA2.out as1 as2 as3 as4 cs1 cs2 cs3 cs4 D.world (MO.out.keep (show Below w9.heap.size w9 D.world from D.holds)));clear FI FI2 IS IS2 TA TA2 G1;have d0 : ∀ D : Of (PastV w9), _ := fun D => (km.out.keep (show Below w9.heap.size w9 D.world from D.holds)).cell (i := 0) rfl;have d1 : ∀ D : Of (PastV w9), _ := fun D => (km.out.keep (show Below w9.heap.size w9 D.world from D.holds)).cell (i := 1) rfl;have d2 : ∀ D : Of (PastV w9), _ := fun D => (km.out.keep (show Below w9.heap.size w9 D.world from D.holds)).cell (i := 2) rfl;have d3 : ∀ D : Of (PastV w9), _ := fun D => (km.out.keep (show Below w9.heap.size w9 D.world from D.holds)).cell (i := 3) rfl;have o0 : ∀ D : Of (PastV w9), _ := fun D => (ko.out.keep (show Below w9.heap.size w9 D.world from D.holds)).cell (i := 0) rfl;have o1 : ∀ D : Of (PastV w9), _ := fun D => (ko.out.keep (show Below w9.heap.size w9 D.world from D.holds)).cell (i := 1) rfl;have o2 : ∀ D : Of (PastV w9), _ := fun D => (ko.out.keep (show Below w9.heap.size w9 D.world from D.holds)).cell (i := 2) rfl;have o3 : ∀ D : Of (PastV w9), _ := fun D => (ko.out.keep (show Below w9.heap.size w9 D.world from D.holds)).cell (i := 3) rfl;have f0 : ∀ D : Of (PastV w9), _ := fun D => (kc.out.keep (show Below w9.heap.size w9 D.world from D.holds)).cell (i := 0) rfl
  have f1 : ∀ D : Of (PastV w9), _ := fun D => (kc.out.keep (show Below w9.heap.size w9 D.world from D.holds)).cell (i := 1) rfl;have f2 : ∀ D : Of (PastV w9), _ := fun D => (kc.out.keep (show Below w9.heap.size w9 D.world from D.holds)).cell (i := 2) rfl
  refine wp_region_class (S := PastV w9) (by kernel_rfl) (by kernel_rfl) (Below.refl _ _).drew ?_
  repeat (go_big_quiet_step (first | (go_at_call 13; first | (with_reducible exact class_call ST.out _ (C1.out _))) | (go_at_call 14; first | (with_reducible exact class_call ST.out _ (C2.out _))) | (go_at_call 15; first | (with_reducible exact class_call ST.out _ (C3.out _))) | (go_at_call 16; first | (with_reducible exact class_call ST.out _ (C4.out _))) | (go_at_call 17; first | (with_reducible exact class_call ST.out _ (C5.out _))) | (go_at_call 18; first | (with_reducible exact class_call ST.out _ (C6.out _)))))
  refine wpQuiet_nil ?_
  rintro _ ⟨D, rfl⟩
  have hD : Below w9.heap.size w9 D.world := D.holds;replace km := Lib.hid (km.out.keep hD);replace ko := Lib.hid (ko.out.keep hD);replace MO := Lib.hid (MO.out.keep hD);replace HB := Lib.hid (HB.out.trans (hD.mono HB.out.size));clear d0 d1 d2 d3 o0 o1 o2 o3 f0 f1 f2 ST ne C1 C2 C3 C4 C5 C6 hD kc;generalize D.world = V9 at *
  go_wp2_with fail
  (((with_reducible refine (CD.out _).mono ?_); rintro e w10 ⟨rfl, hb10⟩); replace HB := Lib.hid (HB.out.trans (hb10.mono HB.out.size)); replace km := Lib.hid (km.out.keep hb10); replace ko := Lib.hid (ko.out.keep hb10); replace MO := Lib.hid (MO.out.keep hb10); clear hb10)
  clear CD;have m0 := km.out.cell (i := 0) rfl;have m1 := km.out.cell (i := 1) rfl;have m2 := km.out.cell (i := 2) rfl;have m3 := km.out.cell (i := 3) rfl;have o0 := ko.out.cell (i := 0) rfl;have o1 := ko.out.cell (i := 1) rfl;have o2 := ko.out.cell (i := 2) rfl;have o3 := ko.out.cell (i := 3) rfl
  go_wp2_with fail
  clear m0 m1 m2 m3 o0 o1 o2 o3
  (((with_reducible refine (SM.out _ _ _ _ _ _ _ _ _ MO.out HB.out).mono ?_); rintro e w11 ⟨rfl, hb11⟩); replace HB := Lib.hid (HB.out.trans (hb11.mono HB.out.size)); clear hb11)
  clear SM km ko MO
  go_wp2
  go_ret
  exact ⟨rfl, HB.out⟩
end Go.Proofs.YtcnbbanpnoigdaaGreat
