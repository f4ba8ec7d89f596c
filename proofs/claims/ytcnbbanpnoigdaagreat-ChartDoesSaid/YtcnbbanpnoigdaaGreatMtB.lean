import Derived.Test.YtcnbbanpnoigdaaGreatHe
namespace Go.Proofs.YtcnbbanpnoigdaaGreat
open Go.RowKit

def c3 (a b c : Int) : Nat → Int
 | 0 => a
 | 1 => b
 | _ => c
def EdgeAt (a1 a2 b1 b2 c1 c2 : Int) (k : Nat) (v : Value) (W : World) : Prop :=
 ∃ g4 g5 g7 : Nat, v = .func (.func 137) #[] #[.pointer (some ⟨g4, 0, none⟩), .pointer (some ⟨g5, 0, none⟩), .pointer (some ⟨g7, 0, none⟩)] ∧
  Lok W g4 36 #[.int .i64 (c3 a1 b1 c1 k), .int .i64 (c3 a2 b2 c2 k)] ∧ Lok W g5 36 #[.int .i64 (c3 b1 c1 a1 k), .int .i64 (c3 b2 c2 a2 k)] ∧
  Lok W g7 3 #[.int .i64 (ordI (ar (c3 a1 b1 c1 k) (c3 a2 b2 c2 k) (c3 b1 c1 a1 k) (c3 b2 c2 a2 k) (c3 c1 a1 b1 k) (c3 c2 a2 b2 k)) 0)]
theorem edgeAt_booked (a1 a2 b1 b2 c1 c2 : Int) (B k : Nat) (v : Value) : Booked B (EdgeAt a1 a2 b1 b2 c1 c2 k v) := fun W l o o' h hl ho h1 h2 => by
 obtain ⟨g4, g5, g7, e, k4, k5, k7⟩ := h
 exact ⟨g4, g5, g7, e, lok_booked B _ _ _ W l o o' k4 hl ho h1 h2, lok_booked B _ _ _ W l o o' k5 hl ho h1 h2, lok_booked B _ _ _ W l o o' k7 hl ho h1 h2⟩

attribute [local go_sem] Oper.semAt_some
set_option maxRecDepth 100000 in
set_option maxHeartbeats 4000000 in
theorem edges1_gives (p1 p2 q1 q2 r1 r2 : Int) (hs : (s2 p1 p2 && s2 q1 q2 && s2 r1 r2) = true) (B : Nat) :
  Gives Tryz.prog 135 #[.pointer (some ⟨B, 0, none⟩)] 3 (fun W => Lok W B 37 #[.int .i64 p1, .int .i64 p2, .int .i64 q1, .int .i64 q2, .int .i64 r1, .int .i64 r2]) (EdgeAt p1 p2 q1 q2 r1 r2) := by
 intro n l J Jx hJ hK hY w h0
 show Calls Tryz.prog 135 #[.func (.yield l) #[] #[], .pointer (some ⟨B, 0, none⟩)] w _
 have hs1 : (s2 q1 q2 && s2 r1 r2 && s2 p1 p2) = true := by rw [← hs]; cases s2 p1 p2 <;> cases s2 q1 q2 <;> cases s2 r1 r2 <;> rfl
 have hs2 : (s2 r1 r2 && s2 p1 p2 && s2 q1 q2) = true := by rw [← hs]; cases s2 p1 p2 <;> cases s2 q1 q2 <;> cases s2 r1 r2 <;> rfl
 have P0 := Lib.hid (fun W => sideOf_any p1 p2 q1 q2 r1 r2 true hs W);have P1 := Lib.hid (fun W => sideOf_any q1 q2 r1 r2 p1 p2 true hs1 W);have P2 := Lib.hid (fun W => sideOf_any r1 r2 p1 p2 q1 q2 true hs2 W);rw [vF_yes, show rE true = 0 from rfl] at P0 P1 P2;clear hs hs1 hs2;obtain ⟨s0, e0⟩ : ∃ s, ordI (ar p1 p2 q1 q2 r1 r2) 0 = s := ⟨_, rfl⟩;obtain ⟨s1, e1⟩ : ∃ s, ordI (ar q1 q2 r1 r2 p1 p2) 0 = s := ⟨_, rfl⟩;obtain ⟨s2', e2⟩ : ∃ s, ordI (ar r1 r2 p1 p2 q1 q2) 0 = s := ⟨_, rfl⟩;rw [e0] at P0;rw [e1] at P1;rw [e2] at P2;have E0 := Lib.hid e0;have E1 := Lib.hid e1;have E2 := Lib.hid e2;clear e0 e1 e2;have H0 := Lib.hid h0;clear h0
 go_enter Tryz.func135, Tryz.ntmps135
 go_wp2_with fail
 go_loopw [10] (fun x wr => ∃ k : Nat, x = .int .i64 k ∧ k ≤ 3 ∧ J k wr) (fun x _ => 3 - (intOf x).toNat)
 case atStart => exact ⟨0, rfl, Nat.zero_le _, H0.out⟩
 case round =>
  obtain ⟨k, rfl, hk, hJ0⟩ := hrel
  rcases (show k = 0 ∨ k = 1 ∨ k = 2 ∨ k = 3 by omega) with rfl | rfl | rfl | rfl
  ·have KB := Lib.hid (hK 0 wr hJ0)
   have HJ := Lib.hid hJ0;clear hJ0
   go_upto_region 3 with fail
   refine wp_region_rel (by kernel_rfl) [13, 14, 15, 16, 17, 18, 19, 20, 21, 22, 23, 24, 25, 4, 5, 6] ?Fr1 ?hFr1
    (fun L u W => Below wr.heap.size wr W ∧ (L 0 = true → u 13 = .int .i64 0) ∧ (L 1 = true → u 14 = .pointer (some ⟨B, 0, none⟩)) ∧ (L 2 = true → u 15 = .agg #[.int .i64 p1, .int .i64 p2]) ∧ (L 3 = true → u 16 = .int .i64 0) ∧ (L 4 = true → u 17 = .int .i64 1) ∧ (L 5 = true → u 18 = .int .i64 1) ∧ (L 6 = true → u 19 = .pointer (some ⟨B, 2, none⟩)) ∧ (L 7 = true → u 20 = .agg #[.int .i64 q1, .int .i64 q2]) ∧ (L 8 = true → u 21 = .int .i64 0) ∧ (L 9 = true → u 22 = .int .i64 2) ∧ (L 10 = true → u 23 = .int .i64 2) ∧ (L 11 = true → u 24 = .pointer (some ⟨B, 4, none⟩)) ∧ (L 12 = true → u 25 = .agg #[.int .i64 r1, .int .i64 r2]) ∧ (L 13 = true → ∃ (g : Nat) (x13_0 x13_1 : Value), u 4 = .pointer (some ⟨g, 0, none⟩) ∧ wr.heap.size ≤ g ∧ Lok W g 36 #[x13_0, x13_1] ∧ (L 16 = true → x13_0 = .int .i64 p1 ∧ x13_1 = .int .i64 p2)) ∧ (L 16 = true → L 13 = true) ∧ (L 14 = true → ∃ (g : Nat) (x14_0 x14_1 : Value), u 5 = .pointer (some ⟨g, 0, none⟩) ∧ wr.heap.size ≤ g ∧ Lok W g 36 #[x14_0, x14_1] ∧ (L 17 = true → x14_0 = .int .i64 q1 ∧ x14_1 = .int .i64 q2)) ∧ (L 17 = true → L 14 = true) ∧ (L 15 = true → ∃ (g : Nat) (x15_0 x15_1 : Value), u 6 = .pointer (some ⟨g, 0, none⟩) ∧ wr.heap.size ≤ g ∧ Lok W g 36 #[x15_0, x15_1] ∧ (L 18 = true → x15_0 = .int .i64 r1 ∧ x15_1 = .int .i64 r2)) ∧ (L 18 = true → L 15 = true) ∧ (L 13 = true → L 14 = true → u 4 ≠ u 5) ∧ (L 13 = true → L 15 = true → u 4 ≠ u 6) ∧ (L 14 = true → L 15 = true → u 5 ≠ u 6)) (by kernel_rfl) (by kernel_rfl) 19 rfl ?h0r1 ?stepr1 ?finr1
   case hFr1 => intro u; simp only [putAll, Act.put, List.setIfInBounds_toArray, List.set]; exact rfl
   case h0r1 => intro L u hL; exact ⟨(Below.refl _ _).drew, (fun h => by simp [hL] at h), (fun h => by simp [hL] at h), (fun h => by simp [hL] at h), (fun h => by simp [hL] at h), (fun h => by simp [hL] at h), (fun h => by simp [hL] at h), (fun h => by simp [hL] at h), (fun h => by simp [hL] at h), (fun h => by simp [hL] at h), (fun h => by simp [hL] at h), (fun h => by simp [hL] at h), (fun h => by simp [hL] at h), (fun h => by simp [hL] at h), (fun h => by simp [hL] at h), (fun h => by simp [hL] at h), (fun h => by simp [hL] at h), (fun h => by simp [hL] at h), (fun h => by simp [hL] at h), (fun h => by simp [hL] at h), (fun h => by simp [hL] at h), (fun h => by simp [hL] at h), (fun h => by simp [hL] at h)⟩
   case stepr1 =>
    refine ops_all (ops_cons ?s0r1 (ops_cons ?s1r1 (ops_cons ?s2r1 (ops_cons ?s3r1 (ops_cons ?s4r1 (ops_cons ?s5r1 (ops_cons ?s6r1 (ops_cons ?s7r1 (ops_cons ?s8r1 (ops_cons ?s9r1 (ops_cons ?s10r1 (ops_cons ?s11r1 (ops_cons ?s12r1 (ops_cons ?s13r1 (ops_cons ?s14r1 (ops_cons ?s15r1 (ops_cons ?s16r1 (ops_cons ?s17r1 (ops_cons ?s18r1 (ops_nil))))))))))))))))))))
    case s0r1 =>
     rintro L u W ⟨hB, c0, c1, c2, c3, c4, c5, c6, c7, c8, c9, c10, c11, c12, c13, d16, c14, d17, c15, d18, y13_14, y13_15, y14_15⟩ hf hd K hK
     dsimp only at hK
     clear hd
     go_simp
     refine hK _ _ ?_ (fun h => by cases h)
     intro s hs
     cases hs
     exact ⟨hB, (fun _ => rfl), c1, c2, c3, c4, c5, c6, c7, c8, c9, c10, c11, c12, c13, d16, c14, d17, c15, d18, y13_14, y13_15, y14_15⟩
    case s1r1 =>
     rintro L u W ⟨hB, c0, c1, c2, c3, c4, c5, c6, c7, c8, c9, c10, c11, c12, c13, d16, c14, d17, c15, d18, y13_14, y13_15, y14_15⟩ hf hd K hK
     dsimp only at hK
     have hd0 : L 0 = true := (by first | exact hd ⟨0, .data⟩ (by simp) rfl | exact hd ⟨0, .guard⟩ (by simp) rfl | exact hd ⟨0, .phase⟩ (by simp) rfl | exact hd ⟨0, .chain⟩ (by simp) rfl);have e0 := c0 hd0;rw [e0] at hK;clear hd0;clear hd
     go_simp
     refine hK _ _ ?_ (fun h => by cases h)
     intro s hs
     cases hs
     exact ⟨hB, c0, (fun _ => rfl), c2, c3, c4, c5, c6, c7, c8, c9, c10, c11, c12, c13, d16, c14, d17, c15, d18, y13_14, y13_15, y14_15⟩
    case s2r1 =>
     rintro L u W ⟨hB, c0, c1, c2, c3, c4, c5, c6, c7, c8, c9, c10, c11, c12, c13, d16, c14, d17, c15, d18, y13_14, y13_15, y14_15⟩ hf hd K hK
     dsimp only at hK
     have hd1 : L 1 = true := (by first | exact hd ⟨1, .data⟩ (by simp) rfl | exact hd ⟨1, .guard⟩ (by simp) rfl | exact hd ⟨1, .phase⟩ (by simp) rfl | exact hd ⟨1, .chain⟩ (by simp) rfl);have e1 := c1 hd1;rw [e1] at hK;have t0 := (KB.out.keep hB).cell (i := 0) (v := .int .i64 p1) rfl;have t1 := (KB.out.keep hB).cell (i := 1) (v := .int .i64 p2) rfl;clear hd1;clear hd
     go_simp
     refine hK _ _ ?_ (fun h => by cases h)
     intro s hs
     cases hs
     exact ⟨hB, c0, c1, (fun _ => rfl), c3, c4, c5, c6, c7, c8, c9, c10, c11, c12, c13, d16, c14, d17, c15, d18, y13_14, y13_15, y14_15⟩
    case s3r1 =>
     rintro L u W ⟨hB, c0, c1, c2, c3, c4, c5, c6, c7, c8, c9, c10, c11, c12, c13, d16, c14, d17, c15, d18, y13_14, y13_15, y14_15⟩ hf hd K hK
     dsimp only at hK
     clear hd
     go_simp
     refine hK _ _ ?_ (fun h => by cases h)
     intro s hs
     cases hs
     exact ⟨hB, c0, c1, c2, (fun _ => rfl), c4, c5, c6, c7, c8, c9, c10, c11, c12, c13, d16, c14, d17, c15, d18, y13_14, y13_15, y14_15⟩
    case s4r1 =>
     rintro L u W ⟨hB, c0, c1, c2, c3, c4, c5, c6, c7, c8, c9, c10, c11, c12, c13, d16, c14, d17, c15, d18, y13_14, y13_15, y14_15⟩ hf hd K hK
     dsimp only at hK
     have hd3 : L 3 = true := (by first | exact hd ⟨3, .data⟩ (by simp) rfl | exact hd ⟨3, .guard⟩ (by simp) rfl | exact hd ⟨3, .phase⟩ (by simp) rfl | exact hd ⟨3, .chain⟩ (by simp) rfl);have e3 := c3 hd3;rw [e3] at hK;clear hd3;clear hd
     go_simp
     refine hK _ _ ?_ (fun h => by cases h)
     intro s hs
     cases hs
     exact ⟨hB, c0, c1, c2, c3, (fun _ => rfl), c5, c6, c7, c8, c9, c10, c11, c12, c13, d16, c14, d17, c15, d18, y13_14, y13_15, y14_15⟩
    case s5r1 =>
     rintro L u W ⟨hB, c0, c1, c2, c3, c4, c5, c6, c7, c8, c9, c10, c11, c12, c13, d16, c14, d17, c15, d18, y13_14, y13_15, y14_15⟩ hf hd K hK
     dsimp only at hK
     have hd4 : L 4 = true := (by first | exact hd ⟨4, .data⟩ (by simp) rfl | exact hd ⟨4, .guard⟩ (by simp) rfl | exact hd ⟨4, .phase⟩ (by simp) rfl | exact hd ⟨4, .chain⟩ (by simp) rfl);have e4 := c4 hd4;rw [e4] at hK;clear hd4;clear hd
     go_simp
     refine hK _ _ ?_ (fun h => by cases h)
     intro s hs
     cases hs
     exact ⟨hB, c0, c1, c2, c3, c4, (fun _ => rfl), c6, c7, c8, c9, c10, c11, c12, c13, d16, c14, d17, c15, d18, y13_14, y13_15, y14_15⟩
    case s6r1 =>
     rintro L u W ⟨hB, c0, c1, c2, c3, c4, c5, c6, c7, c8, c9, c10, c11, c12, c13, d16, c14, d17, c15, d18, y13_14, y13_15, y14_15⟩ hf hd K hK
     dsimp only at hK
     have hd5 : L 5 = true := (by first | exact hd ⟨5, .data⟩ (by simp) rfl | exact hd ⟨5, .guard⟩ (by simp) rfl | exact hd ⟨5, .phase⟩ (by simp) rfl | exact hd ⟨5, .chain⟩ (by simp) rfl);have e5 := c5 hd5;rw [e5] at hK;clear hd5;clear hd
     go_simp
     refine hK _ _ ?_ (fun h => by cases h)
     intro s hs
     cases hs
     exact ⟨hB, c0, c1, c2, c3, c4, c5, (fun _ => rfl), c7, c8, c9, c10, c11, c12, c13, d16, c14, d17, c15, d18, y13_14, y13_15, y14_15⟩
    case s7r1 =>
     rintro L u W ⟨hB, c0, c1, c2, c3, c4, c5, c6, c7, c8, c9, c10, c11, c12, c13, d16, c14, d17, c15, d18, y13_14, y13_15, y14_15⟩ hf hd K hK
     dsimp only at hK
     have hd6 : L 6 = true := (by first | exact hd ⟨6, .data⟩ (by simp) rfl | exact hd ⟨6, .guard⟩ (by simp) rfl | exact hd ⟨6, .phase⟩ (by simp) rfl | exact hd ⟨6, .chain⟩ (by simp) rfl);have e6 := c6 hd6;rw [e6] at hK;have t0 := (KB.out.keep hB).cell (i := 2) (v := .int .i64 q1) rfl;have t1 := (KB.out.keep hB).cell (i := 3) (v := .int .i64 q2) rfl;clear hd6;clear hd
     go_simp
     refine hK _ _ ?_ (fun h => by cases h)
     intro s hs
     cases hs
     exact ⟨hB, c0, c1, c2, c3, c4, c5, c6, (fun _ => rfl), c8, c9, c10, c11, c12, c13, d16, c14, d17, c15, d18, y13_14, y13_15, y14_15⟩
    case s8r1 =>
     rintro L u W ⟨hB, c0, c1, c2, c3, c4, c5, c6, c7, c8, c9, c10, c11, c12, c13, d16, c14, d17, c15, d18, y13_14, y13_15, y14_15⟩ hf hd K hK
     dsimp only at hK
     clear hd
     go_simp
     refine hK _ _ ?_ (fun h => by cases h)
     intro s hs
     cases hs
     exact ⟨hB, c0, c1, c2, c3, c4, c5, c6, c7, (fun _ => rfl), c9, c10, c11, c12, c13, d16, c14, d17, c15, d18, y13_14, y13_15, y14_15⟩
    case s9r1 =>
     rintro L u W ⟨hB, c0, c1, c2, c3, c4, c5, c6, c7, c8, c9, c10, c11, c12, c13, d16, c14, d17, c15, d18, y13_14, y13_15, y14_15⟩ hf hd K hK
     dsimp only at hK
     have hd8 : L 8 = true := (by first | exact hd ⟨8, .data⟩ (by simp) rfl | exact hd ⟨8, .guard⟩ (by simp) rfl | exact hd ⟨8, .phase⟩ (by simp) rfl | exact hd ⟨8, .chain⟩ (by simp) rfl);have e8 := c8 hd8;rw [e8] at hK;clear hd8;clear hd
     go_simp
     refine hK _ _ ?_ (fun h => by cases h)
     intro s hs
     cases hs
     exact ⟨hB, c0, c1, c2, c3, c4, c5, c6, c7, c8, (fun _ => rfl), c10, c11, c12, c13, d16, c14, d17, c15, d18, y13_14, y13_15, y14_15⟩
    case s10r1 =>
     rintro L u W ⟨hB, c0, c1, c2, c3, c4, c5, c6, c7, c8, c9, c10, c11, c12, c13, d16, c14, d17, c15, d18, y13_14, y13_15, y14_15⟩ hf hd K hK
     dsimp only at hK
     have hd9 : L 9 = true := (by first | exact hd ⟨9, .data⟩ (by simp) rfl | exact hd ⟨9, .guard⟩ (by simp) rfl | exact hd ⟨9, .phase⟩ (by simp) rfl | exact hd ⟨9, .chain⟩ (by simp) rfl);have e9 := c9 hd9;rw [e9] at hK;clear hd9;clear hd
     go_simp
     refine hK _ _ ?_ (fun h => by cases h)
     intro s hs
     cases hs
     exact ⟨hB, c0, c1, c2, c3, c4, c5, c6, c7, c8, c9, (fun _ => rfl), c11, c12, c13, d16, c14, d17, c15, d18, y13_14, y13_15, y14_15⟩
    case s11r1 =>
     rintro L u W ⟨hB, c0, c1, c2, c3, c4, c5, c6, c7, c8, c9, c10, c11, c12, c13, d16, c14, d17, c15, d18, y13_14, y13_15, y14_15⟩ hf hd K hK
     dsimp only at hK
     have hd10 : L 10 = true := (by first | exact hd ⟨10, .data⟩ (by simp) rfl | exact hd ⟨10, .guard⟩ (by simp) rfl | exact hd ⟨10, .phase⟩ (by simp) rfl | exact hd ⟨10, .chain⟩ (by simp) rfl);have e10 := c10 hd10;rw [e10] at hK;clear hd10;clear hd
     go_simp
     refine hK _ _ ?_ (fun h => by cases h)
     intro s hs
     cases hs
     exact ⟨hB, c0, c1, c2, c3, c4, c5, c6, c7, c8, c9, c10, (fun _ => rfl), c12, c13, d16, c14, d17, c15, d18, y13_14, y13_15, y14_15⟩
    case s12r1 =>
     rintro L u W ⟨hB, c0, c1, c2, c3, c4, c5, c6, c7, c8, c9, c10, c11, c12, c13, d16, c14, d17, c15, d18, y13_14, y13_15, y14_15⟩ hf hd K hK
     dsimp only at hK
     have hd11 : L 11 = true := (by first | exact hd ⟨11, .data⟩ (by simp) rfl | exact hd ⟨11, .guard⟩ (by simp) rfl | exact hd ⟨11, .phase⟩ (by simp) rfl | exact hd ⟨11, .chain⟩ (by simp) rfl);have e11 := c11 hd11;rw [e11] at hK;have t0 := (KB.out.keep hB).cell (i := 4) (v := .int .i64 r1) rfl;have t1 := (KB.out.keep hB).cell (i := 5) (v := .int .i64 r2) rfl;clear hd11;clear hd
     go_simp
     refine hK _ _ ?_ (fun h => by cases h)
     intro s hs
     cases hs
     exact ⟨hB, c0, c1, c2, c3, c4, c5, c6, c7, c8, c9, c10, c11, (fun _ => rfl), c13, d16, c14, d17, c15, d18, y13_14, y13_15, y14_15⟩
    case s13r1 =>
     rintro L u W ⟨hB, c0, c1, c2, c3, c4, c5, c6, c7, c8, c9, c10, c11, c12, c13, d16, c14, d17, c15, d18, y13_14, y13_15, y14_15⟩ hf hd K hK
     dsimp only at hK
     go_simp
     have hb : Below W.heap.size W (W.alloc (.cells #[.int .i64 0, .int .i64 0] 36)) := (Below.refl _ W).alloc (Nat.le_refl _) _
     refine hK _ _ ?_ (fun h => by cases h)
     intro s hs
     cases hs
     exact ⟨hB.trans (hb.mono hB.size), c0, c1, c2, c3, c4, c5, c6, c7, c8, c9, c10, c11, c12, (fun _ => ⟨_, _, _, rfl, hB.size, Lok.new _ _ _, fun h => absurd (d16 h) (by rw [hf]; decide)⟩), (fun _ => rfl), (fun h => by obtain ⟨g, x14_0, x14_1, k1, k2, k3, k4⟩ := c14 h; exact ⟨g, x14_0, x14_1, k1, k2, k3.keep hb, k4⟩), d17, (fun h => by obtain ⟨g, x15_0, x15_1, k1, k2, k3, k4⟩ := c15 h; exact ⟨g, x15_0, x15_1, k1, k2, k3.keep hb, k4⟩), d18, (fun _ h => by obtain ⟨g, x14_0, x14_1, k1, k2, k3, k4⟩ := c14 h; exact ptr_new k1 k3), (fun _ h => by obtain ⟨g, x15_0, x15_1, k1, k2, k3, k4⟩ := c15 h; exact ptr_new k1 k3), y14_15⟩
    case s14r1 =>
     rintro L u W ⟨hB, c0, c1, c2, c3, c4, c5, c6, c7, c8, c9, c10, c11, c12, c13, d16, c14, d17, c15, d18, y13_14, y13_15, y14_15⟩ hf hd K hK
     dsimp only at hK
     go_simp
     have hb : Below W.heap.size W (W.alloc (.cells #[.int .i64 0, .int .i64 0] 36)) := (Below.refl _ W).alloc (Nat.le_refl _) _
     refine hK _ _ ?_ (fun h => by cases h)
     intro s hs
     cases hs
     exact ⟨hB.trans (hb.mono hB.size), c0, c1, c2, c3, c4, c5, c6, c7, c8, c9, c10, c11, c12, (fun h => by obtain ⟨g, x13_0, x13_1, k1, k2, k3, k4⟩ := c13 h; exact ⟨g, x13_0, x13_1, k1, k2, k3.keep hb, k4⟩), d16, (fun _ => ⟨_, _, _, rfl, hB.size, Lok.new _ _ _, fun h => absurd (d17 h) (by rw [hf]; decide)⟩), (fun _ => rfl), (fun h => by obtain ⟨g, x15_0, x15_1, k1, k2, k3, k4⟩ := c15 h; exact ⟨g, x15_0, x15_1, k1, k2, k3.keep hb, k4⟩), d18, (fun h _ => by obtain ⟨g, x13_0, x13_1, k1, k2, k3, k4⟩ := c13 h; exact ptr_new2 k1 k3), y13_15, (fun _ h => by obtain ⟨g, x15_0, x15_1, k1, k2, k3, k4⟩ := c15 h; exact ptr_new k1 k3)⟩
    case s15r1 =>
     rintro L u W ⟨hB, c0, c1, c2, c3, c4, c5, c6, c7, c8, c9, c10, c11, c12, c13, d16, c14, d17, c15, d18, y13_14, y13_15, y14_15⟩ hf hd K hK
     dsimp only at hK
     go_simp
     have hb : Below W.heap.size W (W.alloc (.cells #[.int .i64 0, .int .i64 0] 36)) := (Below.refl _ W).alloc (Nat.le_refl _) _
     refine hK _ _ ?_ (fun h => by cases h)
     intro s hs
     cases hs
     exact ⟨hB.trans (hb.mono hB.size), c0, c1, c2, c3, c4, c5, c6, c7, c8, c9, c10, c11, c12, (fun h => by obtain ⟨g, x13_0, x13_1, k1, k2, k3, k4⟩ := c13 h; exact ⟨g, x13_0, x13_1, k1, k2, k3.keep hb, k4⟩), d16, (fun h => by obtain ⟨g, x14_0, x14_1, k1, k2, k3, k4⟩ := c14 h; exact ⟨g, x14_0, x14_1, k1, k2, k3.keep hb, k4⟩), d17, (fun _ => ⟨_, _, _, rfl, hB.size, Lok.new _ _ _, fun h => absurd (d18 h) (by rw [hf]; decide)⟩), (fun _ => rfl), y13_14, (fun h _ => by obtain ⟨g, x13_0, x13_1, k1, k2, k3, k4⟩ := c13 h; exact ptr_new2 k1 k3), (fun h _ => by obtain ⟨g, x14_0, x14_1, k1, k2, k3, k4⟩ := c14 h; exact ptr_new2 k1 k3)⟩
    case s16r1 =>
     rintro L u W ⟨hB, c0, c1, c2, c3, c4, c5, c6, c7, c8, c9, c10, c11, c12, c13, d16, c14, d17, c15, d18, y13_14, y13_15, y14_15⟩ hf hd K hK
     dsimp only at hK
     have hd13 : L 13 = true := hd ⟨13, .data⟩ (by simp) rfl;have hd2 : L 2 = true := (by first | exact hd ⟨2, .data⟩ (by simp) rfl | exact hd ⟨2, .guard⟩ (by simp) rfl | exact hd ⟨2, .phase⟩ (by simp) rfl | exact hd ⟨2, .chain⟩ (by simp) rfl);obtain ⟨g, x13_0, x13_1, e13, k2, k3, k4⟩ := c13 hd13;rw [e13] at hK;have e2 := c2 hd2;rw [e2] at hK;have t0 := k3.cell (i := 0) rfl;have f0 := k3.frozen 0;have t1 := k3.cell (i := 1) rfl;have f1 := k3.frozen 1;have HH := Lib.hid (And.intro trivial trivial);clear hd;have hd13' := Lib.hid hd13;clear hd13;have hd2' := Lib.hid hd2;clear hd2
     go_simp
     have hd13 := hd13'.out;have hd2 := hd2'.out;have hlok := (k3.set (i := 0) (v := .int .i64 p1)).set (i := 1) (v := .int .i64 p2)
     refine hK undef _ (fun s h => by cases h) (fun _ => ?_)
     exact ⟨(hB.setCell k2 _).setCell k2 _, c0, c1, (fun _ => rfl), c3, c4, c5, c6, c7, c8, c9, c10, c11, c12, (fun _ => ⟨g, _, _, rfl, k2, hlok, fun _ => ⟨rfl, rfl⟩⟩), (fun _ => hd13), (fun h => by obtain ⟨g2, x14_0, x14_1, m1, m2, m3, m4⟩ := c14 h; have hne := ptr_apart (y13_14 hd13 h) e13 m1; exact ⟨g2, x14_0, x14_1, m1, m2, (m3.far hne).far hne, m4⟩), d17, (fun h => by obtain ⟨g2, x15_0, x15_1, m1, m2, m3, m4⟩ := c15 h; have hne := ptr_apart (y13_15 hd13 h) e13 m1; exact ⟨g2, x15_0, x15_1, m1, m2, (m3.far hne).far hne, m4⟩), d18, (fun h1 h2 => by first | exact y13_14 h1 h2 | (rw [← e13]; exact y13_14 h1 h2)), (fun h1 h2 => by first | exact y13_15 h1 h2 | (rw [← e13]; exact y13_15 h1 h2)), (fun h1 h2 => by first | exact y14_15 h1 h2 | (rw [← e13]; exact y14_15 h1 h2))⟩
    case s17r1 =>
     rintro L u W ⟨hB, c0, c1, c2, c3, c4, c5, c6, c7, c8, c9, c10, c11, c12, c13, d16, c14, d17, c15, d18, y13_14, y13_15, y14_15⟩ hf hd K hK
     dsimp only at hK
     have hd14 : L 14 = true := hd ⟨14, .data⟩ (by simp) rfl;have hd7 : L 7 = true := (by first | exact hd ⟨7, .data⟩ (by simp) rfl | exact hd ⟨7, .guard⟩ (by simp) rfl | exact hd ⟨7, .phase⟩ (by simp) rfl | exact hd ⟨7, .chain⟩ (by simp) rfl);obtain ⟨g, x14_0, x14_1, e14, k2, k3, k4⟩ := c14 hd14;rw [e14] at hK;have e7 := c7 hd7;rw [e7] at hK;have t0 := k3.cell (i := 0) rfl;have f0 := k3.frozen 0;have t1 := k3.cell (i := 1) rfl;have f1 := k3.frozen 1;have HH := Lib.hid (And.intro trivial trivial);clear hd;have hd14' := Lib.hid hd14;clear hd14;have hd7' := Lib.hid hd7;clear hd7
     go_simp
     have hd14 := hd14'.out;have hd7 := hd7'.out;have hlok := (k3.set (i := 0) (v := .int .i64 q1)).set (i := 1) (v := .int .i64 q2)
     refine hK undef _ (fun s h => by cases h) (fun _ => ?_)
     exact ⟨(hB.setCell k2 _).setCell k2 _, c0, c1, c2, c3, c4, c5, c6, (fun _ => rfl), c8, c9, c10, c11, c12, (fun h => by obtain ⟨g2, x13_0, x13_1, m1, m2, m3, m4⟩ := c13 h; have hne := ptr_apart2 (y13_14 h hd14) m1 e14; exact ⟨g2, x13_0, x13_1, m1, m2, (m3.far hne).far hne, m4⟩), d16, (fun _ => ⟨g, _, _, rfl, k2, hlok, fun _ => ⟨rfl, rfl⟩⟩), (fun _ => hd14), (fun h => by obtain ⟨g2, x15_0, x15_1, m1, m2, m3, m4⟩ := c15 h; have hne := ptr_apart (y14_15 hd14 h) e14 m1; exact ⟨g2, x15_0, x15_1, m1, m2, (m3.far hne).far hne, m4⟩), d18, (fun h1 h2 => by first | exact y13_14 h1 h2 | (rw [← e14]; exact y13_14 h1 h2)), (fun h1 h2 => by first | exact y13_15 h1 h2 | (rw [← e14]; exact y13_15 h1 h2)), (fun h1 h2 => by first | exact y14_15 h1 h2 | (rw [← e14]; exact y14_15 h1 h2))⟩
    case s18r1 =>
     rintro L u W ⟨hB, c0, c1, c2, c3, c4, c5, c6, c7, c8, c9, c10, c11, c12, c13, d16, c14, d17, c15, d18, y13_14, y13_15, y14_15⟩ hf hd K hK
     dsimp only at hK
     have hd15 : L 15 = true := hd ⟨15, .data⟩ (by simp) rfl;have hd12 : L 12 = true := (by first | exact hd ⟨12, .data⟩ (by simp) rfl | exact hd ⟨12, .guard⟩ (by simp) rfl | exact hd ⟨12, .phase⟩ (by simp) rfl | exact hd ⟨12, .chain⟩ (by simp) rfl);obtain ⟨g, x15_0, x15_1, e15, k2, k3, k4⟩ := c15 hd15;rw [e15] at hK;have e12 := c12 hd12;rw [e12] at hK;have t0 := k3.cell (i := 0) rfl;have f0 := k3.frozen 0;have t1 := k3.cell (i := 1) rfl;have f1 := k3.frozen 1;have HH := Lib.hid (And.intro trivial trivial);clear hd;have hd15' := Lib.hid hd15;clear hd15;have hd12' := Lib.hid hd12;clear hd12
     go_simp
     have hd15 := hd15'.out;have hd12 := hd12'.out;have hlok := (k3.set (i := 0) (v := .int .i64 r1)).set (i := 1) (v := .int .i64 r2)
     refine hK undef _ (fun s h => by cases h) (fun _ => ?_)
     exact ⟨(hB.setCell k2 _).setCell k2 _, c0, c1, c2, c3, c4, c5, c6, c7, c8, c9, c10, c11, (fun _ => rfl), (fun h => by obtain ⟨g2, x13_0, x13_1, m1, m2, m3, m4⟩ := c13 h; have hne := ptr_apart2 (y13_15 h hd15) m1 e15; exact ⟨g2, x13_0, x13_1, m1, m2, (m3.far hne).far hne, m4⟩), d16, (fun h => by obtain ⟨g2, x14_0, x14_1, m1, m2, m3, m4⟩ := c14 h; have hne := ptr_apart2 (y14_15 h hd15) m1 e15; exact ⟨g2, x14_0, x14_1, m1, m2, (m3.far hne).far hne, m4⟩), d17, (fun _ => ⟨g, _, _, rfl, k2, hlok, fun _ => ⟨rfl, rfl⟩⟩), (fun _ => hd15), (fun h1 h2 => by first | exact y13_14 h1 h2 | (rw [← e15]; exact y13_14 h1 h2)), (fun h1 h2 => by first | exact y13_15 h1 h2 | (rw [← e15]; exact y13_15 h1 h2)), (fun h1 h2 => by first | exact y14_15 h1 h2 | (rw [← e15]; exact y14_15 h1 h2))⟩
   case finr1 =>
    rintro L u W hL ⟨hB, c0, c1, c2, c3, c4, c5, c6, c7, c8, c9, c10, c11, c12, c13, d16, c14, d17, c15, d18, y13_14, y13_15, y14_15⟩
    have e0 := c0 (hL 0 (by decide));have e1 := c1 (hL 1 (by decide));have e2 := c2 (hL 2 (by decide));have e3 := c3 (hL 3 (by decide));have e4 := c4 (hL 4 (by decide));have e5 := c5 (hL 5 (by decide));have e6 := c6 (hL 6 (by decide));have e7 := c7 (hL 7 (by decide));have e8 := c8 (hL 8 (by decide));have e9 := c9 (hL 9 (by decide));have e10 := c10 (hL 10 (by decide));have e11 := c11 (hL 11 (by decide));have e12 := c12 (hL 12 (by decide));obtain ⟨g13, x13_0, x13_1, e13, hg13, hlok13, hst13⟩ := c13 (hL 13 (by decide));obtain ⟨rfl, rfl⟩ := hst13 (hL 16 (by decide));clear hst13;obtain ⟨g14, x14_0, x14_1, e14, hg14, hlok14, hst14⟩ := c14 (hL 14 (by decide));obtain ⟨rfl, rfl⟩ := hst14 (hL 17 (by decide));clear hst14;obtain ⟨g15, x15_0, x15_1, e15, hg15, hlok15, hst15⟩ := c15 (hL 15 (by decide));obtain ⟨rfl, rfl⟩ := hst15 (hL 18 (by decide));clear hst15;clear hL c0 c1 c2 c3 c4 c5 c6 c7 c8 c9 c10 c11 c12 c13 d16 c14 d17 c15 d18 y13_14 y13_15 y14_15
    try simp only [e0, e1, e2, e3, e4, e5, e6, e7, e8, e9, e10, e11, e12, e13, e14, e15]
    clear e0 e1 e2 e3 e4 e5 e6 e7 e8 e9 e10 e11 e12 e13 e14 e15;replace HB := Lib.hid hB;have k4 := Lib.hid hlok13;have k5 := Lib.hid hlok14;have k6 := Lib.hid hlok15;clear hlok13 hlok14 hlok15 hB;have x0 := k4.out.cell (i := 0) rfl;have x1 := k4.out.cell (i := 1) rfl;have y0 := k5.out.cell (i := 0) rfl;have y1 := k5.out.cell (i := 1) rfl;have z0 := k6.out.cell (i := 0) rfl;have z1 := k6.out.cell (i := 1) rfl
    go_wp2_with fail
    clear x0 x1 y0 y1 z0 z1;((with_reducible refine (P0.out _).mono ?_); rintro e w1 ⟨rfl, hb1⟩);replace HB := Lib.hid (HB.out.trans (hb1.mono HB.out.size));replace k4 := Lib.hid (k4.out.keep hb1);replace k5 := Lib.hid (k5.out.keep hb1);clear hb1
    go_upto_region 6 with fail
    have hb1 := below_new1 w1 (.cells #[.int .i64 (s0)] 3);replace HB := Lib.hid (HB.out.trans (hb1.mono HB.out.size));replace k4 := Lib.hid (k4.out.keep hb1);replace k5 := Lib.hid (k5.out.keep hb1);have k1 := Lib.hid (Lok.new w1 3 #[.int .i64 (s0)]);clear hb1;generalize w1.alloc (.cells #[.int .i64 (s0)] 3) = V1 at *;generalize w1.heap.size = g1 at *;clear k6;have HX : Hid (EdgeAt p1 p2 q1 q2 r1 r2 0 (.func (.func 137) #[] #[.pointer (some ⟨g13, 0, none⟩), .pointer (some ⟨g14, 0, none⟩), .pointer (some ⟨g1, 0, none⟩)]) V1) := Lib.hid ⟨g13, g14, g1, rfl, k4.out, k5.out, by have := k1.out; rw [← E0.out] at this; exact this⟩;obtain ⟨fn, tmps, assign, body, hy, hR⟩ := hY 0 _ V1 (by omega) (hJ _ _ _ HJ.out HB.out) HX.out;clear HX k4 k5 k1
    refine wpIn_wide (n := n + 1).1 ?_
    gi_wp2
    clear hy
    refine hR.mono ?_
    rintro e W3 (⟨rfl, hJ3⟩ | ⟨rfl, hX3⟩)
    ·replace hJ3 := Lib.hid hJ3
     gi_wp2
     go_wp2
     go_roundw
     case rel => exact ⟨1, by go_num, by omega, hJ3.out⟩
     case measure => simp [intOf]
    ·replace hX3 := Lib.hid hX3
     gi_wp2
     go_wp2
     refine bodyPost_ret (results_none rfl _ _ _) rfl ?_
     exact ⟨⟨_, rfl⟩, .inr hX3.out⟩
  ·have KB := Lib.hid (hK 1 wr hJ0)
   have HJ := Lib.hid hJ0;clear hJ0
   go_upto_region 3 with fail
   refine wp_region_rel (by kernel_rfl) [13, 14, 15, 16, 17, 18, 19, 20, 21, 22, 23, 24, 25, 4, 5, 6] ?Fr2 ?hFr2
    (fun L u W => Below wr.heap.size wr W ∧ (L 0 = true → u 13 = .int .i64 1) ∧ (L 1 = true → u 14 = .pointer (some ⟨B, 2, none⟩)) ∧ (L 2 = true → u 15 = .agg #[.int .i64 q1, .int .i64 q2]) ∧ (L 3 = true → u 16 = .int .i64 1) ∧ (L 4 = true → u 17 = .int .i64 2) ∧ (L 5 = true → u 18 = .int .i64 2) ∧ (L 6 = true → u 19 = .pointer (some ⟨B, 4, none⟩)) ∧ (L 7 = true → u 20 = .agg #[.int .i64 r1, .int .i64 r2]) ∧ (L 8 = true → u 21 = .int .i64 1) ∧ (L 9 = true → u 22 = .int .i64 3) ∧ (L 10 = true → u 23 = .int .i64 0) ∧ (L 11 = true → u 24 = .pointer (some ⟨B, 0, none⟩)) ∧ (L 12 = true → u 25 = .agg #[.int .i64 p1, .int .i64 p2]) ∧ (L 13 = true → ∃ (g : Nat) (x13_0 x13_1 : Value), u 4 = .pointer (some ⟨g, 0, none⟩) ∧ wr.heap.size ≤ g ∧ Lok W g 36 #[x13_0, x13_1] ∧ (L 16 = true → x13_0 = .int .i64 q1 ∧ x13_1 = .int .i64 q2)) ∧ (L 16 = true → L 13 = true) ∧ (L 14 = true → ∃ (g : Nat) (x14_0 x14_1 : Value), u 5 = .pointer (some ⟨g, 0, none⟩) ∧ wr.heap.size ≤ g ∧ Lok W g 36 #[x14_0, x14_1] ∧ (L 17 = true → x14_0 = .int .i64 r1 ∧ x14_1 = .int .i64 r2)) ∧ (L 17 = true → L 14 = true) ∧ (L 15 = true → ∃ (g : Nat) (x15_0 x15_1 : Value), u 6 = .pointer (some ⟨g, 0, none⟩) ∧ wr.heap.size ≤ g ∧ Lok W g 36 #[x15_0, x15_1] ∧ (L 18 = true → x15_0 = .int .i64 p1 ∧ x15_1 = .int .i64 p2)) ∧ (L 18 = true → L 15 = true) ∧ (L 13 = true → L 14 = true → u 4 ≠ u 5) ∧ (L 13 = true → L 15 = true → u 4 ≠ u 6) ∧ (L 14 = true → L 15 = true → u 5 ≠ u 6)) (by kernel_rfl) (by kernel_rfl) 19 rfl ?h0r2 ?stepr2 ?finr2
   case hFr2 => intro u; simp only [putAll, Act.put, List.setIfInBounds_toArray, List.set]; exact rfl
   case h0r2 => intro L u hL; exact ⟨(Below.refl _ _).drew, (fun h => by simp [hL] at h), (fun h => by simp [hL] at h), (fun h => by simp [hL] at h), (fun h => by simp [hL] at h), (fun h => by simp [hL] at h), (fun h => by simp [hL] at h), (fun h => by simp [hL] at h), (fun h => by simp [hL] at h), (fun h => by simp [hL] at h), (fun h => by simp [hL] at h), (fun h => by simp [hL] at h), (fun h => by simp [hL] at h), (fun h => by simp [hL] at h), (fun h => by simp [hL] at h), (fun h => by simp [hL] at h), (fun h => by simp [hL] at h), (fun h => by simp [hL] at h), (fun h => by simp [hL] at h), (fun h => by simp [hL] at h), (fun h => by simp [hL] at h), (fun h => by simp [hL] at h), (fun h => by simp [hL] at h)⟩
   case stepr2 =>
    refine ops_all (ops_cons ?s0r2 (ops_cons ?s1r2 (ops_cons ?s2r2 (ops_cons ?s3r2 (ops_cons ?s4r2 (ops_cons ?s5r2 (ops_cons ?s6r2 (ops_cons ?s7r2 (ops_cons ?s8r2 (ops_cons ?s9r2 (ops_cons ?s10r2 (ops_cons ?s11r2 (ops_cons ?s12r2 (ops_cons ?s13r2 (ops_cons ?s14r2 (ops_cons ?s15r2 (ops_cons ?s16r2 (ops_cons ?s17r2 (ops_cons ?s18r2 (ops_nil))))))))))))))))))))
    case s0r2 =>
     rintro L u W ⟨hB, c0, c1, c2, c3, c4, c5, c6, c7, c8, c9, c10, c11, c12, c13, d16, c14, d17, c15, d18, y13_14, y13_15, y14_15⟩ hf hd K hK
     dsimp only at hK
     clear hd
     go_simp
     refine hK _ _ ?_ (fun h => by cases h)
     intro s hs
     cases hs
     exact ⟨hB, (fun _ => rfl), c1, c2, c3, c4, c5, c6, c7, c8, c9, c10, c11, c12, c13, d16, c14, d17, c15, d18, y13_14, y13_15, y14_15⟩
    case s1r2 =>
     rintro L u W ⟨hB, c0, c1, c2, c3, c4, c5, c6, c7, c8, c9, c10, c11, c12, c13, d16, c14, d17, c15, d18, y13_14, y13_15, y14_15⟩ hf hd K hK
     dsimp only at hK
     have hd0 : L 0 = true := (by first | exact hd ⟨0, .data⟩ (by simp) rfl | exact hd ⟨0, .guard⟩ (by simp) rfl | exact hd ⟨0, .phase⟩ (by simp) rfl | exact hd ⟨0, .chain⟩ (by simp) rfl);have e0 := c0 hd0;rw [e0] at hK;clear hd0;clear hd
     go_simp
     refine hK _ _ ?_ (fun h => by cases h)
     intro s hs
     cases hs
     exact ⟨hB, c0, (fun _ => rfl), c2, c3, c4, c5, c6, c7, c8, c9, c10, c11, c12, c13, d16, c14, d17, c15, d18, y13_14, y13_15, y14_15⟩
    case s2r2 =>
     rintro L u W ⟨hB, c0, c1, c2, c3, c4, c5, c6, c7, c8, c9, c10, c11, c12, c13, d16, c14, d17, c15, d18, y13_14, y13_15, y14_15⟩ hf hd K hK
     dsimp only at hK
     have hd1 : L 1 = true := (by first | exact hd ⟨1, .data⟩ (by simp) rfl | exact hd ⟨1, .guard⟩ (by simp) rfl | exact hd ⟨1, .phase⟩ (by simp) rfl | exact hd ⟨1, .chain⟩ (by simp) rfl);have e1 := c1 hd1;rw [e1] at hK;have t0 := (KB.out.keep hB).cell (i := 2) (v := .int .i64 q1) rfl;have t1 := (KB.out.keep hB).cell (i := 3) (v := .int .i64 q2) rfl;clear hd1;clear hd
     go_simp
     refine hK _ _ ?_ (fun h => by cases h)
     intro s hs
     cases hs
     exact ⟨hB, c0, c1, (fun _ => rfl), c3, c4, c5, c6, c7, c8, c9, c10, c11, c12, c13, d16, c14, d17, c15, d18, y13_14, y13_15, y14_15⟩
    case s3r2 =>
     rintro L u W ⟨hB, c0, c1, c2, c3, c4, c5, c6, c7, c8, c9, c10, c11, c12, c13, d16, c14, d17, c15, d18, y13_14, y13_15, y14_15⟩ hf hd K hK
     dsimp only at hK
     clear hd
     go_simp
     refine hK _ _ ?_ (fun h => by cases h)
     intro s hs
     cases hs
     exact ⟨hB, c0, c1, c2, (fun _ => rfl), c4, c5, c6, c7, c8, c9, c10, c11, c12, c13, d16, c14, d17, c15, d18, y13_14, y13_15, y14_15⟩
    case s4r2 =>
     rintro L u W ⟨hB, c0, c1, c2, c3, c4, c5, c6, c7, c8, c9, c10, c11, c12, c13, d16, c14, d17, c15, d18, y13_14, y13_15, y14_15⟩ hf hd K hK
     dsimp only at hK
     have hd3 : L 3 = true := (by first | exact hd ⟨3, .data⟩ (by simp) rfl | exact hd ⟨3, .guard⟩ (by simp) rfl | exact hd ⟨3, .phase⟩ (by simp) rfl | exact hd ⟨3, .chain⟩ (by simp) rfl);have e3 := c3 hd3;rw [e3] at hK;clear hd3;clear hd
     go_simp
     refine hK _ _ ?_ (fun h => by cases h)
     intro s hs
     cases hs
     exact ⟨hB, c0, c1, c2, c3, (fun _ => rfl), c5, c6, c7, c8, c9, c10, c11, c12, c13, d16, c14, d17, c15, d18, y13_14, y13_15, y14_15⟩
    case s5r2 =>
     rintro L u W ⟨hB, c0, c1, c2, c3, c4, c5, c6, c7, c8, c9, c10, c11, c12, c13, d16, c14, d17, c15, d18, y13_14, y13_15, y14_15⟩ hf hd K hK
     dsimp only at hK
     have hd4 : L 4 = true := (by first | exact hd ⟨4, .data⟩ (by simp) rfl | exact hd ⟨4, .guard⟩ (by simp) rfl | exact hd ⟨4, .phase⟩ (by simp) rfl | exact hd ⟨4, .chain⟩ (by simp) rfl);have e4 := c4 hd4;rw [e4] at hK;clear hd4;clear hd
     go_simp
     refine hK _ _ ?_ (fun h => by cases h)
     intro s hs
     cases hs
     exact ⟨hB, c0, c1, c2, c3, c4, (fun _ => rfl), c6, c7, c8, c9, c10, c11, c12, c13, d16, c14, d17, c15, d18, y13_14, y13_15, y14_15⟩
    case s6r2 =>
     rintro L u W ⟨hB, c0, c1, c2, c3, c4, c5, c6, c7, c8, c9, c10, c11, c12, c13, d16, c14, d17, c15, d18, y13_14, y13_15, y14_15⟩ hf hd K hK
     dsimp only at hK
     have hd5 : L 5 = true := (by first | exact hd ⟨5, .data⟩ (by simp) rfl | exact hd ⟨5, .guard⟩ (by simp) rfl | exact hd ⟨5, .phase⟩ (by simp) rfl | exact hd ⟨5, .chain⟩ (by simp) rfl);have e5 := c5 hd5;rw [e5] at hK;clear hd5;clear hd
     go_simp
     refine hK _ _ ?_ (fun h => by cases h)
     intro s hs
     cases hs
     exact ⟨hB, c0, c1, c2, c3, c4, c5, (fun _ => rfl), c7, c8, c9, c10, c11, c12, c13, d16, c14, d17, c15, d18, y13_14, y13_15, y14_15⟩
    case s7r2 =>
     rintro L u W ⟨hB, c0, c1, c2, c3, c4, c5, c6, c7, c8, c9, c10, c11, c12, c13, d16, c14, d17, c15, d18, y13_14, y13_15, y14_15⟩ hf hd K hK
     dsimp only at hK
     have hd6 : L 6 = true := (by first | exact hd ⟨6, .data⟩ (by simp) rfl | exact hd ⟨6, .guard⟩ (by simp) rfl | exact hd ⟨6, .phase⟩ (by simp) rfl | exact hd ⟨6, .chain⟩ (by simp) rfl);have e6 := c6 hd6;rw [e6] at hK;have t0 := (KB.out.keep hB).cell (i := 4) (v := .int .i64 r1) rfl;have t1 := (KB.out.keep hB).cell (i := 5) (v := .int .i64 r2) rfl;clear hd6;clear hd
     go_simp
     refine hK _ _ ?_ (fun h => by cases h)
     intro s hs
     cases hs
     exact ⟨hB, c0, c1, c2, c3, c4, c5, c6, (fun _ => rfl), c8, c9, c10, c11, c12, c13, d16, c14, d17, c15, d18, y13_14, y13_15, y14_15⟩
    case s8r2 =>
     rintro L u W ⟨hB, c0, c1, c2, c3, c4, c5, c6, c7, c8, c9, c10, c11, c12, c13, d16, c14, d17, c15, d18, y13_14, y13_15, y14_15⟩ hf hd K hK
     dsimp only at hK
     clear hd
     go_simp
     refine hK _ _ ?_ (fun h => by cases h)
     intro s hs
     cases hs
     exact ⟨hB, c0, c1, c2, c3, c4, c5, c6, c7, (fun _ => rfl), c9, c10, c11, c12, c13, d16, c14, d17, c15, d18, y13_14, y13_15, y14_15⟩
    case s9r2 =>
     rintro L u W ⟨hB, c0, c1, c2, c3, c4, c5, c6, c7, c8, c9, c10, c11, c12, c13, d16, c14, d17, c15, d18, y13_14, y13_15, y14_15⟩ hf hd K hK
     dsimp only at hK
     have hd8 : L 8 = true := (by first | exact hd ⟨8, .data⟩ (by simp) rfl | exact hd ⟨8, .guard⟩ (by simp) rfl | exact hd ⟨8, .phase⟩ (by simp) rfl | exact hd ⟨8, .chain⟩ (by simp) rfl);have e8 := c8 hd8;rw [e8] at hK;clear hd8;clear hd
     go_simp
     refine hK _ _ ?_ (fun h => by cases h)
     intro s hs
     cases hs
     exact ⟨hB, c0, c1, c2, c3, c4, c5, c6, c7, c8, (fun _ => rfl), c10, c11, c12, c13, d16, c14, d17, c15, d18, y13_14, y13_15, y14_15⟩
    case s10r2 =>
     rintro L u W ⟨hB, c0, c1, c2, c3, c4, c5, c6, c7, c8, c9, c10, c11, c12, c13, d16, c14, d17, c15, d18, y13_14, y13_15, y14_15⟩ hf hd K hK
     dsimp only at hK
     have hd9 : L 9 = true := (by first | exact hd ⟨9, .data⟩ (by simp) rfl | exact hd ⟨9, .guard⟩ (by simp) rfl | exact hd ⟨9, .phase⟩ (by simp) rfl | exact hd ⟨9, .chain⟩ (by simp) rfl);have e9 := c9 hd9;rw [e9] at hK;clear hd9;clear hd
     go_simp
     refine hK _ _ ?_ (fun h => by cases h)
     intro s hs
     cases hs
     exact ⟨hB, c0, c1, c2, c3, c4, c5, c6, c7, c8, c9, (fun _ => rfl), c11, c12, c13, d16, c14, d17, c15, d18, y13_14, y13_15, y14_15⟩
    case s11r2 =>
     rintro L u W ⟨hB, c0, c1, c2, c3, c4, c5, c6, c7, c8, c9, c10, c11, c12, c13, d16, c14, d17, c15, d18, y13_14, y13_15, y14_15⟩ hf hd K hK
     dsimp only at hK
     have hd10 : L 10 = true := (by first | exact hd ⟨10, .data⟩ (by simp) rfl | exact hd ⟨10, .guard⟩ (by simp) rfl | exact hd ⟨10, .phase⟩ (by simp) rfl | exact hd ⟨10, .chain⟩ (by simp) rfl);have e10 := c10 hd10;rw [e10] at hK;clear hd10;clear hd
     go_simp
     refine hK _ _ ?_ (fun h => by cases h)
     intro s hs
     cases hs
     exact ⟨hB, c0, c1, c2, c3, c4, c5, c6, c7, c8, c9, c10, (fun _ => rfl), c12, c13, d16, c14, d17, c15, d18, y13_14, y13_15, y14_15⟩
    case s12r2 =>
     rintro L u W ⟨hB, c0, c1, c2, c3, c4, c5, c6, c7, c8, c9, c10, c11, c12, c13, d16, c14, d17, c15, d18, y13_14, y13_15, y14_15⟩ hf hd K hK
     dsimp only at hK
     have hd11 : L 11 = true := (by first | exact hd ⟨11, .data⟩ (by simp) rfl | exact hd ⟨11, .guard⟩ (by simp) rfl | exact hd ⟨11, .phase⟩ (by simp) rfl | exact hd ⟨11, .chain⟩ (by simp) rfl);have e11 := c11 hd11;rw [e11] at hK;have t0 := (KB.out.keep hB).cell (i := 0) (v := .int .i64 p1) rfl;have t1 := (KB.out.keep hB).cell (i := 1) (v := .int .i64 p2) rfl;clear hd11;clear hd
     go_simp
     refine hK _ _ ?_ (fun h => by cases h)
     intro s hs
     cases hs
     exact ⟨hB, c0, c1, c2, c3, c4, c5, c6, c7, c8, c9, c10, c11, (fun _ => rfl), c13, d16, c14, d17, c15, d18, y13_14, y13_15, y14_15⟩
    case s13r2 =>
     rintro L u W ⟨hB, c0, c1, c2, c3, c4, c5, c6, c7, c8, c9, c10, c11, c12, c13, d16, c14, d17, c15, d18, y13_14, y13_15, y14_15⟩ hf hd K hK
     dsimp only at hK
     go_simp
     have hb : Below W.heap.size W (W.alloc (.cells #[.int .i64 0, .int .i64 0] 36)) := (Below.refl _ W).alloc (Nat.le_refl _) _
     refine hK _ _ ?_ (fun h => by cases h)
     intro s hs
     cases hs
     exact ⟨hB.trans (hb.mono hB.size), c0, c1, c2, c3, c4, c5, c6, c7, c8, c9, c10, c11, c12, (fun _ => ⟨_, _, _, rfl, hB.size, Lok.new _ _ _, fun h => absurd (d16 h) (by rw [hf]; decide)⟩), (fun _ => rfl), (fun h => by obtain ⟨g, x14_0, x14_1, k1, k2, k3, k4⟩ := c14 h; exact ⟨g, x14_0, x14_1, k1, k2, k3.keep hb, k4⟩), d17, (fun h => by obtain ⟨g, x15_0, x15_1, k1, k2, k3, k4⟩ := c15 h; exact ⟨g, x15_0, x15_1, k1, k2, k3.keep hb, k4⟩), d18, (fun _ h => by obtain ⟨g, x14_0, x14_1, k1, k2, k3, k4⟩ := c14 h; exact ptr_new k1 k3), (fun _ h => by obtain ⟨g, x15_0, x15_1, k1, k2, k3, k4⟩ := c15 h; exact ptr_new k1 k3), y14_15⟩
    case s14r2 =>
     rintro L u W ⟨hB, c0, c1, c2, c3, c4, c5, c6, c7, c8, c9, c10, c11, c12, c13, d16, c14, d17, c15, d18, y13_14, y13_15, y14_15⟩ hf hd K hK
     dsimp only at hK
     go_simp
     have hb : Below W.heap.size W (W.alloc (.cells #[.int .i64 0, .int .i64 0] 36)) := (Below.refl _ W).alloc (Nat.le_refl _) _
     refine hK _ _ ?_ (fun h => by cases h)
     intro s hs
     cases hs
     exact ⟨hB.trans (hb.mono hB.size), c0, c1, c2, c3, c4, c5, c6, c7, c8, c9, c10, c11, c12, (fun h => by obtain ⟨g, x13_0, x13_1, k1, k2, k3, k4⟩ := c13 h; exact ⟨g, x13_0, x13_1, k1, k2, k3.keep hb, k4⟩), d16, (fun _ => ⟨_, _, _, rfl, hB.size, Lok.new _ _ _, fun h => absurd (d17 h) (by rw [hf]; decide)⟩), (fun _ => rfl), (fun h => by obtain ⟨g, x15_0, x15_1, k1, k2, k3, k4⟩ := c15 h; exact ⟨g, x15_0, x15_1, k1, k2, k3.keep hb, k4⟩), d18, (fun h _ => by obtain ⟨g, x13_0, x13_1, k1, k2, k3, k4⟩ := c13 h; exact ptr_new2 k1 k3), y13_15, (fun _ h => by obtain ⟨g, x15_0, x15_1, k1, k2, k3, k4⟩ := c15 h; exact ptr_new k1 k3)⟩
    case s15r2 =>
     rintro L u W ⟨hB, c0, c1, c2, c3, c4, c5, c6, c7, c8, c9, c10, c11, c12, c13, d16, c14, d17, c15, d18, y13_14, y13_15, y14_15⟩ hf hd K hK
     dsimp only at hK
     go_simp
     have hb : Below W.heap.size W (W.alloc (.cells #[.int .i64 0, .int .i64 0] 36)) := (Below.refl _ W).alloc (Nat.le_refl _) _
     refine hK _ _ ?_ (fun h => by cases h)
     intro s hs
     cases hs
     exact ⟨hB.trans (hb.mono hB.size), c0, c1, c2, c3, c4, c5, c6, c7, c8, c9, c10, c11, c12, (fun h => by obtain ⟨g, x13_0, x13_1, k1, k2, k3, k4⟩ := c13 h; exact ⟨g, x13_0, x13_1, k1, k2, k3.keep hb, k4⟩), d16, (fun h => by obtain ⟨g, x14_0, x14_1, k1, k2, k3, k4⟩ := c14 h; exact ⟨g, x14_0, x14_1, k1, k2, k3.keep hb, k4⟩), d17, (fun _ => ⟨_, _, _, rfl, hB.size, Lok.new _ _ _, fun h => absurd (d18 h) (by rw [hf]; decide)⟩), (fun _ => rfl), y13_14, (fun h _ => by obtain ⟨g, x13_0, x13_1, k1, k2, k3, k4⟩ := c13 h; exact ptr_new2 k1 k3), (fun h _ => by obtain ⟨g, x14_0, x14_1, k1, k2, k3, k4⟩ := c14 h; exact ptr_new2 k1 k3)⟩
    case s16r2 =>
     rintro L u W ⟨hB, c0, c1, c2, c3, c4, c5, c6, c7, c8, c9, c10, c11, c12, c13, d16, c14, d17, c15, d18, y13_14, y13_15, y14_15⟩ hf hd K hK
     dsimp only at hK
     have hd13 : L 13 = true := hd ⟨13, .data⟩ (by simp) rfl;have hd2 : L 2 = true := (by first | exact hd ⟨2, .data⟩ (by simp) rfl | exact hd ⟨2, .guard⟩ (by simp) rfl | exact hd ⟨2, .phase⟩ (by simp) rfl | exact hd ⟨2, .chain⟩ (by simp) rfl);obtain ⟨g, x13_0, x13_1, e13, k2, k3, k4⟩ := c13 hd13;rw [e13] at hK;have e2 := c2 hd2;rw [e2] at hK;have t0 := k3.cell (i := 0) rfl;have f0 := k3.frozen 0;have t1 := k3.cell (i := 1) rfl;have f1 := k3.frozen 1;have HH := Lib.hid (And.intro trivial trivial);clear hd;have hd13' := Lib.hid hd13;clear hd13;have hd2' := Lib.hid hd2;clear hd2
     go_simp
     have hd13 := hd13'.out;have hd2 := hd2'.out;have hlok := (k3.set (i := 0) (v := .int .i64 q1)).set (i := 1) (v := .int .i64 q2)
     refine hK undef _ (fun s h => by cases h) (fun _ => ?_)
     exact ⟨(hB.setCell k2 _).setCell k2 _, c0, c1, (fun _ => rfl), c3, c4, c5, c6, c7, c8, c9, c10, c11, c12, (fun _ => ⟨g, _, _, rfl, k2, hlok, fun _ => ⟨rfl, rfl⟩⟩), (fun _ => hd13), (fun h => by obtain ⟨g2, x14_0, x14_1, m1, m2, m3, m4⟩ := c14 h; have hne := ptr_apart (y13_14 hd13 h) e13 m1; exact ⟨g2, x14_0, x14_1, m1, m2, (m3.far hne).far hne, m4⟩), d17, (fun h => by obtain ⟨g2, x15_0, x15_1, m1, m2, m3, m4⟩ := c15 h; have hne := ptr_apart (y13_15 hd13 h) e13 m1; exact ⟨g2, x15_0, x15_1, m1, m2, (m3.far hne).far hne, m4⟩), d18, (fun h1 h2 => by first | exact y13_14 h1 h2 | (rw [← e13]; exact y13_14 h1 h2)), (fun h1 h2 => by first | exact y13_15 h1 h2 | (rw [← e13]; exact y13_15 h1 h2)), (fun h1 h2 => by first | exact y14_15 h1 h2 | (rw [← e13]; exact y14_15 h1 h2))⟩
    case s17r2 =>
     rintro L u W ⟨hB, c0, c1, c2, c3, c4, c5, c6, c7, c8, c9, c10, c11, c12, c13, d16, c14, d17, c15, d18, y13_14, y13_15, y14_15⟩ hf hd K hK
     dsimp only at hK
     have hd14 : L 14 = true := hd ⟨14, .data⟩ (by simp) rfl;have hd7 : L 7 = true := (by first | exact hd ⟨7, .data⟩ (by simp) rfl | exact hd ⟨7, .guard⟩ (by simp) rfl | exact hd ⟨7, .phase⟩ (by simp) rfl | exact hd ⟨7, .chain⟩ (by simp) rfl);obtain ⟨g, x14_0, x14_1, e14, k2, k3, k4⟩ := c14 hd14;rw [e14] at hK;have e7 := c7 hd7;rw [e7] at hK;have t0 := k3.cell (i := 0) rfl;have f0 := k3.frozen 0;have t1 := k3.cell (i := 1) rfl;have f1 := k3.frozen 1;have HH := Lib.hid (And.intro trivial trivial);clear hd;have hd14' := Lib.hid hd14;clear hd14;have hd7' := Lib.hid hd7;clear hd7
     go_simp
     have hd14 := hd14'.out;have hd7 := hd7'.out;have hlok := (k3.set (i := 0) (v := .int .i64 r1)).set (i := 1) (v := .int .i64 r2)
     refine hK undef _ (fun s h => by cases h) (fun _ => ?_)
     exact ⟨(hB.setCell k2 _).setCell k2 _, c0, c1, c2, c3, c4, c5, c6, (fun _ => rfl), c8, c9, c10, c11, c12, (fun h => by obtain ⟨g2, x13_0, x13_1, m1, m2, m3, m4⟩ := c13 h; have hne := ptr_apart2 (y13_14 h hd14) m1 e14; exact ⟨g2, x13_0, x13_1, m1, m2, (m3.far hne).far hne, m4⟩), d16, (fun _ => ⟨g, _, _, rfl, k2, hlok, fun _ => ⟨rfl, rfl⟩⟩), (fun _ => hd14), (fun h => by obtain ⟨g2, x15_0, x15_1, m1, m2, m3, m4⟩ := c15 h; have hne := ptr_apart (y14_15 hd14 h) e14 m1; exact ⟨g2, x15_0, x15_1, m1, m2, (m3.far hne).far hne, m4⟩), d18, (fun h1 h2 => by first | exact y13_14 h1 h2 | (rw [← e14]; exact y13_14 h1 h2)), (fun h1 h2 => by first | exact y13_15 h1 h2 | (rw [← e14]; exact y13_15 h1 h2)), (fun h1 h2 => by first | exact y14_15 h1 h2 | (rw [← e14]; exact y14_15 h1 h2))⟩
    case s18r2 =>
     rintro L u W ⟨hB, c0, c1, c2, c3, c4, c5, c6, c7, c8, c9, c10, c11, c12, c13, d16, c14, d17, c15, d18, y13_14, y13_15, y14_15⟩ hf hd K hK
     dsimp only at hK
     have hd15 : L 15 = true := hd ⟨15, .data⟩ (by simp) rfl;have hd12 : L 12 = true := (by first | exact hd ⟨12, .data⟩ (by simp) rfl | exact hd ⟨12, .guard⟩ (by simp) rfl | exact hd ⟨12, .phase⟩ (by simp) rfl | exact hd ⟨12, .chain⟩ (by simp) rfl);obtain ⟨g, x15_0, x15_1, e15, k2, k3, k4⟩ := c15 hd15;rw [e15] at hK;have e12 := c12 hd12;rw [e12] at hK;have t0 := k3.cell (i := 0) rfl;have f0 := k3.frozen 0;have t1 := k3.cell (i := 1) rfl;have f1 := k3.frozen 1;have HH := Lib.hid (And.intro trivial trivial);clear hd;have hd15' := Lib.hid hd15;clear hd15;have hd12' := Lib.hid hd12;clear hd12
     go_simp
     have hd15 := hd15'.out;have hd12 := hd12'.out;have hlok := (k3.set (i := 0) (v := .int .i64 p1)).set (i := 1) (v := .int .i64 p2)
     refine hK undef _ (fun s h => by cases h) (fun _ => ?_)
     exact ⟨(hB.setCell k2 _).setCell k2 _, c0, c1, c2, c3, c4, c5, c6, c7, c8, c9, c10, c11, (fun _ => rfl), (fun h => by obtain ⟨g2, x13_0, x13_1, m1, m2, m3, m4⟩ := c13 h; have hne := ptr_apart2 (y13_15 h hd15) m1 e15; exact ⟨g2, x13_0, x13_1, m1, m2, (m3.far hne).far hne, m4⟩), d16, (fun h => by obtain ⟨g2, x14_0, x14_1, m1, m2, m3, m4⟩ := c14 h; have hne := ptr_apart2 (y14_15 h hd15) m1 e15; exact ⟨g2, x14_0, x14_1, m1, m2, (m3.far hne).far hne, m4⟩), d17, (fun _ => ⟨g, _, _, rfl, k2, hlok, fun _ => ⟨rfl, rfl⟩⟩), (fun _ => hd15), (fun h1 h2 => by first | exact y13_14 h1 h2 | (rw [← e15]; exact y13_14 h1 h2)), (fun h1 h2 => by first | exact y13_15 h1 h2 | (rw [← e15]; exact y13_15 h1 h2)), (fun h1 h2 => by first | exact y14_15 h1 h2 | (rw [← e15]; exact y14_15 h1 h2))⟩
   case finr2 =>
    rintro L u W hL ⟨hB, c0, c1, c2, c3, c4, c5, c6, c7, c8, c9, c10, c11, c12, c13, d16, c14, d17, c15, d18, y13_14, y13_15, y14_15⟩
    have e0 := c0 (hL 0 (by decide));have e1 := c1 (hL 1 (by decide));have e2 := c2 (hL 2 (by decide));have e3 := c3 (hL 3 (by decide));have e4 := c4 (hL 4 (by decide));have e5 := c5 (hL 5 (by decide));have e6 := c6 (hL 6 (by decide));have e7 := c7 (hL 7 (by decide));have e8 := c8 (hL 8 (by decide));have e9 := c9 (hL 9 (by decide));have e10 := c10 (hL 10 (by decide));have e11 := c11 (hL 11 (by decide));have e12 := c12 (hL 12 (by decide));obtain ⟨g13, x13_0, x13_1, e13, hg13, hlok13, hst13⟩ := c13 (hL 13 (by decide));obtain ⟨rfl, rfl⟩ := hst13 (hL 16 (by decide));clear hst13;obtain ⟨g14, x14_0, x14_1, e14, hg14, hlok14, hst14⟩ := c14 (hL 14 (by decide));obtain ⟨rfl, rfl⟩ := hst14 (hL 17 (by decide));clear hst14;obtain ⟨g15, x15_0, x15_1, e15, hg15, hlok15, hst15⟩ := c15 (hL 15 (by decide));obtain ⟨rfl, rfl⟩ := hst15 (hL 18 (by decide));clear hst15;clear hL c0 c1 c2 c3 c4 c5 c6 c7 c8 c9 c10 c11 c12 c13 d16 c14 d17 c15 d18 y13_14 y13_15 y14_15
    try simp only [e0, e1, e2, e3, e4, e5, e6, e7, e8, e9, e10, e11, e12, e13, e14, e15]
    clear e0 e1 e2 e3 e4 e5 e6 e7 e8 e9 e10 e11 e12 e13 e14 e15;replace HB := Lib.hid hB;have k4 := Lib.hid hlok13;have k5 := Lib.hid hlok14;have k6 := Lib.hid hlok15;clear hlok13 hlok14 hlok15 hB;have x0 := k4.out.cell (i := 0) rfl;have x1 := k4.out.cell (i := 1) rfl;have y0 := k5.out.cell (i := 0) rfl;have y1 := k5.out.cell (i := 1) rfl;have z0 := k6.out.cell (i := 0) rfl;have z1 := k6.out.cell (i := 1) rfl
    go_wp2_with fail
    clear x0 x1 y0 y1 z0 z1;((with_reducible refine (P1.out _).mono ?_); rintro e w1 ⟨rfl, hb1⟩);replace HB := Lib.hid (HB.out.trans (hb1.mono HB.out.size));replace k4 := Lib.hid (k4.out.keep hb1);replace k5 := Lib.hid (k5.out.keep hb1);clear hb1
    go_upto_region 6 with fail
    have hb1 := below_new1 w1 (.cells #[.int .i64 (s1)] 3);replace HB := Lib.hid (HB.out.trans (hb1.mono HB.out.size));replace k4 := Lib.hid (k4.out.keep hb1);replace k5 := Lib.hid (k5.out.keep hb1);have k1 := Lib.hid (Lok.new w1 3 #[.int .i64 (s1)]);clear hb1;generalize w1.alloc (.cells #[.int .i64 (s1)] 3) = V1 at *;generalize w1.heap.size = g1 at *;clear k6;have HX : Hid (EdgeAt p1 p2 q1 q2 r1 r2 1 (.func (.func 137) #[] #[.pointer (some ⟨g13, 0, none⟩), .pointer (some ⟨g14, 0, none⟩), .pointer (some ⟨g1, 0, none⟩)]) V1) := Lib.hid ⟨g13, g14, g1, rfl, k4.out, k5.out, by have := k1.out; rw [← E1.out] at this; exact this⟩;obtain ⟨fn, tmps, assign, body, hy, hR⟩ := hY 1 _ V1 (by omega) (hJ _ _ _ HJ.out HB.out) HX.out;clear HX k4 k5 k1
    refine wpIn_wide (n := n + 1).1 ?_
    gi_wp2
    clear hy
    refine hR.mono ?_
    rintro e W3 (⟨rfl, hJ3⟩ | ⟨rfl, hX3⟩)
    ·replace hJ3 := Lib.hid hJ3
     gi_wp2
     go_wp2
     go_roundw
     case rel => exact ⟨2, by go_num, by omega, hJ3.out⟩
     case measure => simp [intOf]
    ·replace hX3 := Lib.hid hX3
     gi_wp2
     go_wp2
     refine bodyPost_ret (results_none rfl _ _ _) rfl ?_
     exact ⟨⟨_, rfl⟩, .inr hX3.out⟩
  ·have KB := Lib.hid (hK 2 wr hJ0)
   have HJ := Lib.hid hJ0;clear hJ0
   go_upto_region 3 with fail
   refine wp_region_rel (by kernel_rfl) [13, 14, 15, 16, 17, 18, 19, 20, 21, 22, 23, 24, 25, 4, 5, 6] ?Fr3 ?hFr3
    (fun L u W => Below wr.heap.size wr W ∧ (L 0 = true → u 13 = .int .i64 2) ∧ (L 1 = true → u 14 = .pointer (some ⟨B, 4, none⟩)) ∧ (L 2 = true → u 15 = .agg #[.int .i64 r1, .int .i64 r2]) ∧ (L 3 = true → u 16 = .int .i64 2) ∧ (L 4 = true → u 17 = .int .i64 3) ∧ (L 5 = true → u 18 = .int .i64 0) ∧ (L 6 = true → u 19 = .pointer (some ⟨B, 0, none⟩)) ∧ (L 7 = true → u 20 = .agg #[.int .i64 p1, .int .i64 p2]) ∧ (L 8 = true → u 21 = .int .i64 2) ∧ (L 9 = true → u 22 = .int .i64 4) ∧ (L 10 = true → u 23 = .int .i64 1) ∧ (L 11 = true → u 24 = .pointer (some ⟨B, 2, none⟩)) ∧ (L 12 = true → u 25 = .agg #[.int .i64 q1, .int .i64 q2]) ∧ (L 13 = true → ∃ (g : Nat) (x13_0 x13_1 : Value), u 4 = .pointer (some ⟨g, 0, none⟩) ∧ wr.heap.size ≤ g ∧ Lok W g 36 #[x13_0, x13_1] ∧ (L 16 = true → x13_0 = .int .i64 r1 ∧ x13_1 = .int .i64 r2)) ∧ (L 16 = true → L 13 = true) ∧ (L 14 = true → ∃ (g : Nat) (x14_0 x14_1 : Value), u 5 = .pointer (some ⟨g, 0, none⟩) ∧ wr.heap.size ≤ g ∧ Lok W g 36 #[x14_0, x14_1] ∧ (L 17 = true → x14_0 = .int .i64 p1 ∧ x14_1 = .int .i64 p2)) ∧ (L 17 = true → L 14 = true) ∧ (L 15 = true → ∃ (g : Nat) (x15_0 x15_1 : Value), u 6 = .pointer (some ⟨g, 0, none⟩) ∧ wr.heap.size ≤ g ∧ Lok W g 36 #[x15_0, x15_1] ∧ (L 18 = true → x15_0 = .int .i64 q1 ∧ x15_1 = .int .i64 q2)) ∧ (L 18 = true → L 15 = true) ∧ (L 13 = true → L 14 = true → u 4 ≠ u 5) ∧ (L 13 = true → L 15 = true → u 4 ≠ u 6) ∧ (L 14 = true → L 15 = true → u 5 ≠ u 6)) (by kernel_rfl) (by kernel_rfl) 19 rfl ?h0r3 ?stepr3 ?finr3
   case hFr3 => intro u; simp only [putAll, Act.put, List.setIfInBounds_toArray, List.set]; exact rfl
   case h0r3 => intro L u hL; exact ⟨(Below.refl _ _).drew, (fun h => by simp [hL] at h), (fun h => by simp [hL] at h), (fun h => by simp [hL] at h), (fun h => by simp [hL] at h), (fun h => by simp [hL] at h), (fun h => by simp [hL] at h), (fun h => by simp [hL] at h), (fun h => by simp [hL] at h), (fun h => by simp [hL] at h), (fun h => by simp [hL] at h), (fun h => by simp [hL] at h), (fun h => by simp [hL] at h), (fun h => by simp [hL] at h), (fun h => by simp [hL] at h), (fun h => by simp [hL] at h), (fun h => by simp [hL] at h), (fun h => by simp [hL] at h), (fun h => by simp [hL] at h), (fun h => by simp [hL] at h), (fun h => by simp [hL] at h), (fun h => by simp [hL] at h), (fun h => by simp [hL] at h)⟩
   case stepr3 =>
    refine ops_all (ops_cons ?s0r3 (ops_cons ?s1r3 (ops_cons ?s2r3 (ops_cons ?s3r3 (ops_cons ?s4r3 (ops_cons ?s5r3 (ops_cons ?s6r3 (ops_cons ?s7r3 (ops_cons ?s8r3 (ops_cons ?s9r3 (ops_cons ?s10r3 (ops_cons ?s11r3 (ops_cons ?s12r3 (ops_cons ?s13r3 (ops_cons ?s14r3 (ops_cons ?s15r3 (ops_cons ?s16r3 (ops_cons ?s17r3 (ops_cons ?s18r3 (ops_nil))))))))))))))))))))
    case s0r3 =>
     rintro L u W ⟨hB, c0, c1, c2, c3, c4, c5, c6, c7, c8, c9, c10, c11, c12, c13, d16, c14, d17, c15, d18, y13_14, y13_15, y14_15⟩ hf hd K hK
     dsimp only at hK
     clear hd
     go_simp
     refine hK _ _ ?_ (fun h => by cases h)
     intro s hs
     cases hs
     exact ⟨hB, (fun _ => rfl), c1, c2, c3, c4, c5, c6, c7, c8, c9, c10, c11, c12, c13, d16, c14, d17, c15, d18, y13_14, y13_15, y14_15⟩
    case s1r3 =>
     rintro L u W ⟨hB, c0, c1, c2, c3, c4, c5, c6, c7, c8, c9, c10, c11, c12, c13, d16, c14, d17, c15, d18, y13_14, y13_15, y14_15⟩ hf hd K hK
     dsimp only at hK
     have hd0 : L 0 = true := (by first | exact hd ⟨0, .data⟩ (by simp) rfl | exact hd ⟨0, .guard⟩ (by simp) rfl | exact hd ⟨0, .phase⟩ (by simp) rfl | exact hd ⟨0, .chain⟩ (by simp) rfl);have e0 := c0 hd0;rw [e0] at hK;clear hd0;clear hd
     go_simp
     refine hK _ _ ?_ (fun h => by cases h)
     intro s hs
     cases hs
     exact ⟨hB, c0, (fun _ => rfl), c2, c3, c4, c5, c6, c7, c8, c9, c10, c11, c12, c13, d16, c14, d17, c15, d18, y13_14, y13_15, y14_15⟩
    case s2r3 =>
     rintro L u W ⟨hB, c0, c1, c2, c3, c4, c5, c6, c7, c8, c9, c10, c11, c12, c13, d16, c14, d17, c15, d18, y13_14, y13_15, y14_15⟩ hf hd K hK
     dsimp only at hK
     have hd1 : L 1 = true := (by first | exact hd ⟨1, .data⟩ (by simp) rfl | exact hd ⟨1, .guard⟩ (by simp) rfl | exact hd ⟨1, .phase⟩ (by simp) rfl | exact hd ⟨1, .chain⟩ (by simp) rfl);have e1 := c1 hd1;rw [e1] at hK;have t0 := (KB.out.keep hB).cell (i := 4) (v := .int .i64 r1) rfl;have t1 := (KB.out.keep hB).cell (i := 5) (v := .int .i64 r2) rfl;clear hd1;clear hd
     go_simp
     refine hK _ _ ?_ (fun h => by cases h)
     intro s hs
     cases hs
     exact ⟨hB, c0, c1, (fun _ => rfl), c3, c4, c5, c6, c7, c8, c9, c10, c11, c12, c13, d16, c14, d17, c15, d18, y13_14, y13_15, y14_15⟩
    case s3r3 =>
     rintro L u W ⟨hB, c0, c1, c2, c3, c4, c5, c6, c7, c8, c9, c10, c11, c12, c13, d16, c14, d17, c15, d18, y13_14, y13_15, y14_15⟩ hf hd K hK
     dsimp only at hK
     clear hd
     go_simp
     refine hK _ _ ?_ (fun h => by cases h)
     intro s hs
     cases hs
     exact ⟨hB, c0, c1, c2, (fun _ => rfl), c4, c5, c6, c7, c8, c9, c10, c11, c12, c13, d16, c14, d17, c15, d18, y13_14, y13_15, y14_15⟩
    case s4r3 =>
     rintro L u W ⟨hB, c0, c1, c2, c3, c4, c5, c6, c7, c8, c9, c10, c11, c12, c13, d16, c14, d17, c15, d18, y13_14, y13_15, y14_15⟩ hf hd K hK
     dsimp only at hK
     have hd3 : L 3 = true := (by first | exact hd ⟨3, .data⟩ (by simp) rfl | exact hd ⟨3, .guard⟩ (by simp) rfl | exact hd ⟨3, .phase⟩ (by simp) rfl | exact hd ⟨3, .chain⟩ (by simp) rfl);have e3 := c3 hd3;rw [e3] at hK;clear hd3;clear hd
     go_simp
     refine hK _ _ ?_ (fun h => by cases h)
     intro s hs
     cases hs
     exact ⟨hB, c0, c1, c2, c3, (fun _ => rfl), c5, c6, c7, c8, c9, c10, c11, c12, c13, d16, c14, d17, c15, d18, y13_14, y13_15, y14_15⟩
    case s5r3 =>
     rintro L u W ⟨hB, c0, c1, c2, c3, c4, c5, c6, c7, c8, c9, c10, c11, c12, c13, d16, c14, d17, c15, d18, y13_14, y13_15, y14_15⟩ hf hd K hK
     dsimp only at hK
     have hd4 : L 4 = true := (by first | exact hd ⟨4, .data⟩ (by simp) rfl | exact hd ⟨4, .guard⟩ (by simp) rfl | exact hd ⟨4, .phase⟩ (by simp) rfl | exact hd ⟨4, .chain⟩ (by simp) rfl);have e4 := c4 hd4;rw [e4] at hK;clear hd4;clear hd
     go_simp
     refine hK _ _ ?_ (fun h => by cases h)
     intro s hs
     cases hs
     exact ⟨hB, c0, c1, c2, c3, c4, (fun _ => rfl), c6, c7, c8, c9, c10, c11, c12, c13, d16, c14, d17, c15, d18, y13_14, y13_15, y14_15⟩
    case s6r3 =>
     rintro L u W ⟨hB, c0, c1, c2, c3, c4, c5, c6, c7, c8, c9, c10, c11, c12, c13, d16, c14, d17, c15, d18, y13_14, y13_15, y14_15⟩ hf hd K hK
     dsimp only at hK
     have hd5 : L 5 = true := (by first | exact hd ⟨5, .data⟩ (by simp) rfl | exact hd ⟨5, .guard⟩ (by simp) rfl | exact hd ⟨5, .phase⟩ (by simp) rfl | exact hd ⟨5, .chain⟩ (by simp) rfl);have e5 := c5 hd5;rw [e5] at hK;clear hd5;clear hd
     go_simp
     refine hK _ _ ?_ (fun h => by cases h)
     intro s hs
     cases hs
     exact ⟨hB, c0, c1, c2, c3, c4, c5, (fun _ => rfl), c7, c8, c9, c10, c11, c12, c13, d16, c14, d17, c15, d18, y13_14, y13_15, y14_15⟩
    case s7r3 =>
     rintro L u W ⟨hB, c0, c1, c2, c3, c4, c5, c6, c7, c8, c9, c10, c11, c12, c13, d16, c14, d17, c15, d18, y13_14, y13_15, y14_15⟩ hf hd K hK
     dsimp only at hK
     have hd6 : L 6 = true := (by first | exact hd ⟨6, .data⟩ (by simp) rfl | exact hd ⟨6, .guard⟩ (by simp) rfl | exact hd ⟨6, .phase⟩ (by simp) rfl | exact hd ⟨6, .chain⟩ (by simp) rfl);have e6 := c6 hd6;rw [e6] at hK;have t0 := (KB.out.keep hB).cell (i := 0) (v := .int .i64 p1) rfl;have t1 := (KB.out.keep hB).cell (i := 1) (v := .int .i64 p2) rfl;clear hd6;clear hd
     go_simp
     refine hK _ _ ?_ (fun h => by cases h)
     intro s hs
     cases hs
     exact ⟨hB, c0, c1, c2, c3, c4, c5, c6, (fun _ => rfl), c8, c9, c10, c11, c12, c13, d16, c14, d17, c15, d18, y13_14, y13_15, y14_15⟩
    case s8r3 =>
     rintro L u W ⟨hB, c0, c1, c2, c3, c4, c5, c6, c7, c8, c9, c10, c11, c12, c13, d16, c14, d17, c15, d18, y13_14, y13_15, y14_15⟩ hf hd K hK
     dsimp only at hK
     clear hd
     go_simp
     refine hK _ _ ?_ (fun h => by cases h)
     intro s hs
     cases hs
     exact ⟨hB, c0, c1, c2, c3, c4, c5, c6, c7, (fun _ => rfl), c9, c10, c11, c12, c13, d16, c14, d17, c15, d18, y13_14, y13_15, y14_15⟩
    case s9r3 =>
     rintro L u W ⟨hB, c0, c1, c2, c3, c4, c5, c6, c7, c8, c9, c10, c11, c12, c13, d16, c14, d17, c15, d18, y13_14, y13_15, y14_15⟩ hf hd K hK
     dsimp only at hK
     have hd8 : L 8 = true := (by first | exact hd ⟨8, .data⟩ (by simp) rfl | exact hd ⟨8, .guard⟩ (by simp) rfl | exact hd ⟨8, .phase⟩ (by simp) rfl | exact hd ⟨8, .chain⟩ (by simp) rfl);have e8 := c8 hd8;rw [e8] at hK;clear hd8;clear hd
     go_simp
     refine hK _ _ ?_ (fun h => by cases h)
     intro s hs
     cases hs
     exact ⟨hB, c0, c1, c2, c3, c4, c5, c6, c7, c8, (fun _ => rfl), c10, c11, c12, c13, d16, c14, d17, c15, d18, y13_14, y13_15, y14_15⟩
    case s10r3 =>
     rintro L u W ⟨hB, c0, c1, c2, c3, c4, c5, c6, c7, c8, c9, c10, c11, c12, c13, d16, c14, d17, c15, d18, y13_14, y13_15, y14_15⟩ hf hd K hK
     dsimp only at hK
     have hd9 : L 9 = true := (by first | exact hd ⟨9, .data⟩ (by simp) rfl | exact hd ⟨9, .guard⟩ (by simp) rfl | exact hd ⟨9, .phase⟩ (by simp) rfl | exact hd ⟨9, .chain⟩ (by simp) rfl);have e9 := c9 hd9;rw [e9] at hK;clear hd9;clear hd
     go_simp
     refine hK _ _ ?_ (fun h => by cases h)
     intro s hs
     cases hs
     exact ⟨hB, c0, c1, c2, c3, c4, c5, c6, c7, c8, c9, (fun _ => rfl), c11, c12, c13, d16, c14, d17, c15, d18, y13_14, y13_15, y14_15⟩
    case s11r3 =>
     rintro L u W ⟨hB, c0, c1, c2, c3, c4, c5, c6, c7, c8, c9, c10, c11, c12, c13, d16, c14, d17, c15, d18, y13_14, y13_15, y14_15⟩ hf hd K hK
     dsimp only at hK
     have hd10 : L 10 = true := (by first | exact hd ⟨10, .data⟩ (by simp) rfl | exact hd ⟨10, .guard⟩ (by simp) rfl | exact hd ⟨10, .phase⟩ (by simp) rfl | exact hd ⟨10, .chain⟩ (by simp) rfl);have e10 := c10 hd10;rw [e10] at hK;clear hd10;clear hd
     go_simp
     refine hK _ _ ?_ (fun h => by cases h)
     intro s hs
     cases hs
     exact ⟨hB, c0, c1, c2, c3, c4, c5, c6, c7, c8, c9, c10, (fun _ => rfl), c12, c13, d16, c14, d17, c15, d18, y13_14, y13_15, y14_15⟩
    case s12r3 =>
     rintro L u W ⟨hB, c0, c1, c2, c3, c4, c5, c6, c7, c8, c9, c10, c11, c12, c13, d16, c14, d17, c15, d18, y13_14, y13_15, y14_15⟩ hf hd K hK
     dsimp only at hK
     have hd11 : L 11 = true := (by first | exact hd ⟨11, .data⟩ (by simp) rfl | exact hd ⟨11, .guard⟩ (by simp) rfl | exact hd ⟨11, .phase⟩ (by simp) rfl | exact hd ⟨11, .chain⟩ (by simp) rfl);have e11 := c11 hd11;rw [e11] at hK;have t0 := (KB.out.keep hB).cell (i := 2) (v := .int .i64 q1) rfl;have t1 := (KB.out.keep hB).cell (i := 3) (v := .int .i64 q2) rfl;clear hd11;clear hd
     go_simp
     refine hK _ _ ?_ (fun h => by cases h)
     intro s hs
     cases hs
     exact ⟨hB, c0, c1, c2, c3, c4, c5, c6, c7, c8, c9, c10, c11, (fun _ => rfl), c13, d16, c14, d17, c15, d18, y13_14, y13_15, y14_15⟩
    case s13r3 =>
     rintro L u W ⟨hB, c0, c1, c2, c3, c4, c5, c6, c7, c8, c9, c10, c11, c12, c13, d16, c14, d17, c15, d18, y13_14, y13_15, y14_15⟩ hf hd K hK
     dsimp only at hK
     go_simp
     have hb : Below W.heap.size W (W.alloc (.cells #[.int .i64 0, .int .i64 0] 36)) := (Below.refl _ W).alloc (Nat.le_refl _) _
     refine hK _ _ ?_ (fun h => by cases h)
     intro s hs
     cases hs
     exact ⟨hB.trans (hb.mono hB.size), c0, c1, c2, c3, c4, c5, c6, c7, c8, c9, c10, c11, c12, (fun _ => ⟨_, _, _, rfl, hB.size, Lok.new _ _ _, fun h => absurd (d16 h) (by rw [hf]; decide)⟩), (fun _ => rfl), (fun h => by obtain ⟨g, x14_0, x14_1, k1, k2, k3, k4⟩ := c14 h; exact ⟨g, x14_0, x14_1, k1, k2, k3.keep hb, k4⟩), d17, (fun h => by obtain ⟨g, x15_0, x15_1, k1, k2, k3, k4⟩ := c15 h; exact ⟨g, x15_0, x15_1, k1, k2, k3.keep hb, k4⟩), d18, (fun _ h => by obtain ⟨g, x14_0, x14_1, k1, k2, k3, k4⟩ := c14 h; exact ptr_new k1 k3), (fun _ h => by obtain ⟨g, x15_0, x15_1, k1, k2, k3, k4⟩ := c15 h; exact ptr_new k1 k3), y14_15⟩
    case s14r3 =>
     rintro L u W ⟨hB, c0, c1, c2, c3, c4, c5, c6, c7, c8, c9, c10, c11, c12, c13, d16, c14, d17, c15, d18, y13_14, y13_15, y14_15⟩ hf hd K hK
     dsimp only at hK
     go_simp
     have hb : Below W.heap.size W (W.alloc (.cells #[.int .i64 0, .int .i64 0] 36)) := (Below.refl _ W).alloc (Nat.le_refl _) _
     refine hK _ _ ?_ (fun h => by cases h)
     intro s hs
     cases hs
     exact ⟨hB.trans (hb.mono hB.size), c0, c1, c2, c3, c4, c5, c6, c7, c8, c9, c10, c11, c12, (fun h => by obtain ⟨g, x13_0, x13_1, k1, k2, k3, k4⟩ := c13 h; exact ⟨g, x13_0, x13_1, k1, k2, k3.keep hb, k4⟩), d16, (fun _ => ⟨_, _, _, rfl, hB.size, Lok.new _ _ _, fun h => absurd (d17 h) (by rw [hf]; decide)⟩), (fun _ => rfl), (fun h => by obtain ⟨g, x15_0, x15_1, k1, k2, k3, k4⟩ := c15 h; exact ⟨g, x15_0, x15_1, k1, k2, k3.keep hb, k4⟩), d18, (fun h _ => by obtain ⟨g, x13_0, x13_1, k1, k2, k3, k4⟩ := c13 h; exact ptr_new2 k1 k3), y13_15, (fun _ h => by obtain ⟨g, x15_0, x15_1, k1, k2, k3, k4⟩ := c15 h; exact ptr_new k1 k3)⟩
    case s15r3 =>
     rintro L u W ⟨hB, c0, c1, c2, c3, c4, c5, c6, c7, c8, c9, c10, c11, c12, c13, d16, c14, d17, c15, d18, y13_14, y13_15, y14_15⟩ hf hd K hK
     dsimp only at hK
     go_simp
     have hb : Below W.heap.size W (W.alloc (.cells #[.int .i64 0, .int .i64 0] 36)) := (Below.refl _ W).alloc (Nat.le_refl _) _
     refine hK _ _ ?_ (fun h => by cases h)
     intro s hs
     cases hs
     exact ⟨hB.trans (hb.mono hB.size), c0, c1, c2, c3, c4, c5, c6, c7, c8, c9, c10, c11, c12, (fun h => by obtain ⟨g, x13_0, x13_1, k1, k2, k3, k4⟩ := c13 h; exact ⟨g, x13_0, x13_1, k1, k2, k3.keep hb, k4⟩), d16, (fun h => by obtain ⟨g, x14_0, x14_1, k1, k2, k3, k4⟩ := c14 h; exact ⟨g, x14_0, x14_1, k1, k2, k3.keep hb, k4⟩), d17, (fun _ => ⟨_, _, _, rfl, hB.size, Lok.new _ _ _, fun h => absurd (d18 h) (by rw [hf]; decide)⟩), (fun _ => rfl), y13_14, (fun h _ => by obtain ⟨g, x13_0, x13_1, k1, k2, k3, k4⟩ := c13 h; exact ptr_new2 k1 k3), (fun h _ => by obtain ⟨g, x14_0, x14_1, k1, k2, k3, k4⟩ := c14 h; exact ptr_new2 k1 k3)⟩
    case s16r3 =>
     rintro L u W ⟨hB, c0, c1, c2, c3, c4, c5, c6, c7, c8, c9, c10, c11, c12, c13, d16, c14, d17, c15, d18, y13_14, y13_15, y14_15⟩ hf hd K hK
     dsimp only at hK
     have hd13 : L 13 = true := hd ⟨13, .data⟩ (by simp) rfl;have hd2 : L 2 = true := (by first | exact hd ⟨2, .data⟩ (by simp) rfl | exact hd ⟨2, .guard⟩ (by simp) rfl | exact hd ⟨2, .phase⟩ (by simp) rfl | exact hd ⟨2, .chain⟩ (by simp) rfl);obtain ⟨g, x13_0, x13_1, e13, k2, k3, k4⟩ := c13 hd13;rw [e13] at hK;have e2 := c2 hd2;rw [e2] at hK;have t0 := k3.cell (i := 0) rfl;have f0 := k3.frozen 0;have t1 := k3.cell (i := 1) rfl;have f1 := k3.frozen 1;have HH := Lib.hid (And.intro trivial trivial);clear hd;have hd13' := Lib.hid hd13;clear hd13;have hd2' := Lib.hid hd2;clear hd2
     go_simp
     have hd13 := hd13'.out;have hd2 := hd2'.out;have hlok := (k3.set (i := 0) (v := .int .i64 r1)).set (i := 1) (v := .int .i64 r2)
     refine hK undef _ (fun s h => by cases h) (fun _ => ?_)
     exact ⟨(hB.setCell k2 _).setCell k2 _, c0, c1, (fun _ => rfl), c3, c4, c5, c6, c7, c8, c9, c10, c11, c12, (fun _ => ⟨g, _, _, rfl, k2, hlok, fun _ => ⟨rfl, rfl⟩⟩), (fun _ => hd13), (fun h => by obtain ⟨g2, x14_0, x14_1, m1, m2, m3, m4⟩ := c14 h; have hne := ptr_apart (y13_14 hd13 h) e13 m1; exact ⟨g2, x14_0, x14_1, m1, m2, (m3.far hne).far hne, m4⟩), d17, (fun h => by obtain ⟨g2, x15_0, x15_1, m1, m2, m3, m4⟩ := c15 h; have hne := ptr_apart (y13_15 hd13 h) e13 m1; exact ⟨g2, x15_0, x15_1, m1, m2, (m3.far hne).far hne, m4⟩), d18, (fun h1 h2 => by first | exact y13_14 h1 h2 | (rw [← e13]; exact y13_14 h1 h2)), (fun h1 h2 => by first | exact y13_15 h1 h2 | (rw [← e13]; exact y13_15 h1 h2)), (fun h1 h2 => by first | exact y14_15 h1 h2 | (rw [← e13]; exact y14_15 h1 h2))⟩
    case s17r3 =>
     rintro L u W ⟨hB, c0, c1, c2, c3, c4, c5, c6, c7, c8, c9, c10, c11, c12, c13, d16, c14, d17, c15, d18, y13_14, y13_15, y14_15⟩ hf hd K hK
     dsimp only at hK
     have hd14 : L 14 = true := hd ⟨14, .data⟩ (by simp) rfl;have hd7 : L 7 = true := (by first | exact hd ⟨7, .data⟩ (by simp) rfl | exact hd ⟨7, .guard⟩ (by simp) rfl | exact hd ⟨7, .phase⟩ (by simp) rfl | exact hd ⟨7, .chain⟩ (by simp) rfl);obtain ⟨g, x14_0, x14_1, e14, k2, k3, k4⟩ := c14 hd14;rw [e14] at hK;have e7 := c7 hd7;rw [e7] at hK;have t0 := k3.cell (i := 0) rfl;have f0 := k3.frozen 0;have t1 := k3.cell (i := 1) rfl;have f1 := k3.frozen 1;have HH := Lib.hid (And.intro trivial trivial);clear hd;have hd14' := Lib.hid hd14;clear hd14;have hd7' := Lib.hid hd7;clear hd7
     go_simp
     have hd14 := hd14'.out;have hd7 := hd7'.out;have hlok := (k3.set (i := 0) (v := .int .i64 p1)).set (i := 1) (v := .int .i64 p2)
     refine hK undef _ (fun s h => by cases h) (fun _ => ?_)
     exact ⟨(hB.setCell k2 _).setCell k2 _, c0, c1, c2, c3, c4, c5, c6, (fun _ => rfl), c8, c9, c10, c11, c12, (fun h => by obtain ⟨g2, x13_0, x13_1, m1, m2, m3, m4⟩ := c13 h; have hne := ptr_apart2 (y13_14 h hd14) m1 e14; exact ⟨g2, x13_0, x13_1, m1, m2, (m3.far hne).far hne, m4⟩), d16, (fun _ => ⟨g, _, _, rfl, k2, hlok, fun _ => ⟨rfl, rfl⟩⟩), (fun _ => hd14), (fun h => by obtain ⟨g2, x15_0, x15_1, m1, m2, m3, m4⟩ := c15 h; have hne := ptr_apart (y14_15 hd14 h) e14 m1; exact ⟨g2, x15_0, x15_1, m1, m2, (m3.far hne).far hne, m4⟩), d18, (fun h1 h2 => by first | exact y13_14 h1 h2 | (rw [← e14]; exact y13_14 h1 h2)), (fun h1 h2 => by first | exact y13_15 h1 h2 | (rw [← e14]; exact y13_15 h1 h2)), (fun h1 h2 => by first | exact y14_15 h1 h2 | (rw [← e14]; exact y14_15 h1 h2))⟩
    case s18r3 =>
     rintro L u W ⟨hB, c0, c1, c2, c3, c4, c5, c6, c7, c8, c9, c10, c11, c12, c13, d16, c14, d17, c15, d18, y13_14, y13_15, y14_15⟩ hf hd K hK
     dsimp only at hK
     have hd15 : L 15 = true := hd ⟨15, .data⟩ (by simp) rfl;have hd12 : L 12 = true := (by first | exact hd ⟨12, .data⟩ (by simp) rfl | exact hd ⟨12, .guard⟩ (by simp) rfl | exact hd ⟨12, .phase⟩ (by simp) rfl | exact hd ⟨12, .chain⟩ (by simp) rfl);obtain ⟨g, x15_0, x15_1, e15, k2, k3, k4⟩ := c15 hd15;rw [e15] at hK;have e12 := c12 hd12;rw [e12] at hK;have t0 := k3.cell (i := 0) rfl;have f0 := k3.frozen 0;have t1 := k3.cell (i := 1) rfl;have f1 := k3.frozen 1;have HH := Lib.hid (And.intro trivial trivial);clear hd;have hd15' := Lib.hid hd15;clear hd15;have hd12' := Lib.hid hd12;clear hd12
     go_simp
     have hd15 := hd15'.out;have hd12 := hd12'.out;have hlok := (k3.set (i := 0) (v := .int .i64 q1)).set (i := 1) (v := .int .i64 q2)
     refine hK undef _ (fun s h => by cases h) (fun _ => ?_)
     exact ⟨(hB.setCell k2 _).setCell k2 _, c0, c1, c2, c3, c4, c5, c6, c7, c8, c9, c10, c11, (fun _ => rfl), (fun h => by obtain ⟨g2, x13_0, x13_1, m1, m2, m3, m4⟩ := c13 h; have hne := ptr_apart2 (y13_15 h hd15) m1 e15; exact ⟨g2, x13_0, x13_1, m1, m2, (m3.far hne).far hne, m4⟩), d16, (fun h => by obtain ⟨g2, x14_0, x14_1, m1, m2, m3, m4⟩ := c14 h; have hne := ptr_apart2 (y14_15 h hd15) m1 e15; exact ⟨g2, x14_0, x14_1, m1, m2, (m3.far hne).far hne, m4⟩), d17, (fun _ => ⟨g, _, _, rfl, k2, hlok, fun _ => ⟨rfl, rfl⟩⟩), (fun _ => hd15), (fun h1 h2 => by first | exact y13_14 h1 h2 | (rw [← e15]; exact y13_14 h1 h2)), (fun h1 h2 => by first | exact y13_15 h1 h2 | (rw [← e15]; exact y13_15 h1 h2)), (fun h1 h2 => by first | exact y14_15 h1 h2 | (rw [← e15]; exact y14_15 h1 h2))⟩
   case finr3 =>
    rintro L u W hL ⟨hB, c0, c1, c2, c3, c4, c5, c6, c7, c8, c9, c10, c11, c12, c13, d16, c14, d17, c15, d18, y13_14, y13_15, y14_15⟩
    have e0 := c0 (hL 0 (by decide));have e1 := c1 (hL 1 (by decide));have e2 := c2 (hL 2 (by decide));have e3 := c3 (hL 3 (by decide));have e4 := c4 (hL 4 (by decide));have e5 := c5 (hL 5 (by decide));have e6 := c6 (hL 6 (by decide));have e7 := c7 (hL 7 (by decide));have e8 := c8 (hL 8 (by decide));have e9 := c9 (hL 9 (by decide));have e10 := c10 (hL 10 (by decide));have e11 := c11 (hL 11 (by decide));have e12 := c12 (hL 12 (by decide));obtain ⟨g13, x13_0, x13_1, e13, hg13, hlok13, hst13⟩ := c13 (hL 13 (by decide));obtain ⟨rfl, rfl⟩ := hst13 (hL 16 (by decide));clear hst13;obtain ⟨g14, x14_0, x14_1, e14, hg14, hlok14, hst14⟩ := c14 (hL 14 (by decide));obtain ⟨rfl, rfl⟩ := hst14 (hL 17 (by decide));clear hst14;obtain ⟨g15, x15_0, x15_1, e15, hg15, hlok15, hst15⟩ := c15 (hL 15 (by decide));obtain ⟨rfl, rfl⟩ := hst15 (hL 18 (by decide));clear hst15;clear hL c0 c1 c2 c3 c4 c5 c6 c7 c8 c9 c10 c11 c12 c13 d16 c14 d17 c15 d18 y13_14 y13_15 y14_15
    try simp only [e0, e1, e2, e3, e4, e5, e6, e7, e8, e9, e10, e11, e12, e13, e14, e15]
    clear e0 e1 e2 e3 e4 e5 e6 e7 e8 e9 e10 e11 e12 e13 e14 e15;replace HB := Lib.hid hB;have k4 := Lib.hid hlok13;have k5 := Lib.hid hlok14;have k6 := Lib.hid hlok15;clear hlok13 hlok14 hlok15 hB;have x0 := k4.out.cell (i := 0) rfl;have x1 := k4.out.cell (i := 1) rfl;have y0 := k5.out.cell (i := 0) rfl;have y1 := k5.out.cell (i := 1) rfl;have z0 := k6.out.cell (i := 0) rfl;have z1 := k6.out.cell (i := 1) rfl
    go_wp2_with fail
    clear x0 x1 y0 y1 z0 z1;((with_reducible refine (P2.out _).mono ?_); rintro e w1 ⟨rfl, hb1⟩);replace HB := Lib.hid (HB.out.trans (hb1.mono HB.out.size));replace k4 := Lib.hid (k4.out.keep hb1);replace k5 := Lib.hid (k5.out.keep hb1);clear hb1
    go_upto_region 6 with fail
    have hb1 := below_new1 w1 (.cells #[.int .i64 (s2')] 3);replace HB := Lib.hid (HB.out.trans (hb1.mono HB.out.size));replace k4 := Lib.hid (k4.out.keep hb1);replace k5 := Lib.hid (k5.out.keep hb1);have k1 := Lib.hid (Lok.new w1 3 #[.int .i64 (s2')]);clear hb1;generalize w1.alloc (.cells #[.int .i64 (s2')] 3) = V1 at *;generalize w1.heap.size = g1 at *;clear k6;have HX : Hid (EdgeAt p1 p2 q1 q2 r1 r2 2 (.func (.func 137) #[] #[.pointer (some ⟨g13, 0, none⟩), .pointer (some ⟨g14, 0, none⟩), .pointer (some ⟨g1, 0, none⟩)]) V1) := Lib.hid ⟨g13, g14, g1, rfl, k4.out, k5.out, by have := k1.out; rw [← E2.out] at this; exact this⟩;obtain ⟨fn, tmps, assign, body, hy, hR⟩ := hY 2 _ V1 (by omega) (hJ _ _ _ HJ.out HB.out) HX.out;clear HX k4 k5 k1
    refine wpIn_wide (n := n + 1).1 ?_
    gi_wp2
    clear hy
    refine hR.mono ?_
    rintro e W3 (⟨rfl, hJ3⟩ | ⟨rfl, hX3⟩)
    ·replace hJ3 := Lib.hid hJ3
     gi_wp2
     go_wp2
     go_roundw
     case rel => exact ⟨3, by go_num, by omega, hJ3.out⟩
     case measure => simp [intOf]
    ·replace hX3 := Lib.hid hX3
     gi_wp2
     go_wp2
     refine bodyPost_ret (results_none rfl _ _ _) rfl ?_
     exact ⟨⟨_, rfl⟩, .inr hX3.out⟩
  ·replace hJ0 := Lib.hid hJ0
   go_wp2
   go_end0
   exact ⟨⟨_, rfl⟩, .inl hJ0.out⟩
end Go.Proofs.YtcnbbanpnoigdaaGreat
