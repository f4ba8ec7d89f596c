import Derived.Test.YtcnbbanpnoigdaaGreatHf
import Derived.Test.YtcnbbanpnoigdaaGreatHg
import Derived.Test.YtcnbbanpnoigdaaGreatHv
namespace Go.Proofs.YtcnbbanpnoigdaaGreat
open Go.RowKit

def cB (x y fx fy a1 a2 b1 b2 c1 c2 : Int) : Bool := decide (min (min a1 b1) c1 ≤ fx) && decide (min (min a2 b2) c2 ≤ fy) && decide (x ≤ max (max a1 b1) c1) && decide (y ≤ max (max a2 b2) c2)
end Go.Proofs.YtcnbbanpnoigdaaGreat
namespace Go.Proofs.YtcnbbanpnoigdaaGreat
open Go.RowKit

def sqS (x y s : Int) : Bool := decide (1 ≤ s) && decide (s ≤ 4096) && s2 x y && s2 (x + s) (y + s)
def sqE (u t : Bool) : Int := if u = true then (if t = true then 0 else 1) else 5
def sqV (x y s a1 a2 b1 b2 c1 c2 : Int) : Bool := sqS x y s && rT a1 a2 b1 b2 c1 c2 && cB x y (x + s) (y + s) a1 a2 b1 b2 c1 c2 && (r4 a1 a2 b1 b2 c1 c2 x y (x + s) y (x + s) (y + s) x (y + s) != -1)
end Go.Proofs.YtcnbbanpnoigdaaGreat
namespace Go.Proofs.YtcnbbanpnoigdaaGreat
open Go.RowKit

set_option maxRecDepth 100000 in
set_option maxHeartbeats 4000000 in
theorem rright_any (a1 a2 b1 b2 c1 c2 : Int) (w : World) :
  Calls Tryz.prog 60 #[.agg #[.int .i64 a1, .int .i64 a2, .int .i64 b1, .int .i64 b2, .int .i64 c1, .int .i64 c2]] w fun e' w' => e' = .returned (.bool (rT a1 a2 b1 b2 c1 c2)) ∧ Below w.heap.size w w' := by
 have HB := Lib.hid (Below.refl w.heap.size w);obtain ⟨t, ht⟩ : ∃ t, (s2 a1 a2 && s2 b1 b2 && s2 c1 c2) = t := ⟨_, rfl⟩;have P := Lib.hid (fun W => rarea_any a1 a2 b1 b2 c1 c2 t ht W)
 cases t with
 | false =>
  rw [vF_no, show rE false = 5 from rfl] at P;rw [show rT a1 a2 b1 b2 c1 c2 = false from by unfold rT; rw [ht]; rfl];clear ht
  go_enter Tryz.func60, Tryz.ntmps60
  go_upto_region 1 with fail
  have hbx := below_new1 w (.cells #[.int .i64 a1, .int .i64 a2, .int .i64 b1, .int .i64 b2, .int .i64 c1, .int .i64 c2] 37)
  have zx : (w.alloc (.cells #[.int .i64 a1, .int .i64 a2, .int .i64 b1, .int .i64 b2, .int .i64 c1, .int .i64 c2] 37)).heap.size = w.heap.size + 1 := by simp
  have HB := Lib.hid hbx;have kx := Lib.hid (Lok.new w 37 #[.int .i64 a1, .int .i64 a2, .int .i64 b1, .int .i64 b2, .int .i64 c1, .int .i64 c2]);clear hbx;generalize w.alloc (.cells #[.int .i64 a1, .int .i64 a2, .int .i64 b1, .int .i64 b2, .int .i64 c1, .int .i64 c2] 37) = Vx at *;clear zx;have x0 := kx.out.cell (i := 0) rfl;have x1 := kx.out.cell (i := 1) rfl;have x2 := kx.out.cell (i := 2) rfl;have x3 := kx.out.cell (i := 3) rfl;have x4 := kx.out.cell (i := 4) rfl;have x5 := kx.out.cell (i := 5) rfl
  go_wp2_with fail
  clear x0 x1 x2 x3 x4 x5
  (((with_reducible refine (P.out _).mono ?_); rintro e w1 ⟨rfl, hb1⟩); replace HB := Lib.hid (HB.out.trans (hb1.mono HB.out.size)); clear hb1)
  go_wp2
  go_ret
  exact ⟨rfl, HB.out⟩
 | true =>
  rw [vF_yes, show rE true = 0 from rfl] at P
  have e : rT a1 a2 b1 b2 c1 c2 = (ar a1 a2 b1 b2 c1 c2 != 0) := by unfold rT; rw [ht, Bool.true_and]
  rw [e];generalize ar a1 a2 b1 b2 c1 c2 = n at *;clear ht e
  go_enter Tryz.func60, Tryz.ntmps60
  go_upto_region 1 with fail
  have hbx := below_new1 w (.cells #[.int .i64 a1, .int .i64 a2, .int .i64 b1, .int .i64 b2, .int .i64 c1, .int .i64 c2] 37)
  have zx : (w.alloc (.cells #[.int .i64 a1, .int .i64 a2, .int .i64 b1, .int .i64 b2, .int .i64 c1, .int .i64 c2] 37)).heap.size = w.heap.size + 1 := by simp
  have HB := Lib.hid hbx;have kx := Lib.hid (Lok.new w 37 #[.int .i64 a1, .int .i64 a2, .int .i64 b1, .int .i64 b2, .int .i64 c1, .int .i64 c2]);clear hbx;generalize w.alloc (.cells #[.int .i64 a1, .int .i64 a2, .int .i64 b1, .int .i64 b2, .int .i64 c1, .int .i64 c2] 37) = Vx at *;clear zx;have x0 := kx.out.cell (i := 0) rfl;have x1 := kx.out.cell (i := 1) rfl;have x2 := kx.out.cell (i := 2) rfl;have x3 := kx.out.cell (i := 3) rfl;have x4 := kx.out.cell (i := 4) rfl;have x5 := kx.out.cell (i := 5) rfl
  go_wp2_with fail
  clear x0 x1 x2 x3 x4 x5
  (((with_reducible refine (P.out _).mono ?_); rintro e w1 ⟨rfl, hb1⟩); replace HB := Lib.hid (HB.out.trans (hb1.mono HB.out.size)); clear hb1)
  go_wp2
  go_ret
  exact ⟨rfl, HB.out⟩
set_option maxRecDepth 100000 in
set_option maxHeartbeats 4000000 in
theorem rsides_any (p1 p2 q1 q2 r1 r2 x y : Int) (k : Nat) (hk : k < 3) (hs : (s2 p1 p2 && s2 q1 q2 && s2 r1 r2) = true) (hp : s2 x y = true) (w : World) :
  Calls Tryz.prog 105 #[.agg #[.int .i64 p1, .int .i64 p2, .int .i64 q1, .int .i64 q2, .int .i64 r1, .int .i64 r2], .int .i64 (k : Int), .agg #[.int .i64 x, .int .i64 y]] w fun e' w' => e' = .returned (.int .i64 (eS (c3 p1 q1 r1 k) (c3 p2 q2 r2 k) (c3 q1 r1 p1 k) (c3 q2 r2 p2 k) (c3 r1 p1 q1 k) (c3 r2 p2 q2 k) x y)) ∧ Below w.heap.size w w' := by
 have HB := Lib.hid (Below.refl w.heap.size w);obtain ⟨h1, h2, h3⟩ := small_of3 hs;clear hs
 rcases (show k = 0 ∨ k = 1 ∨ k = 2 by omega) with rfl | rfl | rfl
 ·have S1 := Lib.hid (fun W => rsideOf_any p1 p2 q1 q2 r1 r2 true (by rw [h1, h2, h3]; rfl) W)
  have S2 := Lib.hid (fun W => rsideOf_any p1 p2 q1 q2 x y true (by rw [h1, h2, hp]; rfl) W);rw [vF_yes, show rE true = 0 from rfl] at S1 S2
  show Calls _ _ _ _ fun e' w' => e' = .returned (.int .i64 (eS p1 p2 q1 q2 r1 r2 x y)) ∧ _
  unfold eS;have b1 := ord_bd (ar p1 p2 q1 q2 r1 r2) 0;have b2 := ord_bd (ar p1 p2 q1 q2 x y) 0;rw [Int.mul_comm];generalize ordI (ar p1 p2 q1 q2 r1 r2) 0 = n1 at *;generalize ordI (ar p1 p2 q1 q2 x y) 0 = n2 at *;have wm : IntKind.i64.wrap (n1 * n2) = n1 * n2 := IntWalk.i64_in _ (by have := unit_mul b1 b2; omega);clear h1 h2 h3 hp b1 b2 hk
  go_enter Tryz.func105, Tryz.ntmps105
  go_upto_region 1 with fail
  have hbt := below_new1 w (.cells #[.int .i64 p1, .int .i64 p2, .int .i64 q1, .int .i64 q2, .int .i64 r1, .int .i64 r2] 37)
  have zt : (w.alloc (.cells #[.int .i64 p1, .int .i64 p2, .int .i64 q1, .int .i64 q2, .int .i64 r1, .int .i64 r2] 37)).heap.size = w.heap.size + 1 := by simp
  have HB := Lib.hid hbt;have kt := Lib.hid (Lok.new w 37 #[.int .i64 p1, .int .i64 p2, .int .i64 q1, .int .i64 q2, .int .i64 r1, .int .i64 r2]);clear hbt;generalize w.alloc (.cells #[.int .i64 p1, .int .i64 p2, .int .i64 q1, .int .i64 q2, .int .i64 r1, .int .i64 r2] 37) = Vt at *;have hbz := below_new1 Vt (.cells #[.int .i64 x, .int .i64 y] 36);replace kt := Lib.hid (kt.out.keep hbz)
  have zz : (Vt.alloc (.cells #[.int .i64 x, .int .i64 y] 36)).heap.size = Vt.heap.size + 1 := by simp
  replace HB := Lib.hid (HB.out.trans (hbz.mono HB.out.size));have kz := Lib.hid (Lok.new Vt 36 #[.int .i64 x, .int .i64 y]);clear hbz;generalize Vt.alloc (.cells #[.int .i64 x, .int .i64 y] 36) = Vz at *;rw [zt] at kz;clear zt zz;have qt0 : ∀ D : Of (PastV Vz), _ := fun D => (kt.out.keep (show Below Vz.heap.size Vz D.world from D.holds)).cell (i := 0) rfl;have qt1 : ∀ D : Of (PastV Vz), _ := fun D => (kt.out.keep (show Below Vz.heap.size Vz D.world from D.holds)).cell (i := 1) rfl;have qt2 : ∀ D : Of (PastV Vz), _ := fun D => (kt.out.keep (show Below Vz.heap.size Vz D.world from D.holds)).cell (i := 2) rfl;have qt3 : ∀ D : Of (PastV Vz), _ := fun D => (kt.out.keep (show Below Vz.heap.size Vz D.world from D.holds)).cell (i := 3) rfl;have qt4 : ∀ D : Of (PastV Vz), _ := fun D => (kt.out.keep (show Below Vz.heap.size Vz D.world from D.holds)).cell (i := 4) rfl;have qt5 : ∀ D : Of (PastV Vz), _ := fun D => (kt.out.keep (show Below Vz.heap.size Vz D.world from D.holds)).cell (i := 5) rfl;have ST := Lib.hid (pastV_stays Vz);have ne : Nonempty (Of (PastV Vz)) := ⟨⟨Vz, Below.refl _ _⟩⟩
  refine wp_region_class (S := PastV Vz) (by kernel_rfl) (by kernel_rfl) (Below.refl _ _).drew ?_
  repeat (go_big_quiet_step (first | (go_at_call 121; first | (with_reducible exact class_call ST.out _ (S1.out _)))))
  refine wpQuiet_nil ?_
  rintro _ ⟨D, rfl⟩
  have hD : Below Vz.heap.size Vz D.world := D.holds;replace HB := Lib.hid (HB.out.trans (hD.mono HB.out.size));replace kt := Lib.hid (kt.out.keep hD);replace kz := Lib.hid (kz.out.keep hD);generalize D.world = v1 at *;clear qt0 qt1 qt2 qt3 qt4 qt5 ne ST hD
  go_upto_region 2 with fail
  have qt0 : ∀ D : Of (PastV v1), _ := fun D => (kt.out.keep (show Below v1.heap.size v1 D.world from D.holds)).cell (i := 0) rfl;have qt1 : ∀ D : Of (PastV v1), _ := fun D => (kt.out.keep (show Below v1.heap.size v1 D.world from D.holds)).cell (i := 1) rfl;have qt2 : ∀ D : Of (PastV v1), _ := fun D => (kt.out.keep (show Below v1.heap.size v1 D.world from D.holds)).cell (i := 2) rfl;have qt3 : ∀ D : Of (PastV v1), _ := fun D => (kt.out.keep (show Below v1.heap.size v1 D.world from D.holds)).cell (i := 3) rfl;have qt4 : ∀ D : Of (PastV v1), _ := fun D => (kt.out.keep (show Below v1.heap.size v1 D.world from D.holds)).cell (i := 4) rfl;have qt5 : ∀ D : Of (PastV v1), _ := fun D => (kt.out.keep (show Below v1.heap.size v1 D.world from D.holds)).cell (i := 5) rfl;have qz0 : ∀ D : Of (PastV v1), _ := fun D => (kz.out.keep (show Below v1.heap.size v1 D.world from D.holds)).cell (i := 0) rfl;have qz1 : ∀ D : Of (PastV v1), _ := fun D => (kz.out.keep (show Below v1.heap.size v1 D.world from D.holds)).cell (i := 1) rfl;have ST := Lib.hid (pastV_stays v1);have ne : Nonempty (Of (PastV v1)) := ⟨⟨v1, Below.refl _ _⟩⟩
  refine wp_region_class (S := PastV v1) (by kernel_rfl) (by kernel_rfl) (Below.refl _ _).drew ?_
  repeat (go_big_quiet_step (first | (go_at_call 121; first | (with_reducible exact class_call ST.out _ (S2.out _)))))
  refine wpQuiet_nil ?_
  rintro _ ⟨D, rfl⟩
  have hD : Below v1.heap.size v1 D.world := D.holds;replace HB := Lib.hid (HB.out.trans (hD.mono HB.out.size));replace kt := Lib.hid (kt.out.keep hD);replace kz := Lib.hid (kz.out.keep hD);generalize D.world = v2 at *;clear qt0 qt1 qt2 qt3 qt4 qt5 qz0 qz1 ne ST hD
  go_wp2
  go_ret
  exact ⟨rfl, HB.out⟩
 ·have S1 := Lib.hid (fun W => rsideOf_any q1 q2 r1 r2 p1 p2 true (by rw [h2, h3, h1]; rfl) W)
  have S2 := Lib.hid (fun W => rsideOf_any q1 q2 r1 r2 x y true (by rw [h2, h3, hp]; rfl) W);rw [vF_yes, show rE true = 0 from rfl] at S1 S2
  show Calls _ _ _ _ fun e' w' => e' = .returned (.int .i64 (eS q1 q2 r1 r2 p1 p2 x y)) ∧ _
  unfold eS;have b1 := ord_bd (ar q1 q2 r1 r2 p1 p2) 0;have b2 := ord_bd (ar q1 q2 r1 r2 x y) 0;rw [Int.mul_comm];generalize ordI (ar q1 q2 r1 r2 p1 p2) 0 = n1 at *;generalize ordI (ar q1 q2 r1 r2 x y) 0 = n2 at *;have wm : IntKind.i64.wrap (n1 * n2) = n1 * n2 := IntWalk.i64_in _ (by have := unit_mul b1 b2; omega);clear h1 h2 h3 hp b1 b2 hk
  go_enter Tryz.func105, Tryz.ntmps105
  go_upto_region 1 with fail
  have hbt := below_new1 w (.cells #[.int .i64 p1, .int .i64 p2, .int .i64 q1, .int .i64 q2, .int .i64 r1, .int .i64 r2] 37)
  have zt : (w.alloc (.cells #[.int .i64 p1, .int .i64 p2, .int .i64 q1, .int .i64 q2, .int .i64 r1, .int .i64 r2] 37)).heap.size = w.heap.size + 1 := by simp
  have HB := Lib.hid hbt;have kt := Lib.hid (Lok.new w 37 #[.int .i64 p1, .int .i64 p2, .int .i64 q1, .int .i64 q2, .int .i64 r1, .int .i64 r2]);clear hbt;generalize w.alloc (.cells #[.int .i64 p1, .int .i64 p2, .int .i64 q1, .int .i64 q2, .int .i64 r1, .int .i64 r2] 37) = Vt at *;have hbz := below_new1 Vt (.cells #[.int .i64 x, .int .i64 y] 36);replace kt := Lib.hid (kt.out.keep hbz)
  have zz : (Vt.alloc (.cells #[.int .i64 x, .int .i64 y] 36)).heap.size = Vt.heap.size + 1 := by simp
  replace HB := Lib.hid (HB.out.trans (hbz.mono HB.out.size));have kz := Lib.hid (Lok.new Vt 36 #[.int .i64 x, .int .i64 y]);clear hbz;generalize Vt.alloc (.cells #[.int .i64 x, .int .i64 y] 36) = Vz at *;rw [zt] at kz;clear zt zz;have qt0 : ∀ D : Of (PastV Vz), _ := fun D => (kt.out.keep (show Below Vz.heap.size Vz D.world from D.holds)).cell (i := 0) rfl;have qt1 : ∀ D : Of (PastV Vz), _ := fun D => (kt.out.keep (show Below Vz.heap.size Vz D.world from D.holds)).cell (i := 1) rfl;have qt2 : ∀ D : Of (PastV Vz), _ := fun D => (kt.out.keep (show Below Vz.heap.size Vz D.world from D.holds)).cell (i := 2) rfl;have qt3 : ∀ D : Of (PastV Vz), _ := fun D => (kt.out.keep (show Below Vz.heap.size Vz D.world from D.holds)).cell (i := 3) rfl;have qt4 : ∀ D : Of (PastV Vz), _ := fun D => (kt.out.keep (show Below Vz.heap.size Vz D.world from D.holds)).cell (i := 4) rfl;have qt5 : ∀ D : Of (PastV Vz), _ := fun D => (kt.out.keep (show Below Vz.heap.size Vz D.world from D.holds)).cell (i := 5) rfl;have ST := Lib.hid (pastV_stays Vz);have ne : Nonempty (Of (PastV Vz)) := ⟨⟨Vz, Below.refl _ _⟩⟩
  refine wp_region_class (S := PastV Vz) (by kernel_rfl) (by kernel_rfl) (Below.refl _ _).drew ?_
  repeat (go_big_quiet_step (first | (go_at_call 121; first | (with_reducible exact class_call ST.out _ (S1.out _)))))
  refine wpQuiet_nil ?_
  rintro _ ⟨D, rfl⟩
  have hD : Below Vz.heap.size Vz D.world := D.holds;replace HB := Lib.hid (HB.out.trans (hD.mono HB.out.size));replace kt := Lib.hid (kt.out.keep hD);replace kz := Lib.hid (kz.out.keep hD);generalize D.world = v1 at *;clear qt0 qt1 qt2 qt3 qt4 qt5 ne ST hD
  go_upto_region 2 with fail
  have qt0 : ∀ D : Of (PastV v1), _ := fun D => (kt.out.keep (show Below v1.heap.size v1 D.world from D.holds)).cell (i := 0) rfl;have qt1 : ∀ D : Of (PastV v1), _ := fun D => (kt.out.keep (show Below v1.heap.size v1 D.world from D.holds)).cell (i := 1) rfl;have qt2 : ∀ D : Of (PastV v1), _ := fun D => (kt.out.keep (show Below v1.heap.size v1 D.world from D.holds)).cell (i := 2) rfl;have qt3 : ∀ D : Of (PastV v1), _ := fun D => (kt.out.keep (show Below v1.heap.size v1 D.world from D.holds)).cell (i := 3) rfl;have qt4 : ∀ D : Of (PastV v1), _ := fun D => (kt.out.keep (show Below v1.heap.size v1 D.world from D.holds)).cell (i := 4) rfl;have qt5 : ∀ D : Of (PastV v1), _ := fun D => (kt.out.keep (show Below v1.heap.size v1 D.world from D.holds)).cell (i := 5) rfl;have qz0 : ∀ D : Of (PastV v1), _ := fun D => (kz.out.keep (show Below v1.heap.size v1 D.world from D.holds)).cell (i := 0) rfl;have qz1 : ∀ D : Of (PastV v1), _ := fun D => (kz.out.keep (show Below v1.heap.size v1 D.world from D.holds)).cell (i := 1) rfl;have ST := Lib.hid (pastV_stays v1);have ne : Nonempty (Of (PastV v1)) := ⟨⟨v1, Below.refl _ _⟩⟩
  refine wp_region_class (S := PastV v1) (by kernel_rfl) (by kernel_rfl) (Below.refl _ _).drew ?_
  repeat (go_big_quiet_step (first | (go_at_call 121; first | (with_reducible exact class_call ST.out _ (S2.out _)))))
  refine wpQuiet_nil ?_
  rintro _ ⟨D, rfl⟩
  have hD : Below v1.heap.size v1 D.world := D.holds;replace HB := Lib.hid (HB.out.trans (hD.mono HB.out.size));replace kt := Lib.hid (kt.out.keep hD);replace kz := Lib.hid (kz.out.keep hD);generalize D.world = v2 at *;clear qt0 qt1 qt2 qt3 qt4 qt5 qz0 qz1 ne ST hD
  go_wp2
  go_ret
  exact ⟨rfl, HB.out⟩
 ·have S1 := Lib.hid (fun W => rsideOf_any r1 r2 p1 p2 q1 q2 true (by rw [h3, h1, h2]; rfl) W)
  have S2 := Lib.hid (fun W => rsideOf_any r1 r2 p1 p2 x y true (by rw [h3, h1, hp]; rfl) W);rw [vF_yes, show rE true = 0 from rfl] at S1 S2
  show Calls _ _ _ _ fun e' w' => e' = .returned (.int .i64 (eS r1 r2 p1 p2 q1 q2 x y)) ∧ _
  unfold eS;have b1 := ord_bd (ar r1 r2 p1 p2 q1 q2) 0;have b2 := ord_bd (ar r1 r2 p1 p2 x y) 0;rw [Int.mul_comm];generalize ordI (ar r1 r2 p1 p2 q1 q2) 0 = n1 at *;generalize ordI (ar r1 r2 p1 p2 x y) 0 = n2 at *;have wm : IntKind.i64.wrap (n1 * n2) = n1 * n2 := IntWalk.i64_in _ (by have := unit_mul b1 b2; omega);clear h1 h2 h3 hp b1 b2 hk
  go_enter Tryz.func105, Tryz.ntmps105
  go_upto_region 1 with fail
  have hbt := below_new1 w (.cells #[.int .i64 p1, .int .i64 p2, .int .i64 q1, .int .i64 q2, .int .i64 r1, .int .i64 r2] 37)
  have zt : (w.alloc (.cells #[.int .i64 p1, .int .i64 p2, .int .i64 q1, .int .i64 q2, .int .i64 r1, .int .i64 r2] 37)).heap.size = w.heap.size + 1 := by simp
  have HB := Lib.hid hbt;have kt := Lib.hid (Lok.new w 37 #[.int .i64 p1, .int .i64 p2, .int .i64 q1, .int .i64 q2, .int .i64 r1, .int .i64 r2]);clear hbt;generalize w.alloc (.cells #[.int .i64 p1, .int .i64 p2, .int .i64 q1, .int .i64 q2, .int .i64 r1, .int .i64 r2] 37) = Vt at *;have hbz := below_new1 Vt (.cells #[.int .i64 x, .int .i64 y] 36);replace kt := Lib.hid (kt.out.keep hbz)
  have zz : (Vt.alloc (.cells #[.int .i64 x, .int .i64 y] 36)).heap.size = Vt.heap.size + 1 := by simp
  replace HB := Lib.hid (HB.out.trans (hbz.mono HB.out.size));have kz := Lib.hid (Lok.new Vt 36 #[.int .i64 x, .int .i64 y]);clear hbz;generalize Vt.alloc (.cells #[.int .i64 x, .int .i64 y] 36) = Vz at *;rw [zt] at kz;clear zt zz;have qt0 : ∀ D : Of (PastV Vz), _ := fun D => (kt.out.keep (show Below Vz.heap.size Vz D.world from D.holds)).cell (i := 0) rfl;have qt1 : ∀ D : Of (PastV Vz), _ := fun D => (kt.out.keep (show Below Vz.heap.size Vz D.world from D.holds)).cell (i := 1) rfl;have qt2 : ∀ D : Of (PastV Vz), _ := fun D => (kt.out.keep (show Below Vz.heap.size Vz D.world from D.holds)).cell (i := 2) rfl;have qt3 : ∀ D : Of (PastV Vz), _ := fun D => (kt.out.keep (show Below Vz.heap.size Vz D.world from D.holds)).cell (i := 3) rfl;have qt4 : ∀ D : Of (PastV Vz), _ := fun D => (kt.out.keep (show Below Vz.heap.size Vz D.world from D.holds)).cell (i := 4) rfl;have qt5 : ∀ D : Of (PastV Vz), _ := fun D => (kt.out.keep (show Below Vz.heap.size Vz D.world from D.holds)).cell (i := 5) rfl;have ST := Lib.hid (pastV_stays Vz);have ne : Nonempty (Of (PastV Vz)) := ⟨⟨Vz, Below.refl _ _⟩⟩
  refine wp_region_class (S := PastV Vz) (by kernel_rfl) (by kernel_rfl) (Below.refl _ _).drew ?_
  repeat (go_big_quiet_step (first | (go_at_call 121; first | (with_reducible exact class_call ST.out _ (S1.out _)))))
  refine wpQuiet_nil ?_
  rintro _ ⟨D, rfl⟩
  have hD : Below Vz.heap.size Vz D.world := D.holds;replace HB := Lib.hid (HB.out.trans (hD.mono HB.out.size));replace kt := Lib.hid (kt.out.keep hD);replace kz := Lib.hid (kz.out.keep hD);generalize D.world = v1 at *;clear qt0 qt1 qt2 qt3 qt4 qt5 ne ST hD
  go_upto_region 2 with fail
  have qt0 : ∀ D : Of (PastV v1), _ := fun D => (kt.out.keep (show Below v1.heap.size v1 D.world from D.holds)).cell (i := 0) rfl;have qt1 : ∀ D : Of (PastV v1), _ := fun D => (kt.out.keep (show Below v1.heap.size v1 D.world from D.holds)).cell (i := 1) rfl;have qt2 : ∀ D : Of (PastV v1), _ := fun D => (kt.out.keep (show Below v1.heap.size v1 D.world from D.holds)).cell (i := 2) rfl;have qt3 : ∀ D : Of (PastV v1), _ := fun D => (kt.out.keep (show Below v1.heap.size v1 D.world from D.holds)).cell (i := 3) rfl;have qt4 : ∀ D : Of (PastV v1), _ := fun D => (kt.out.keep (show Below v1.heap.size v1 D.world from D.holds)).cell (i := 4) rfl;have qt5 : ∀ D : Of (PastV v1), _ := fun D => (kt.out.keep (show Below v1.heap.size v1 D.world from D.holds)).cell (i := 5) rfl;have qz0 : ∀ D : Of (PastV v1), _ := fun D => (kz.out.keep (show Below v1.heap.size v1 D.world from D.holds)).cell (i := 0) rfl;have qz1 : ∀ D : Of (PastV v1), _ := fun D => (kz.out.keep (show Below v1.heap.size v1 D.world from D.holds)).cell (i := 1) rfl;have ST := Lib.hid (pastV_stays v1);have ne : Nonempty (Of (PastV v1)) := ⟨⟨v1, Below.refl _ _⟩⟩
  refine wp_region_class (S := PastV v1) (by kernel_rfl) (by kernel_rfl) (Below.refl _ _).drew ?_
  repeat (go_big_quiet_step (first | (go_at_call 121; first | (with_reducible exact class_call ST.out _ (S2.out _)))))
  refine wpQuiet_nil ?_
  rintro _ ⟨D, rfl⟩
  have hD : Below v1.heap.size v1 D.world := D.holds;replace HB := Lib.hid (HB.out.trans (hD.mono HB.out.size));replace kt := Lib.hid (kt.out.keep hD);replace kz := Lib.hid (kz.out.keep hD);generalize D.world = v2 at *;clear qt0 qt1 qt2 qt3 qt4 qt5 qz0 qz1 ne ST hD
  go_wp2
  go_ret
  exact ⟨rfl, HB.out⟩
set_option maxRecDepth 100000 in
set_option maxHeartbeats 4000000 in
theorem rgreatest_any (p1 p2 q1 q2 r1 r2 : Int) (k : Nat) (hk : k < 3) (hs : (s2 p1 p2 && s2 q1 q2 && s2 r1 r2) = true) (A : Option Addr) (n c : Nat) (F : Nat → Nat → Int) (w : World) (hr : RowK w A n 2 F) (hn : n ≤ 1000000) (hF : ∀ i, i < n → s2 (F i 0) (F i 1) = true) :
  Calls Tryz.prog 86 #[.agg #[.int .i64 p1, .int .i64 p2, .int .i64 q1, .int .i64 q2, .int .i64 r1, .int .i64 r2], .int .i64 (k : Int), .slice A n c] w fun e w' => e = .returned (.int .i64 (mx (fun i => eS (c3 p1 q1 r1 k) (c3 p2 q2 r2 k) (c3 q1 r1 p1 k) (c3 q2 r2 p2 k) (c3 r1 p1 q1 k) (c3 r2 p2 q2 k) (F i 0) (F i 1)) n)) ∧ Below w.heap.size w w' := by
 have R := Lib.hid hr;have HF := Lib.hid hF;have SD := Lib.hid (fun x y hp W => rsides_any p1 p2 q1 q2 r1 r2 x y k hk hs hp W);obtain ⟨sd, hsd⟩ : ∃ sd : Nat → Int, (fun i => eS (c3 p1 q1 r1 k) (c3 p2 q2 r2 k) (c3 q1 r1 p1 k) (c3 q2 r2 p2 k) (c3 r1 p1 q1 k) (c3 r2 p2 q2 k) (F i 0) (F i 1)) = sd := ⟨_, rfl⟩;rw [hsd];have HS := Lib.hid (fun i => congrFun hsd i);clear hr hF hs hsd
 have wn : ((n : Nat) : Int) ≤ 1000000 := by omega
 have wk : ((k : Nat) : Int) < 3 := by omega
 go_enter Tryz.func86, Tryz.ntmps86
 go_upto_region 1 with fail
 have hbt := below_new1 w (.cells #[.int .i64 p1, .int .i64 p2, .int .i64 q1, .int .i64 q2, .int .i64 r1, .int .i64 r2] 37)
 have zt : (w.alloc (.cells #[.int .i64 p1, .int .i64 p2, .int .i64 q1, .int .i64 q2, .int .i64 r1, .int .i64 r2] 37)).heap.size = w.heap.size + 1 := by simp
 have HB := Lib.hid hbt;have kt := Lib.hid (Lok.new w 37 #[.int .i64 p1, .int .i64 p2, .int .i64 q1, .int .i64 q2, .int .i64 r1, .int .i64 r2]);clear hbt;generalize w.alloc (.cells #[.int .i64 p1, .int .i64 p2, .int .i64 q1, .int .i64 q2, .int .i64 r1, .int .i64 r2] 37) = Vt at *;clear zt;have R2 := Lib.hid (R.out.keep HB.out);have HB0 := HB;clear R
 go_wp2_with fail
 go_loopw [8, 7] (fun x g wr => ∃ j : Nat, x = .int .i64 j ∧ j ≤ n ∧ g = .int .i64 (mx sd j) ∧ Below Vt.heap.size Vt wr) (fun x _ _ => n - (intOf x).toNat)
 case atStart => exact ⟨0, rfl, Nat.zero_le _, rfl, Below.refl _ _⟩
 case round =>
  obtain ⟨j, rfl, hj, rfl, hB⟩ := hrel
  by_cases hlt : j < n
  ·obtain ⟨b, o, rfl, hb, hc⟩ := (R2.out.keep hB).at hlt
   have c0 := hc j hlt 0 (by omega);have c1 := hc j hlt 1 (by omega);rw [Nat.add_zero] at c0;rw [← Nat.add_assoc] at c1;have CA := Lib.hid (fun W => SD.out (F j 0) (F j 1) (HF.out j hlt) W);have es := HS.out j;rw [es] at CA;have em : mx sd (j + 1) = max (mx sd j) (sd j) := rfl;have EM := Lib.hid em;clear em es hc;generalize F j 0 = x at *;generalize F j 1 = y at *;generalize sd j = s at *;generalize mx sd j = m at *;replace kt := Lib.hid (kt.out.keep hB);replace HB := Lib.hid (HB0.out.trans (hB.mono HB0.out.size));have HB' := Lib.hid hB;clear hB
   have i0 : (0 : Int) ≤ (j : Int) := by omega
   have i1 : (j : Int) < (n : Int) := by omega
   have i2 : ((j : Int)).toNat = j := by omega
   go_upto_region 5 with fail
   have y0 : ∀ D : Of (PastV wr), _ := fun D => keepc (show Below wr.heap.size wr D.world from D.holds) c0;have y1 : ∀ D : Of (PastV wr), _ := fun D => keepc (show Below wr.heap.size wr D.world from D.holds) c1;clear c0 c1;have qt0 : ∀ D : Of (PastV wr), _ := fun D => (kt.out.keep (show Below wr.heap.size wr D.world from D.holds)).cell (i := 0) rfl;have qt1 : ∀ D : Of (PastV wr), _ := fun D => (kt.out.keep (show Below wr.heap.size wr D.world from D.holds)).cell (i := 1) rfl;have qt2 : ∀ D : Of (PastV wr), _ := fun D => (kt.out.keep (show Below wr.heap.size wr D.world from D.holds)).cell (i := 2) rfl;have qt3 : ∀ D : Of (PastV wr), _ := fun D => (kt.out.keep (show Below wr.heap.size wr D.world from D.holds)).cell (i := 3) rfl;have qt4 : ∀ D : Of (PastV wr), _ := fun D => (kt.out.keep (show Below wr.heap.size wr D.world from D.holds)).cell (i := 4) rfl;have qt5 : ∀ D : Of (PastV wr), _ := fun D => (kt.out.keep (show Below wr.heap.size wr D.world from D.holds)).cell (i := 5) rfl;have ST := Lib.hid (pastV_stays wr);have ne : Nonempty (Of (PastV wr)) := ⟨⟨wr, Below.refl _ _⟩⟩
   refine wp_region_class (S := PastV wr) (by kernel_rfl) (by kernel_rfl) (Below.refl _ _).drew ?_
   repeat (go_big_quiet_step (first | (go_at_call 105; first | (with_reducible exact class_call ST.out _ (CA.out _)))))
   refine wpQuiet_nil ?_
   rintro _ ⟨D, rfl⟩
   have hD : Below wr.heap.size wr D.world := D.holds;replace HB := Lib.hid (HB.out.trans (hD.mono HB.out.size));replace kt := Lib.hid (kt.out.keep hD);generalize D.world = v1 at *;have HD := Lib.hid hD;clear qt0 qt1 qt2 qt3 qt4 qt5 y0 y1 ne ST hD
   go_wp2
   go_roundw
   case rel => exact ⟨j + 1, by go_num, hlt, by rw [EM.out], HB'.out.trans (HD.out.mono HB'.out.size)⟩
   case measure => simp [intOf]; omega
  ·obtain rfl : j = n := by omega
   have HB2 := Lib.hid (HB0.out.trans (hB.mono HB0.out.size));clear hB HB
   go_wp2
   go_ret
   exact ⟨rfl, HB2.out⟩
end Go.Proofs.YtcnbbanpnoigdaaGreat
namespace Go.Proofs.YtcnbbanpnoigdaaGreat
open Go.RowKit

def ptB (on : Bool) (v : Int) : Bool := decide (v < 0) || (on && decide (v = 0))
def gk (p1 p2 q1 q2 r1 r2 : Int) (F : Nat → Nat → Int) (n k : Nat) : Int := mx (fun i => eS (c3 p1 q1 r1 k) (c3 p2 q2 r2 k) (c3 q1 r1 p1 k) (c3 q2 r2 p2 k) (c3 r1 p1 q1 k) (c3 r2 p2 q2 k) (F i 0) (F i 1)) n
def ptd (on : Bool) (p1 p2 q1 q2 r1 r2 : Int) (F : Nat → Nat → Int) (n : Nat) : Bool := ptB on (gk p1 p2 q1 q2 r1 r2 F n 0) || ptB on (gk p1 p2 q1 q2 r1 r2 F n 1) || ptB on (gk p1 p2 q1 q2 r1 r2 F n 2)
theorem gk_bd (p1 p2 q1 q2 r1 r2 : Int) (F : Nat → Nat → Int) (n k : Nat) : -1 ≤ gk p1 p2 q1 q2 r1 r2 F n k ∧ gk p1 p2 q1 q2 r1 r2 F n k ≤ 1 := mx_bd (fun _ => eS_bd _ _ _ _ _ _ _ _) n
theorem rc_gk (p1 p2 q1 q2 r1 r2 : Int) (F : Nat → Nat → Int) (n : Nat) : rc p1 p2 q1 q2 r1 r2 F n = min (min (min 1 (gk p1 p2 q1 q2 r1 r2 F n 0)) (gk p1 p2 q1 q2 r1 r2 F n 1)) (gk p1 p2 q1 q2 r1 r2 F n 2) := rfl
theorem ptd_on (p1 p2 q1 q2 r1 r2 : Int) (F : Nat → Nat → Int) (n : Nat) : ptd true p1 p2 q1 q2 r1 r2 F n = !(rc p1 p2 q1 q2 r1 r2 F n == 1) := by
 rw [rc_gk];unfold ptd;have h0 := gk_bd p1 p2 q1 q2 r1 r2 F n 0;have h1 := gk_bd p1 p2 q1 q2 r1 r2 F n 1;have h2 := gk_bd p1 p2 q1 q2 r1 r2 F n 2;generalize gk p1 p2 q1 q2 r1 r2 F n 0 = x at *;generalize gk p1 p2 q1 q2 r1 r2 F n 1 = y at *;generalize gk p1 p2 q1 q2 r1 r2 F n 2 = z at *
 rcases (show x = -1 ∨ x = 0 ∨ x = 1 by omega) with rfl | rfl | rfl <;> rcases (show y = -1 ∨ y = 0 ∨ y = 1 by omega) with rfl | rfl | rfl <;> rcases (show z = -1 ∨ z = 0 ∨ z = 1 by omega) with rfl | rfl | rfl <;> decide
theorem ptd_yes (on : Bool) (p1 p2 q1 q2 r1 r2 : Int) (F : Nat → Nat → Int) (n k : Nat) (hk : k < 3) (h : ptB on (gk p1 p2 q1 q2 r1 r2 F n k) = true) : ptd on p1 p2 q1 q2 r1 r2 F n = true := by
 unfold ptd
 rcases (show k = 0 ∨ k = 1 ∨ k = 2 by omega) with rfl | rfl | rfl <;> rw [h] <;> simp
theorem ptd_no (on : Bool) (p1 p2 q1 q2 r1 r2 : Int) (F : Nat → Nat → Int) (n : Nat) (h : ∀ k, k < 3 → ptB on (gk p1 p2 q1 q2 r1 r2 F n k) = false) : ptd on p1 p2 q1 q2 r1 r2 F n = false := by
 unfold ptd
 rw [h 0 (by omega), h 1 (by omega), h 2 (by omega)]; rfl
set_option maxRecDepth 100000 in
set_option maxHeartbeats 4000000 in
theorem rparted_any (p1 p2 q1 q2 r1 r2 : Int) (hs : (s2 p1 p2 && s2 q1 q2 && s2 r1 r2) = true) (on : Bool) (A : Option Addr) (n c : Nat) (F : Nat → Nat → Int) (w : World) (hr : RowK w A n 2 F) (hn : n ≤ 1000000) (hF : ∀ i, i < n → s2 (F i 0) (F i 1) = true) :
  Calls Tryz.prog 61 #[.agg #[.int .i64 p1, .int .i64 p2, .int .i64 q1, .int .i64 q2, .int .i64 r1, .int .i64 r2], .slice A n c, .bool on] w fun e w' => e = .returned (.bool (ptd on p1 p2 q1 q2 r1 r2 F n)) ∧ Below w.heap.size w w' := by
 have R := Lib.hid hr;have HF := Lib.hid hF;have HS := Lib.hid hs;clear hr hF hs
 go_enter Tryz.func61, Tryz.ntmps61
 go_upto_region 1 with fail
 have hbt := below_new1 w (.cells #[.int .i64 p1, .int .i64 p2, .int .i64 q1, .int .i64 q2, .int .i64 r1, .int .i64 r2] 37)
 have zt : (w.alloc (.cells #[.int .i64 p1, .int .i64 p2, .int .i64 q1, .int .i64 q2, .int .i64 r1, .int .i64 r2] 37)).heap.size = w.heap.size + 1 := by simp
 have HB := Lib.hid hbt;have kt := Lib.hid (Lok.new w 37 #[.int .i64 p1, .int .i64 p2, .int .i64 q1, .int .i64 q2, .int .i64 r1, .int .i64 r2]);clear hbt;generalize w.alloc (.cells #[.int .i64 p1, .int .i64 p2, .int .i64 q1, .int .i64 q2, .int .i64 r1, .int .i64 r2] 37) = Vt at *;clear zt;have R2 := Lib.hid (R.out.keep HB.out);have HB0 := HB;clear R HB
 go_wp2_with fail
 go_loopw [7] (fun x wr => ∃ j : Nat, x = .int .i64 j ∧ j ≤ 3 ∧ (∀ i, i < j → ptB on (gk p1 p2 q1 q2 r1 r2 F n i) = false) ∧ Below Vt.heap.size Vt wr) (fun x _ => 3 - (intOf x).toNat)
 case atStart => exact ⟨0, rfl, Nat.zero_le _, fun i h => absurd h (by omega), Below.refl _ _⟩
 case round =>
  obtain ⟨j, rfl, hj, hno, hB⟩ := hrel;replace kt := Lib.hid (kt.out.keep hB);have HB' := Lib.hid hB;have HN := Lib.hid hno;have HB := Lib.hid (HB0.out.trans (hB.mono HB0.out.size));clear hno
  by_cases hlt : j < 3
  ·have G := Lib.hid (fun W (h : Below Vt.heap.size Vt W) => rgreatest_any p1 p2 q1 q2 r1 r2 j hlt HS.out A n c F W (R2.out.keep h) hn HF.out)
   have G2 := Lib.hid (G.out wr hB);clear G;have hv := gk_bd p1 p2 q1 q2 r1 r2 F n j;have YES := Lib.hid (ptd_yes on p1 p2 q1 q2 r1 r2 F n j hlt)
   have NO := Lib.hid (fun (q : ptB on (gk p1 p2 q1 q2 r1 r2 F n j) = false) i (hi : i < j + 1) => (by
    by_cases e : i = j
    ·rw [e]; exact q
    ·exact HN.out i (by omega) : ptB on (gk p1 p2 q1 q2 r1 r2 F n i) = false))
   rw [show mx (fun i => eS (c3 p1 q1 r1 j) (c3 p2 q2 r2 j) (c3 q1 r1 p1 j) (c3 q2 r2 p2 j) (c3 r1 p1 q1 j) (c3 r2 p2 q2 j) (F i 0) (F i 1)) n = gk p1 p2 q1 q2 r1 r2 F n j from rfl] at G2;generalize hgk : gk p1 p2 q1 q2 r1 r2 F n j = v at *;clear hgk hB
   have i1 : (j : Int) < 3 := by omega
   rcases (show v = -1 ∨ v = 0 ∨ v = 1 by omega) with rfl | rfl | rfl
   ·have E := Lib.hid (YES.out (by cases on <;> decide))
    clear YES NO hv;have t0 := kt.out.cell (i := 0) rfl;have t1 := kt.out.cell (i := 1) rfl;have t2 := kt.out.cell (i := 2) rfl;have t3 := kt.out.cell (i := 3) rfl;have t4 := kt.out.cell (i := 4) rfl;have t5 := kt.out.cell (i := 5) rfl
    go_wp2_with fail
    clear t0 t1 t2 t3 t4 t5
    (with_reducible refine G2.out.mono ?_)
    rintro e w1 ⟨rfl, hb1⟩
    have HC := Lib.hid hb1;replace HB := Lib.hid (HB.out.trans (hb1.mono HB.out.size));replace kt := Lib.hid (kt.out.keep hb1);clear hb1 G2
    go_wp2
    go_ret
    exact ⟨by rw [E.out]; rfl, HB.out⟩
   ·cases on with
    | true =>
     have E := Lib.hid (YES.out (by decide));clear YES NO hv;have t0 := kt.out.cell (i := 0) rfl;have t1 := kt.out.cell (i := 1) rfl;have t2 := kt.out.cell (i := 2) rfl;have t3 := kt.out.cell (i := 3) rfl;have t4 := kt.out.cell (i := 4) rfl;have t5 := kt.out.cell (i := 5) rfl
     go_wp2_with fail
     clear t0 t1 t2 t3 t4 t5
     (with_reducible refine G2.out.mono ?_)
     rintro e w1 ⟨rfl, hb1⟩
     have HC := Lib.hid hb1;replace HB := Lib.hid (HB.out.trans (hb1.mono HB.out.size));replace kt := Lib.hid (kt.out.keep hb1);clear hb1 G2
     go_wp2
     go_ret
     exact ⟨by rw [E.out]; rfl, HB.out⟩
    | false =>
     have E := Lib.hid (NO.out (by decide));clear YES NO hv;have t0 := kt.out.cell (i := 0) rfl;have t1 := kt.out.cell (i := 1) rfl;have t2 := kt.out.cell (i := 2) rfl;have t3 := kt.out.cell (i := 3) rfl;have t4 := kt.out.cell (i := 4) rfl;have t5 := kt.out.cell (i := 5) rfl
     go_wp2_with fail
     clear t0 t1 t2 t3 t4 t5
     (with_reducible refine G2.out.mono ?_)
     rintro e w1 ⟨rfl, hb1⟩
     have HC := Lib.hid hb1;replace HB := Lib.hid (HB.out.trans (hb1.mono HB.out.size));replace kt := Lib.hid (kt.out.keep hb1);clear hb1 G2
     go_wp2
     go_roundw
     case rel => exact ⟨j + 1, by go_num, hlt, E.out, HB'.out.trans (HC.out.mono HB'.out.size)⟩
     case measure => simp [intOf]; omega
   ·have E := Lib.hid (NO.out (by cases on <;> decide))
    clear YES NO hv
    cases on with
    | true =>
     have t0 := kt.out.cell (i := 0) rfl;have t1 := kt.out.cell (i := 1) rfl;have t2 := kt.out.cell (i := 2) rfl;have t3 := kt.out.cell (i := 3) rfl;have t4 := kt.out.cell (i := 4) rfl;have t5 := kt.out.cell (i := 5) rfl
     go_wp2_with fail
     clear t0 t1 t2 t3 t4 t5
     (with_reducible refine G2.out.mono ?_)
     rintro e w1 ⟨rfl, hb1⟩
     have HC := Lib.hid hb1;replace HB := Lib.hid (HB.out.trans (hb1.mono HB.out.size));replace kt := Lib.hid (kt.out.keep hb1);clear hb1 G2
     go_wp2
     go_roundw
     case rel => exact ⟨j + 1, by go_num, hlt, E.out, HB'.out.trans (HC.out.mono HB'.out.size)⟩
     case measure => simp [intOf]; omega
    | false =>
     have t0 := kt.out.cell (i := 0) rfl;have t1 := kt.out.cell (i := 1) rfl;have t2 := kt.out.cell (i := 2) rfl;have t3 := kt.out.cell (i := 3) rfl;have t4 := kt.out.cell (i := 4) rfl;have t5 := kt.out.cell (i := 5) rfl
     go_wp2_with fail
     clear t0 t1 t2 t3 t4 t5
     (with_reducible refine G2.out.mono ?_)
     rintro e w1 ⟨rfl, hb1⟩
     have HC := Lib.hid hb1;replace HB := Lib.hid (HB.out.trans (hb1.mono HB.out.size));replace kt := Lib.hid (kt.out.keep hb1);clear hb1 G2
     go_wp2
     go_roundw
     case rel => exact ⟨j + 1, by go_num, hlt, E.out, HB'.out.trans (HC.out.mono HB'.out.size)⟩
     case measure => simp [intOf]; omega
  ·obtain rfl : j = 3 := by omega
   have E := Lib.hid (ptd_no on p1 p2 q1 q2 r1 r2 F n HN.out);clear hB
   go_wp2
   go_ret
   exact ⟨by rw [E.out]; rfl, HB.out⟩
def lk (s : Nat → Int) : Nat → Int
 | 0 => 1
 | k + 1 => min (lk s k) (s k)
end Go.Proofs.YtcnbbanpnoigdaaGreat
namespace Go.Proofs.YtcnbbanpnoigdaaGreat
open Go.RowKit

theorem rparted_3 (on : Bool) (a1 a2 b1 b2 c1 c2 d1 d2 e1 e2 f1 f2 : Int) (ha : rT a1 a2 b1 b2 c1 c2 = true) (hd : rT d1 d2 e1 e2 f1 f2 = true) (v : Bool) (hv : ptd on a1 a2 b1 b2 c1 c2 (rowOf 2 [d1, d2, e1, e2, f1, f2]) 3 = v) (g : Nat) (T : TypeId) (w : World) (h : Lok w g T #[.int .i64 d1, .int .i64 d2, .int .i64 e1, .int .i64 e2, .int .i64 f1, .int .i64 f2]) :
  Calls Tryz.prog 61 #[.agg #[.int .i64 a1, .int .i64 a2, .int .i64 b1, .int .i64 b2, .int .i64 c1, .int .i64 c2], .slice (some ⟨g, 0, none⟩) 3 3, .bool on] w fun e w' => e = .returned (.bool v) ∧ Below w.heap.size w w' := by
 subst hv;obtain ⟨h1, h2, h3⟩ := small_of3 (rT_small hd)
 refine rparted_any a1 a2 b1 b2 c1 c2 (rT_small ha) on _ 3 3 (rowOf 2 [d1, d2, e1, e2, f1, f2]) w (rowK_ints (n := 3) (k := 2) [d1, d2, e1, e2, f1, f2] h rfl) (by omega) (fun i hi => ?_)
 rcases (show i = 0 ∨ i = 1 ∨ i = 2 by omega) with rfl | rfl | rfl
 ·exact h1
 ·exact h2
 ·exact h3
theorem min_on {m n : Int} (hm : -1 ≤ m ∧ m ≤ 1) (hn : -1 ≤ n ∧ n ≤ 1) : (min m n == 1) = (!(!(m == 1)) && !(!(n == 1))) := by
 rcases (show m = -1 ∨ m = 0 ∨ m = 1 by omega) with rfl | rfl | rfl <;> rcases (show n = -1 ∨ n = 0 ∨ n = 1 by omega) with rfl | rfl | rfl <;> decide
theorem r3_bd (a1 a2 b1 b2 c1 c2 d1 d2 e1 e2 f1 f2 : Int) : -1 ≤ r3 a1 a2 b1 b2 c1 c2 d1 d2 e1 e2 f1 f2 ∧ r3 a1 a2 b1 b2 c1 c2 d1 d2 e1 e2 f1 f2 ≤ 1 := rc_bd _ _ _ _ _ _ _ _
set_option maxRecDepth 100000 in
set_option maxHeartbeats 4000000 in
theorem roverlap_any (a1 a2 b1 b2 c1 c2 d1 d2 e1 e2 f1 f2 : Int) (t : Bool) (ht : (rT a1 a2 b1 b2 c1 c2 && rT d1 d2 e1 e2 f1 f2) = t) (w : World) :
  Calls Tryz.prog 42 #[.agg #[.int .i64 a1, .int .i64 a2, .int .i64 b1, .int .i64 b2, .int .i64 c1, .int .i64 c2], .agg #[.int .i64 d1, .int .i64 d2, .int .i64 e1, .int .i64 e2, .int .i64 f1, .int .i64 f2]] w fun e' w' => e' = .returned (.tuple #[.bool (mV t (mu a1 a2 b1 b2 c1 c2 d1 d2 e1 e2 f1 f2) == 1), .int .i64 (mE t)]) ∧ Below w.heap.size w w' := by
 have HB := Lib.hid (Below.refl w.heap.size w);have R1 := Lib.hid (fun W => rright_any a1 a2 b1 b2 c1 c2 W);have R2 := Lib.hid (fun W => rright_any d1 d2 e1 e2 f1 f2 W);subst ht
 cases ha : rT a1 a2 b1 b2 c1 c2 with
 | false =>
  rw [ha] at R1
  show Calls _ _ _ _ fun e' w' => e' = .returned (.tuple #[.bool false, .int .i64 1]) ∧ _
  clear ha R2
  go_enter Tryz.func42, Tryz.ntmps42
  go_upto_region 1 with fail
  have hbx := below_new1 w (.cells #[.int .i64 a1, .int .i64 a2, .int .i64 b1, .int .i64 b2, .int .i64 c1, .int .i64 c2] 37)
  have zx : (w.alloc (.cells #[.int .i64 a1, .int .i64 a2, .int .i64 b1, .int .i64 b2, .int .i64 c1, .int .i64 c2] 37)).heap.size = w.heap.size + 1 := by simp
  have HB := Lib.hid hbx;have kx := Lib.hid (Lok.new w 37 #[.int .i64 a1, .int .i64 a2, .int .i64 b1, .int .i64 b2, .int .i64 c1, .int .i64 c2]);clear hbx;generalize w.alloc (.cells #[.int .i64 a1, .int .i64 a2, .int .i64 b1, .int .i64 b2, .int .i64 c1, .int .i64 c2] 37) = Vx at *;have hby := below_new1 Vx (.cells #[.int .i64 d1, .int .i64 d2, .int .i64 e1, .int .i64 e2, .int .i64 f1, .int .i64 f2] 37);replace kx := Lib.hid (kx.out.keep hby)
  have zy : (Vx.alloc (.cells #[.int .i64 d1, .int .i64 d2, .int .i64 e1, .int .i64 e2, .int .i64 f1, .int .i64 f2] 37)).heap.size = Vx.heap.size + 1 := by simp
  replace HB := Lib.hid (HB.out.trans (hby.mono HB.out.size));have ky := Lib.hid (Lok.new Vx 37 #[.int .i64 d1, .int .i64 d2, .int .i64 e1, .int .i64 e2, .int .i64 f1, .int .i64 f2]);clear hby;generalize Vx.alloc (.cells #[.int .i64 d1, .int .i64 d2, .int .i64 e1, .int .i64 e2, .int .i64 f1, .int .i64 f2] 37) = Vy at *;rw [zx] at ky;clear zx zy;have x0 := kx.out.cell (i := 0) rfl;have x1 := kx.out.cell (i := 1) rfl;have x2 := kx.out.cell (i := 2) rfl;have x3 := kx.out.cell (i := 3) rfl;have x4 := kx.out.cell (i := 4) rfl;have x5 := kx.out.cell (i := 5) rfl
  go_wp2_with fail
  clear x0 x1 x2 x3 x4 x5
  (((with_reducible refine (R1.out _).mono ?_); rintro e w1 ⟨rfl, hb1⟩); replace HB := Lib.hid (HB.out.trans (hb1.mono HB.out.size)); replace kx := Lib.hid (kx.out.keep hb1); replace ky := Lib.hid (ky.out.keep hb1); clear hb1)
  go_wp2
  go_ret2
  exact ⟨rfl, HB.out⟩
 | true =>
  rw [ha] at R1
  cases hd : rT d1 d2 e1 e2 f1 f2 with
  | false =>
   rw [hd] at R2
   show Calls _ _ _ _ fun e' w' => e' = .returned (.tuple #[.bool false, .int .i64 1]) ∧ _
   clear ha hd
   go_enter Tryz.func42, Tryz.ntmps42
   go_upto_region 1 with fail
   have hbx := below_new1 w (.cells #[.int .i64 a1, .int .i64 a2, .int .i64 b1, .int .i64 b2, .int .i64 c1, .int .i64 c2] 37)
   have zx : (w.alloc (.cells #[.int .i64 a1, .int .i64 a2, .int .i64 b1, .int .i64 b2, .int .i64 c1, .int .i64 c2] 37)).heap.size = w.heap.size + 1 := by simp
   have HB := Lib.hid hbx;have kx := Lib.hid (Lok.new w 37 #[.int .i64 a1, .int .i64 a2, .int .i64 b1, .int .i64 b2, .int .i64 c1, .int .i64 c2]);clear hbx;generalize w.alloc (.cells #[.int .i64 a1, .int .i64 a2, .int .i64 b1, .int .i64 b2, .int .i64 c1, .int .i64 c2] 37) = Vx at *;have hby := below_new1 Vx (.cells #[.int .i64 d1, .int .i64 d2, .int .i64 e1, .int .i64 e2, .int .i64 f1, .int .i64 f2] 37);replace kx := Lib.hid (kx.out.keep hby)
   have zy : (Vx.alloc (.cells #[.int .i64 d1, .int .i64 d2, .int .i64 e1, .int .i64 e2, .int .i64 f1, .int .i64 f2] 37)).heap.size = Vx.heap.size + 1 := by simp
   replace HB := Lib.hid (HB.out.trans (hby.mono HB.out.size));have ky := Lib.hid (Lok.new Vx 37 #[.int .i64 d1, .int .i64 d2, .int .i64 e1, .int .i64 e2, .int .i64 f1, .int .i64 f2]);clear hby;generalize Vx.alloc (.cells #[.int .i64 d1, .int .i64 d2, .int .i64 e1, .int .i64 e2, .int .i64 f1, .int .i64 f2] 37) = Vy at *;rw [zx] at ky;clear zx zy;have x0 := kx.out.cell (i := 0) rfl;have x1 := kx.out.cell (i := 1) rfl;have x2 := kx.out.cell (i := 2) rfl;have x3 := kx.out.cell (i := 3) rfl;have x4 := kx.out.cell (i := 4) rfl;have x5 := kx.out.cell (i := 5) rfl
   go_wp2_with fail
   clear x0 x1 x2 x3 x4 x5
   (((with_reducible refine (R1.out _).mono ?_); rintro e w1 ⟨rfl, hb1⟩); replace HB := Lib.hid (HB.out.trans (hb1.mono HB.out.size)); replace kx := Lib.hid (kx.out.keep hb1); replace ky := Lib.hid (ky.out.keep hb1); clear hb1)
   have y0 := ky.out.cell (i := 0) rfl;have y1 := ky.out.cell (i := 1) rfl;have y2 := ky.out.cell (i := 2) rfl;have y3 := ky.out.cell (i := 3) rfl;have y4 := ky.out.cell (i := 4) rfl;have y5 := ky.out.cell (i := 5) rfl
   go_wp2_with fail
   clear y0 y1 y2 y3 y4 y5
   (((with_reducible refine (R2.out _).mono ?_); rintro e w2 ⟨rfl, hb2⟩); replace HB := Lib.hid (HB.out.trans (hb2.mono HB.out.size)); replace kx := Lib.hid (kx.out.keep hb2); replace ky := Lib.hid (ky.out.keep hb2); clear hb2)
   go_wp2
   go_ret2
   exact ⟨rfl, HB.out⟩
  | true =>
   rw [hd] at R2
   have fin : (mV true (mu a1 a2 b1 b2 c1 c2 d1 d2 e1 e2 f1 f2) == 1) = (!(ptd true a1 a2 b1 b2 c1 c2 (rowOf 2 [d1, d2, e1, e2, f1, f2]) 3) && !(ptd true d1 d2 e1 e2 f1 f2 (rowOf 2 [a1, a2, b1, b2, c1, c2]) 3)) := by
    rw [ptd_on, ptd_on]
    exact min_on (r3_bd a1 a2 b1 b2 c1 c2 d1 d2 e1 e2 f1 f2) (r3_bd d1 d2 e1 e2 f1 f2 a1 a2 b1 b2 c1 c2)
   show Calls _ _ _ _ fun e' w' => e' = .returned (.tuple #[.bool ((mu a1 a2 b1 b2 c1 c2 d1 d2 e1 e2 f1 f2) == 1), .int .i64 0]) ∧ _
   rw [show ((mu a1 a2 b1 b2 c1 c2 d1 d2 e1 e2 f1 f2) == 1) = _ from fin];obtain ⟨v1, hv1⟩ : ∃ v, ptd true a1 a2 b1 b2 c1 c2 (rowOf 2 [d1, d2, e1, e2, f1, f2]) 3 = v := ⟨_, rfl⟩;obtain ⟨v2, hv2⟩ : ∃ v, ptd true d1 d2 e1 e2 f1 f2 (rowOf 2 [a1, a2, b1, b2, c1, c2]) 3 = v := ⟨_, rfl⟩;have P1 := Lib.hid (fun g T W h => rparted_3 true a1 a2 b1 b2 c1 c2 d1 d2 e1 e2 f1 f2 ha hd v1 hv1 g T W h);have P2 := Lib.hid (fun g T W h => rparted_3 true d1 d2 e1 e2 f1 f2 a1 a2 b1 b2 c1 c2 hd ha v2 hv2 g T W h);rw [hv1, hv2];clear fin ha hd hv1 hv2
   cases v1 with
   | true =>
    clear P2
    go_enter Tryz.func42, Tryz.ntmps42
    go_upto_region 1 with fail
    have hbx := below_new1 w (.cells #[.int .i64 a1, .int .i64 a2, .int .i64 b1, .int .i64 b2, .int .i64 c1, .int .i64 c2] 37)
    have zx : (w.alloc (.cells #[.int .i64 a1, .int .i64 a2, .int .i64 b1, .int .i64 b2, .int .i64 c1, .int .i64 c2] 37)).heap.size = w.heap.size + 1 := by simp
    have HB := Lib.hid hbx;have kx := Lib.hid (Lok.new w 37 #[.int .i64 a1, .int .i64 a2, .int .i64 b1, .int .i64 b2, .int .i64 c1, .int .i64 c2]);clear hbx;generalize w.alloc (.cells #[.int .i64 a1, .int .i64 a2, .int .i64 b1, .int .i64 b2, .int .i64 c1, .int .i64 c2] 37) = Vx at *;have hby := below_new1 Vx (.cells #[.int .i64 d1, .int .i64 d2, .int .i64 e1, .int .i64 e2, .int .i64 f1, .int .i64 f2] 37);replace kx := Lib.hid (kx.out.keep hby)
    have zy : (Vx.alloc (.cells #[.int .i64 d1, .int .i64 d2, .int .i64 e1, .int .i64 e2, .int .i64 f1, .int .i64 f2] 37)).heap.size = Vx.heap.size + 1 := by simp
    replace HB := Lib.hid (HB.out.trans (hby.mono HB.out.size));have ky := Lib.hid (Lok.new Vx 37 #[.int .i64 d1, .int .i64 d2, .int .i64 e1, .int .i64 e2, .int .i64 f1, .int .i64 f2]);clear hby;generalize Vx.alloc (.cells #[.int .i64 d1, .int .i64 d2, .int .i64 e1, .int .i64 e2, .int .i64 f1, .int .i64 f2] 37) = Vy at *;rw [zx] at ky;clear zx zy;have x0 := kx.out.cell (i := 0) rfl;have x1 := kx.out.cell (i := 1) rfl;have x2 := kx.out.cell (i := 2) rfl;have x3 := kx.out.cell (i := 3) rfl;have x4 := kx.out.cell (i := 4) rfl;have x5 := kx.out.cell (i := 5) rfl
    go_wp2_with fail
    clear x0 x1 x2 x3 x4 x5
    (((with_reducible refine (R1.out _).mono ?_); rintro e w1 ⟨rfl, hb1⟩); replace HB := Lib.hid (HB.out.trans (hb1.mono HB.out.size)); replace kx := Lib.hid (kx.out.keep hb1); replace ky := Lib.hid (ky.out.keep hb1); clear hb1)
    have y0 := ky.out.cell (i := 0) rfl;have y1 := ky.out.cell (i := 1) rfl;have y2 := ky.out.cell (i := 2) rfl;have y3 := ky.out.cell (i := 3) rfl;have y4 := ky.out.cell (i := 4) rfl;have y5 := ky.out.cell (i := 5) rfl
    go_wp2_with fail
    clear y0 y1 y2 y3 y4 y5
    (((with_reducible refine (R2.out _).mono ?_); rintro e w2 ⟨rfl, hb2⟩); replace HB := Lib.hid (HB.out.trans (hb2.mono HB.out.size)); replace kx := Lib.hid (kx.out.keep hb2); replace ky := Lib.hid (ky.out.keep hb2); clear hb2)
    have x0 := kx.out.cell (i := 0) rfl;have x1 := kx.out.cell (i := 1) rfl;have x2 := kx.out.cell (i := 2) rfl;have x3 := kx.out.cell (i := 3) rfl;have x4 := kx.out.cell (i := 4) rfl;have x5 := kx.out.cell (i := 5) rfl;have y0 := ky.out.cell (i := 0) rfl;have y1 := ky.out.cell (i := 1) rfl;have y2 := ky.out.cell (i := 2) rfl;have y3 := ky.out.cell (i := 3) rfl;have y4 := ky.out.cell (i := 4) rfl;have y5 := ky.out.cell (i := 5) rfl
    go_wp2_with fail
    have hbp := below_new1 w2 (.cells #[.int .i64 d1, .int .i64 d2, .int .i64 e1, .int .i64 e2, .int .i64 f1, .int .i64 f2] 36);replace kx := Lib.hid (kx.out.keep hbp);replace ky := Lib.hid (ky.out.keep hbp)
    have zp : (w2.alloc (.cells #[.int .i64 d1, .int .i64 d2, .int .i64 e1, .int .i64 e2, .int .i64 f1, .int .i64 f2] 36)).heap.size = w2.heap.size + 1 := by simp
    replace HB := Lib.hid (HB.out.trans (hbp.mono HB.out.size));have kp := Lib.hid (Lok.new w2 36 #[.int .i64 d1, .int .i64 d2, .int .i64 e1, .int .i64 e2, .int .i64 f1, .int .i64 f2]);clear hbp;generalize w2.alloc (.cells #[.int .i64 d1, .int .i64 d2, .int .i64 e1, .int .i64 e2, .int .i64 f1, .int .i64 f2] 36) = Vp at *;clear zp;clear x0 x1 x2 x3 x4 x5 y0 y1 y2 y3 y4 y5
    (((with_reducible refine (P1.out _ _ _ kp.out).mono ?_); rintro e w3 ⟨rfl, hb3⟩); replace HB := Lib.hid (HB.out.trans (hb3.mono HB.out.size)); replace kx := Lib.hid (kx.out.keep hb3); replace ky := Lib.hid (ky.out.keep hb3); clear hb3)
    clear kp
    go_wp2
    go_ret2
    exact ⟨rfl, HB.out⟩
   | false =>
    go_enter Tryz.func42, Tryz.ntmps42
    go_upto_region 1 with fail
    have hbx := below_new1 w (.cells #[.int .i64 a1, .int .i64 a2, .int .i64 b1, .int .i64 b2, .int .i64 c1, .int .i64 c2] 37)
    have zx : (w.alloc (.cells #[.int .i64 a1, .int .i64 a2, .int .i64 b1, .int .i64 b2, .int .i64 c1, .int .i64 c2] 37)).heap.size = w.heap.size + 1 := by simp
    have HB := Lib.hid hbx;have kx := Lib.hid (Lok.new w 37 #[.int .i64 a1, .int .i64 a2, .int .i64 b1, .int .i64 b2, .int .i64 c1, .int .i64 c2]);clear hbx;generalize w.alloc (.cells #[.int .i64 a1, .int .i64 a2, .int .i64 b1, .int .i64 b2, .int .i64 c1, .int .i64 c2] 37) = Vx at *;have hby := below_new1 Vx (.cells #[.int .i64 d1, .int .i64 d2, .int .i64 e1, .int .i64 e2, .int .i64 f1, .int .i64 f2] 37);replace kx := Lib.hid (kx.out.keep hby)
    have zy : (Vx.alloc (.cells #[.int .i64 d1, .int .i64 d2, .int .i64 e1, .int .i64 e2, .int .i64 f1, .int .i64 f2] 37)).heap.size = Vx.heap.size + 1 := by simp
    replace HB := Lib.hid (HB.out.trans (hby.mono HB.out.size));have ky := Lib.hid (Lok.new Vx 37 #[.int .i64 d1, .int .i64 d2, .int .i64 e1, .int .i64 e2, .int .i64 f1, .int .i64 f2]);clear hby;generalize Vx.alloc (.cells #[.int .i64 d1, .int .i64 d2, .int .i64 e1, .int .i64 e2, .int .i64 f1, .int .i64 f2] 37) = Vy at *;rw [zx] at ky;clear zx zy;have x0 := kx.out.cell (i := 0) rfl;have x1 := kx.out.cell (i := 1) rfl;have x2 := kx.out.cell (i := 2) rfl;have x3 := kx.out.cell (i := 3) rfl;have x4 := kx.out.cell (i := 4) rfl;have x5 := kx.out.cell (i := 5) rfl
    go_wp2_with fail
    clear x0 x1 x2 x3 x4 x5
    (((with_reducible refine (R1.out _).mono ?_); rintro e w1 ⟨rfl, hb1⟩); replace HB := Lib.hid (HB.out.trans (hb1.mono HB.out.size)); replace kx := Lib.hid (kx.out.keep hb1); replace ky := Lib.hid (ky.out.keep hb1); clear hb1)
    have y0 := ky.out.cell (i := 0) rfl;have y1 := ky.out.cell (i := 1) rfl;have y2 := ky.out.cell (i := 2) rfl;have y3 := ky.out.cell (i := 3) rfl;have y4 := ky.out.cell (i := 4) rfl;have y5 := ky.out.cell (i := 5) rfl
    go_wp2_with fail
    clear y0 y1 y2 y3 y4 y5
    (((with_reducible refine (R2.out _).mono ?_); rintro e w2 ⟨rfl, hb2⟩); replace HB := Lib.hid (HB.out.trans (hb2.mono HB.out.size)); replace kx := Lib.hid (kx.out.keep hb2); replace ky := Lib.hid (ky.out.keep hb2); clear hb2)
    have x0 := kx.out.cell (i := 0) rfl;have x1 := kx.out.cell (i := 1) rfl;have x2 := kx.out.cell (i := 2) rfl;have x3 := kx.out.cell (i := 3) rfl;have x4 := kx.out.cell (i := 4) rfl;have x5 := kx.out.cell (i := 5) rfl;have y0 := ky.out.cell (i := 0) rfl;have y1 := ky.out.cell (i := 1) rfl;have y2 := ky.out.cell (i := 2) rfl;have y3 := ky.out.cell (i := 3) rfl;have y4 := ky.out.cell (i := 4) rfl;have y5 := ky.out.cell (i := 5) rfl
    go_wp2_with fail
    have hbp := below_new1 w2 (.cells #[.int .i64 d1, .int .i64 d2, .int .i64 e1, .int .i64 e2, .int .i64 f1, .int .i64 f2] 36);replace kx := Lib.hid (kx.out.keep hbp);replace ky := Lib.hid (ky.out.keep hbp)
    have zp : (w2.alloc (.cells #[.int .i64 d1, .int .i64 d2, .int .i64 e1, .int .i64 e2, .int .i64 f1, .int .i64 f2] 36)).heap.size = w2.heap.size + 1 := by simp
    replace HB := Lib.hid (HB.out.trans (hbp.mono HB.out.size));have kp := Lib.hid (Lok.new w2 36 #[.int .i64 d1, .int .i64 d2, .int .i64 e1, .int .i64 e2, .int .i64 f1, .int .i64 f2]);clear hbp;generalize w2.alloc (.cells #[.int .i64 d1, .int .i64 d2, .int .i64 e1, .int .i64 e2, .int .i64 f1, .int .i64 f2] 36) = Vp at *;clear zp;clear x0 x1 x2 x3 x4 x5 y0 y1 y2 y3 y4 y5
    (((with_reducible refine (P1.out _ _ _ kp.out).mono ?_); rintro e w3 ⟨rfl, hb3⟩); replace HB := Lib.hid (HB.out.trans (hb3.mono HB.out.size)); replace kx := Lib.hid (kx.out.keep hb3); replace ky := Lib.hid (ky.out.keep hb3); clear hb3)
    clear kp;have x0 := kx.out.cell (i := 0) rfl;have x1 := kx.out.cell (i := 1) rfl;have x2 := kx.out.cell (i := 2) rfl;have x3 := kx.out.cell (i := 3) rfl;have x4 := kx.out.cell (i := 4) rfl;have x5 := kx.out.cell (i := 5) rfl;have y0 := ky.out.cell (i := 0) rfl;have y1 := ky.out.cell (i := 1) rfl;have y2 := ky.out.cell (i := 2) rfl;have y3 := ky.out.cell (i := 3) rfl;have y4 := ky.out.cell (i := 4) rfl;have y5 := ky.out.cell (i := 5) rfl
    go_wp2_with fail
    have hbq := below_new1 w3 (.cells #[.int .i64 a1, .int .i64 a2, .int .i64 b1, .int .i64 b2, .int .i64 c1, .int .i64 c2] 36);replace kx := Lib.hid (kx.out.keep hbq);replace ky := Lib.hid (ky.out.keep hbq)
    have zq : (w3.alloc (.cells #[.int .i64 a1, .int .i64 a2, .int .i64 b1, .int .i64 b2, .int .i64 c1, .int .i64 c2] 36)).heap.size = w3.heap.size + 1 := by simp
    replace HB := Lib.hid (HB.out.trans (hbq.mono HB.out.size));have kq := Lib.hid (Lok.new w3 36 #[.int .i64 a1, .int .i64 a2, .int .i64 b1, .int .i64 b2, .int .i64 c1, .int .i64 c2]);clear hbq;generalize w3.alloc (.cells #[.int .i64 a1, .int .i64 a2, .int .i64 b1, .int .i64 b2, .int .i64 c1, .int .i64 c2] 36) = Vq at *;clear zq;clear x0 x1 x2 x3 x4 x5 y0 y1 y2 y3 y4 y5
    (((with_reducible refine (P2.out _ _ _ kq.out).mono ?_); rintro e w4 ⟨rfl, hb4⟩); replace HB := Lib.hid (HB.out.trans (hb4.mono HB.out.size)); clear hb4)
    clear kq
    go_wp2
    go_ret2
    exact ⟨rfl, HB.out⟩
end Go.Proofs.YtcnbbanpnoigdaaGreat
