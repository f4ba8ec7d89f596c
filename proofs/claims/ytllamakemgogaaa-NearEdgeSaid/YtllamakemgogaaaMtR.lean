/-
  The reference limewashref10: Right, sides, greatest, parted, In. (gen/MtR.py)
-/
import Derived.Test.YtllamakemgogaaaSgR
import Derived.Test.YtllamakemgogaaaMtF
namespace Go.Proofs.Ytllamakemgogaaa
open Go.RowKit

set_option maxRecDepth 100000 in
set_option maxHeartbeats 4000000 in
theorem rright_any (a1 a2 b1 b2 c1 c2 : Int) (w : World) :
    Calls Try.prog 50 #[.agg #[.int .i64 a1, .int .i64 a2, .int .i64 b1, .int .i64 b2, .int .i64 c1, .int .i64 c2]] w fun e' w' => e' = .returned (.bool (rT a1 a2 b1 b2 c1 c2)) ∧ Below w.heap.size w w' := by
  have HB := Lib.hid (Below.refl w.heap.size w)
  obtain ⟨t, ht⟩ : ∃ t, (s2 a1 a2 && s2 b1 b2 && s2 c1 c2) = t := ⟨_, rfl⟩
  have P := Lib.hid (fun W => rarea_any a1 a2 b1 b2 c1 c2 t ht W)
  cases t with
  | false =>
    rw [vF_no, show rE false = 5 from rfl] at P
    rw [show rT a1 a2 b1 b2 c1 c2 = false from by unfold rT; rw [ht]; rfl]
    clear ht
    go_enter Try.func50, Try.ntmps50
    go_upto_region 1 with fail
    have hbx := below_new1 w (.cells #[.int .i64 a1, .int .i64 a2, .int .i64 b1, .int .i64 b2, .int .i64 c1, .int .i64 c2] 24)
    have zx : (w.alloc (.cells #[.int .i64 a1, .int .i64 a2, .int .i64 b1, .int .i64 b2, .int .i64 c1, .int .i64 c2] 24)).heap.size = w.heap.size + 1 := by simp
    have HB := Lib.hid hbx
    have kx := Lib.hid (Lok.new w 24 #[.int .i64 a1, .int .i64 a2, .int .i64 b1, .int .i64 b2, .int .i64 c1, .int .i64 c2])
    clear hbx
    generalize w.alloc (.cells #[.int .i64 a1, .int .i64 a2, .int .i64 b1, .int .i64 b2, .int .i64 c1, .int .i64 c2] 24) = Vx at *
    clear zx
    have x0 := kx.out.cell (i := 0) rfl
    have x1 := kx.out.cell (i := 1) rfl
    have x2 := kx.out.cell (i := 2) rfl
    have x3 := kx.out.cell (i := 3) rfl
    have x4 := kx.out.cell (i := 4) rfl
    have x5 := kx.out.cell (i := 5) rfl
    go_wp2_with fail
    clear x0 x1 x2 x3 x4 x5
    (((with_reducible refine (P.out _).mono ?_); rintro e w1 ⟨rfl, hb1⟩); replace HB := Lib.hid (HB.out.trans (hb1.mono HB.out.size)); clear hb1)
    go_wp2
    go_ret
    exact ⟨rfl, HB.out⟩
  | true =>
    rw [vF_yes, show rE true = 0 from rfl] at P
    have e : rT a1 a2 b1 b2 c1 c2 = (ar a1 a2 b1 b2 c1 c2 != 0) := by unfold rT; rw [ht, Bool.true_and]
    rw [e]
    generalize ar a1 a2 b1 b2 c1 c2 = n at *
    clear ht e
    go_enter Try.func50, Try.ntmps50
    go_upto_region 1 with fail
    have hbx := below_new1 w (.cells #[.int .i64 a1, .int .i64 a2, .int .i64 b1, .int .i64 b2, .int .i64 c1, .int .i64 c2] 24)
    have zx : (w.alloc (.cells #[.int .i64 a1, .int .i64 a2, .int .i64 b1, .int .i64 b2, .int .i64 c1, .int .i64 c2] 24)).heap.size = w.heap.size + 1 := by simp
    have HB := Lib.hid hbx
    have kx := Lib.hid (Lok.new w 24 #[.int .i64 a1, .int .i64 a2, .int .i64 b1, .int .i64 b2, .int .i64 c1, .int .i64 c2])
    clear hbx
    generalize w.alloc (.cells #[.int .i64 a1, .int .i64 a2, .int .i64 b1, .int .i64 b2, .int .i64 c1, .int .i64 c2] 24) = Vx at *
    clear zx
    have x0 := kx.out.cell (i := 0) rfl
    have x1 := kx.out.cell (i := 1) rfl
    have x2 := kx.out.cell (i := 2) rfl
    have x3 := kx.out.cell (i := 3) rfl
    have x4 := kx.out.cell (i := 4) rfl
    have x5 := kx.out.cell (i := 5) rfl
    go_wp2_with fail
    clear x0 x1 x2 x3 x4 x5
    (((with_reducible refine (P.out _).mono ?_); rintro e w1 ⟨rfl, hb1⟩); replace HB := Lib.hid (HB.out.trans (hb1.mono HB.out.size)); clear hb1)
    go_wp2
    go_ret
    exact ⟨rfl, HB.out⟩
set_option maxRecDepth 100000 in
set_option maxHeartbeats 4000000 in
theorem rsides_any (p1 p2 q1 q2 r1 r2 x y : Int) (k : Nat) (hk : k < 3) (hs : (s2 p1 p2 && s2 q1 q2 && s2 r1 r2) = true) (hp : s2 x y = true) (w : World) :
    Calls Try.prog 51 #[.agg #[.int .i64 p1, .int .i64 p2, .int .i64 q1, .int .i64 q2, .int .i64 r1, .int .i64 r2], .int .i64 (k : Int), .agg #[.int .i64 x, .int .i64 y]] w fun e' w' => e' = .returned (.int .i64 (eS (c3 p1 q1 r1 k) (c3 p2 q2 r2 k) (c3 q1 r1 p1 k) (c3 q2 r2 p2 k) (c3 r1 p1 q1 k) (c3 r2 p2 q2 k) x y)) ∧ Below w.heap.size w w' := by
  have HB := Lib.hid (Below.refl w.heap.size w)
  obtain ⟨h1, h2, h3⟩ := small_of3 hs
  clear hs
  rcases (show k = 0 ∨ k = 1 ∨ k = 2 by omega) with rfl | rfl | rfl
  · have S1 := Lib.hid (fun W => rsideOf_any p1 p2 q1 q2 r1 r2 true (by rw [h1, h2, h3]; rfl) W)
    have S2 := Lib.hid (fun W => rsideOf_any p1 p2 q1 q2 x y true (by rw [h1, h2, hp]; rfl) W)
    rw [vF_yes, show rE true = 0 from rfl] at S1 S2
    show Calls _ _ _ _ fun e' w' => e' = .returned (.int .i64 (eS p1 p2 q1 q2 r1 r2 x y)) ∧ _
    unfold eS
    have b1 := ord_bd (ar p1 p2 q1 q2 r1 r2) 0
    have b2 := ord_bd (ar p1 p2 q1 q2 x y) 0
    rw [Int.mul_comm]
    generalize ordI (ar p1 p2 q1 q2 r1 r2) 0 = n1 at *
    generalize ordI (ar p1 p2 q1 q2 x y) 0 = n2 at *
    have wm : IntKind.i64.wrap (n1 * n2) = n1 * n2 := IntWalk.i64_in _ (by have := unit_mul b1 b2; omega)
    clear h1 h2 h3 hp b1 b2 hk
    go_enter Try.func51, Try.ntmps51
    go_upto_region 1 with fail
    have hbt := below_new1 w (.cells #[.int .i64 p1, .int .i64 p2, .int .i64 q1, .int .i64 q2, .int .i64 r1, .int .i64 r2] 24)
    have zt : (w.alloc (.cells #[.int .i64 p1, .int .i64 p2, .int .i64 q1, .int .i64 q2, .int .i64 r1, .int .i64 r2] 24)).heap.size = w.heap.size + 1 := by simp
    have HB := Lib.hid hbt
    have kt := Lib.hid (Lok.new w 24 #[.int .i64 p1, .int .i64 p2, .int .i64 q1, .int .i64 q2, .int .i64 r1, .int .i64 r2])
    clear hbt
    generalize w.alloc (.cells #[.int .i64 p1, .int .i64 p2, .int .i64 q1, .int .i64 q2, .int .i64 r1, .int .i64 r2] 24) = Vt at *
    have hbz := below_new1 Vt (.cells #[.int .i64 x, .int .i64 y] 23)
    replace kt := Lib.hid (kt.out.keep hbz)
    have zz : (Vt.alloc (.cells #[.int .i64 x, .int .i64 y] 23)).heap.size = Vt.heap.size + 1 := by simp
    replace HB := Lib.hid (HB.out.trans (hbz.mono HB.out.size))
    have kz := Lib.hid (Lok.new Vt 23 #[.int .i64 x, .int .i64 y])
    clear hbz
    generalize Vt.alloc (.cells #[.int .i64 x, .int .i64 y] 23) = Vz at *
    rw [zt] at kz
    clear zt zz
    have qt0 : ∀ D : Of (PastV Vz), _ := fun D => (kt.out.keep (show Below Vz.heap.size Vz D.world from D.holds)).cell (i := 0) rfl
    have qt1 : ∀ D : Of (PastV Vz), _ := fun D => (kt.out.keep (show Below Vz.heap.size Vz D.world from D.holds)).cell (i := 1) rfl
    have qt2 : ∀ D : Of (PastV Vz), _ := fun D => (kt.out.keep (show Below Vz.heap.size Vz D.world from D.holds)).cell (i := 2) rfl
    have qt3 : ∀ D : Of (PastV Vz), _ := fun D => (kt.out.keep (show Below Vz.heap.size Vz D.world from D.holds)).cell (i := 3) rfl
    have qt4 : ∀ D : Of (PastV Vz), _ := fun D => (kt.out.keep (show Below Vz.heap.size Vz D.world from D.holds)).cell (i := 4) rfl
    have qt5 : ∀ D : Of (PastV Vz), _ := fun D => (kt.out.keep (show Below Vz.heap.size Vz D.world from D.holds)).cell (i := 5) rfl
    have ST := Lib.hid (pastV_stays Vz)
    have ne : Nonempty (Of (PastV Vz)) := ⟨⟨Vz, Below.refl _ _⟩⟩
    refine wp_region_class (S := PastV Vz) (by kernel_rfl) (by kernel_rfl) (Below.refl _ _).drew ?_
    repeat (go_big_quiet_step (first | (go_at_call 67; first | (with_reducible exact class_call ST.out _ (S1.out _)))))
    refine wpQuiet_nil ?_
    rintro _ ⟨D, rfl⟩
    have hD : Below Vz.heap.size Vz D.world := D.holds
    replace HB := Lib.hid (HB.out.trans (hD.mono HB.out.size))
    replace kt := Lib.hid (kt.out.keep hD)
    replace kz := Lib.hid (kz.out.keep hD)
    generalize D.world = v1 at *
    clear qt0 qt1 qt2 qt3 qt4 qt5 ne ST hD
    go_upto_region 2 with fail
    have qt0 : ∀ D : Of (PastV v1), _ := fun D => (kt.out.keep (show Below v1.heap.size v1 D.world from D.holds)).cell (i := 0) rfl
    have qt1 : ∀ D : Of (PastV v1), _ := fun D => (kt.out.keep (show Below v1.heap.size v1 D.world from D.holds)).cell (i := 1) rfl
    have qt2 : ∀ D : Of (PastV v1), _ := fun D => (kt.out.keep (show Below v1.heap.size v1 D.world from D.holds)).cell (i := 2) rfl
    have qt3 : ∀ D : Of (PastV v1), _ := fun D => (kt.out.keep (show Below v1.heap.size v1 D.world from D.holds)).cell (i := 3) rfl
    have qt4 : ∀ D : Of (PastV v1), _ := fun D => (kt.out.keep (show Below v1.heap.size v1 D.world from D.holds)).cell (i := 4) rfl
    have qt5 : ∀ D : Of (PastV v1), _ := fun D => (kt.out.keep (show Below v1.heap.size v1 D.world from D.holds)).cell (i := 5) rfl
    have qz0 : ∀ D : Of (PastV v1), _ := fun D => (kz.out.keep (show Below v1.heap.size v1 D.world from D.holds)).cell (i := 0) rfl
    have qz1 : ∀ D : Of (PastV v1), _ := fun D => (kz.out.keep (show Below v1.heap.size v1 D.world from D.holds)).cell (i := 1) rfl
    have ST := Lib.hid (pastV_stays v1)
    have ne : Nonempty (Of (PastV v1)) := ⟨⟨v1, Below.refl _ _⟩⟩
    refine wp_region_class (S := PastV v1) (by kernel_rfl) (by kernel_rfl) (Below.refl _ _).drew ?_
    repeat (go_big_quiet_step (first | (go_at_call 67; first | (with_reducible exact class_call ST.out _ (S2.out _)))))
    refine wpQuiet_nil ?_
    rintro _ ⟨D, rfl⟩
    have hD : Below v1.heap.size v1 D.world := D.holds
    replace HB := Lib.hid (HB.out.trans (hD.mono HB.out.size))
    replace kt := Lib.hid (kt.out.keep hD)
    replace kz := Lib.hid (kz.out.keep hD)
    generalize D.world = v2 at *
    clear qt0 qt1 qt2 qt3 qt4 qt5 qz0 qz1 ne ST hD
    go_wp2
    go_ret
    exact ⟨rfl, HB.out⟩
  · have S1 := Lib.hid (fun W => rsideOf_any q1 q2 r1 r2 p1 p2 true (by rw [h2, h3, h1]; rfl) W)
    have S2 := Lib.hid (fun W => rsideOf_any q1 q2 r1 r2 x y true (by rw [h2, h3, hp]; rfl) W)
    rw [vF_yes, show rE true = 0 from rfl] at S1 S2
    show Calls _ _ _ _ fun e' w' => e' = .returned (.int .i64 (eS q1 q2 r1 r2 p1 p2 x y)) ∧ _
    unfold eS
    have b1 := ord_bd (ar q1 q2 r1 r2 p1 p2) 0
    have b2 := ord_bd (ar q1 q2 r1 r2 x y) 0
    rw [Int.mul_comm]
    generalize ordI (ar q1 q2 r1 r2 p1 p2) 0 = n1 at *
    generalize ordI (ar q1 q2 r1 r2 x y) 0 = n2 at *
    have wm : IntKind.i64.wrap (n1 * n2) = n1 * n2 := IntWalk.i64_in _ (by have := unit_mul b1 b2; omega)
    clear h1 h2 h3 hp b1 b2 hk
    go_enter Try.func51, Try.ntmps51
    go_upto_region 1 with fail
    have hbt := below_new1 w (.cells #[.int .i64 p1, .int .i64 p2, .int .i64 q1, .int .i64 q2, .int .i64 r1, .int .i64 r2] 24)
    have zt : (w.alloc (.cells #[.int .i64 p1, .int .i64 p2, .int .i64 q1, .int .i64 q2, .int .i64 r1, .int .i64 r2] 24)).heap.size = w.heap.size + 1 := by simp
    have HB := Lib.hid hbt
    have kt := Lib.hid (Lok.new w 24 #[.int .i64 p1, .int .i64 p2, .int .i64 q1, .int .i64 q2, .int .i64 r1, .int .i64 r2])
    clear hbt
    generalize w.alloc (.cells #[.int .i64 p1, .int .i64 p2, .int .i64 q1, .int .i64 q2, .int .i64 r1, .int .i64 r2] 24) = Vt at *
    have hbz := below_new1 Vt (.cells #[.int .i64 x, .int .i64 y] 23)
    replace kt := Lib.hid (kt.out.keep hbz)
    have zz : (Vt.alloc (.cells #[.int .i64 x, .int .i64 y] 23)).heap.size = Vt.heap.size + 1 := by simp
    replace HB := Lib.hid (HB.out.trans (hbz.mono HB.out.size))
    have kz := Lib.hid (Lok.new Vt 23 #[.int .i64 x, .int .i64 y])
    clear hbz
    generalize Vt.alloc (.cells #[.int .i64 x, .int .i64 y] 23) = Vz at *
    rw [zt] at kz
    clear zt zz
    have qt0 : ∀ D : Of (PastV Vz), _ := fun D => (kt.out.keep (show Below Vz.heap.size Vz D.world from D.holds)).cell (i := 0) rfl
    have qt1 : ∀ D : Of (PastV Vz), _ := fun D => (kt.out.keep (show Below Vz.heap.size Vz D.world from D.holds)).cell (i := 1) rfl
    have qt2 : ∀ D : Of (PastV Vz), _ := fun D => (kt.out.keep (show Below Vz.heap.size Vz D.world from D.holds)).cell (i := 2) rfl
    have qt3 : ∀ D : Of (PastV Vz), _ := fun D => (kt.out.keep (show Below Vz.heap.size Vz D.world from D.holds)).cell (i := 3) rfl
    have qt4 : ∀ D : Of (PastV Vz), _ := fun D => (kt.out.keep (show Below Vz.heap.size Vz D.world from D.holds)).cell (i := 4) rfl
    have qt5 : ∀ D : Of (PastV Vz), _ := fun D => (kt.out.keep (show Below Vz.heap.size Vz D.world from D.holds)).cell (i := 5) rfl
    have ST := Lib.hid (pastV_stays Vz)
    have ne : Nonempty (Of (PastV Vz)) := ⟨⟨Vz, Below.refl _ _⟩⟩
    refine wp_region_class (S := PastV Vz) (by kernel_rfl) (by kernel_rfl) (Below.refl _ _).drew ?_
    repeat (go_big_quiet_step (first | (go_at_call 67; first | (with_reducible exact class_call ST.out _ (S1.out _)))))
    refine wpQuiet_nil ?_
    rintro _ ⟨D, rfl⟩
    have hD : Below Vz.heap.size Vz D.world := D.holds
    replace HB := Lib.hid (HB.out.trans (hD.mono HB.out.size))
    replace kt := Lib.hid (kt.out.keep hD)
    replace kz := Lib.hid (kz.out.keep hD)
    generalize D.world = v1 at *
    clear qt0 qt1 qt2 qt3 qt4 qt5 ne ST hD
    go_upto_region 2 with fail
    have qt0 : ∀ D : Of (PastV v1), _ := fun D => (kt.out.keep (show Below v1.heap.size v1 D.world from D.holds)).cell (i := 0) rfl
    have qt1 : ∀ D : Of (PastV v1), _ := fun D => (kt.out.keep (show Below v1.heap.size v1 D.world from D.holds)).cell (i := 1) rfl
    have qt2 : ∀ D : Of (PastV v1), _ := fun D => (kt.out.keep (show Below v1.heap.size v1 D.world from D.holds)).cell (i := 2) rfl
    have qt3 : ∀ D : Of (PastV v1), _ := fun D => (kt.out.keep (show Below v1.heap.size v1 D.world from D.holds)).cell (i := 3) rfl
    have qt4 : ∀ D : Of (PastV v1), _ := fun D => (kt.out.keep (show Below v1.heap.size v1 D.world from D.holds)).cell (i := 4) rfl
    have qt5 : ∀ D : Of (PastV v1), _ := fun D => (kt.out.keep (show Below v1.heap.size v1 D.world from D.holds)).cell (i := 5) rfl
    have qz0 : ∀ D : Of (PastV v1), _ := fun D => (kz.out.keep (show Below v1.heap.size v1 D.world from D.holds)).cell (i := 0) rfl
    have qz1 : ∀ D : Of (PastV v1), _ := fun D => (kz.out.keep (show Below v1.heap.size v1 D.world from D.holds)).cell (i := 1) rfl
    have ST := Lib.hid (pastV_stays v1)
    have ne : Nonempty (Of (PastV v1)) := ⟨⟨v1, Below.refl _ _⟩⟩
    refine wp_region_class (S := PastV v1) (by kernel_rfl) (by kernel_rfl) (Below.refl _ _).drew ?_
    repeat (go_big_quiet_step (first | (go_at_call 67; first | (with_reducible exact class_call ST.out _ (S2.out _)))))
    refine wpQuiet_nil ?_
    rintro _ ⟨D, rfl⟩
    have hD : Below v1.heap.size v1 D.world := D.holds
    replace HB := Lib.hid (HB.out.trans (hD.mono HB.out.size))
    replace kt := Lib.hid (kt.out.keep hD)
    replace kz := Lib.hid (kz.out.keep hD)
    generalize D.world = v2 at *
    clear qt0 qt1 qt2 qt3 qt4 qt5 qz0 qz1 ne ST hD
    go_wp2
    go_ret
    exact ⟨rfl, HB.out⟩
  · have S1 := Lib.hid (fun W => rsideOf_any r1 r2 p1 p2 q1 q2 true (by rw [h3, h1, h2]; rfl) W)
    have S2 := Lib.hid (fun W => rsideOf_any r1 r2 p1 p2 x y true (by rw [h3, h1, hp]; rfl) W)
    rw [vF_yes, show rE true = 0 from rfl] at S1 S2
    show Calls _ _ _ _ fun e' w' => e' = .returned (.int .i64 (eS r1 r2 p1 p2 q1 q2 x y)) ∧ _
    unfold eS
    have b1 := ord_bd (ar r1 r2 p1 p2 q1 q2) 0
    have b2 := ord_bd (ar r1 r2 p1 p2 x y) 0
    rw [Int.mul_comm]
    generalize ordI (ar r1 r2 p1 p2 q1 q2) 0 = n1 at *
    generalize ordI (ar r1 r2 p1 p2 x y) 0 = n2 at *
    have wm : IntKind.i64.wrap (n1 * n2) = n1 * n2 := IntWalk.i64_in _ (by have := unit_mul b1 b2; omega)
    clear h1 h2 h3 hp b1 b2 hk
    go_enter Try.func51, Try.ntmps51
    go_upto_region 1 with fail
    have hbt := below_new1 w (.cells #[.int .i64 p1, .int .i64 p2, .int .i64 q1, .int .i64 q2, .int .i64 r1, .int .i64 r2] 24)
    have zt : (w.alloc (.cells #[.int .i64 p1, .int .i64 p2, .int .i64 q1, .int .i64 q2, .int .i64 r1, .int .i64 r2] 24)).heap.size = w.heap.size + 1 := by simp
    have HB := Lib.hid hbt
    have kt := Lib.hid (Lok.new w 24 #[.int .i64 p1, .int .i64 p2, .int .i64 q1, .int .i64 q2, .int .i64 r1, .int .i64 r2])
    clear hbt
    generalize w.alloc (.cells #[.int .i64 p1, .int .i64 p2, .int .i64 q1, .int .i64 q2, .int .i64 r1, .int .i64 r2] 24) = Vt at *
    have hbz := below_new1 Vt (.cells #[.int .i64 x, .int .i64 y] 23)
    replace kt := Lib.hid (kt.out.keep hbz)
    have zz : (Vt.alloc (.cells #[.int .i64 x, .int .i64 y] 23)).heap.size = Vt.heap.size + 1 := by simp
    replace HB := Lib.hid (HB.out.trans (hbz.mono HB.out.size))
    have kz := Lib.hid (Lok.new Vt 23 #[.int .i64 x, .int .i64 y])
    clear hbz
    generalize Vt.alloc (.cells #[.int .i64 x, .int .i64 y] 23) = Vz at *
    rw [zt] at kz
    clear zt zz
    have qt0 : ∀ D : Of (PastV Vz), _ := fun D => (kt.out.keep (show Below Vz.heap.size Vz D.world from D.holds)).cell (i := 0) rfl
    have qt1 : ∀ D : Of (PastV Vz), _ := fun D => (kt.out.keep (show Below Vz.heap.size Vz D.world from D.holds)).cell (i := 1) rfl
    have qt2 : ∀ D : Of (PastV Vz), _ := fun D => (kt.out.keep (show Below Vz.heap.size Vz D.world from D.holds)).cell (i := 2) rfl
    have qt3 : ∀ D : Of (PastV Vz), _ := fun D => (kt.out.keep (show Below Vz.heap.size Vz D.world from D.holds)).cell (i := 3) rfl
    have qt4 : ∀ D : Of (PastV Vz), _ := fun D => (kt.out.keep (show Below Vz.heap.size Vz D.world from D.holds)).cell (i := 4) rfl
    have qt5 : ∀ D : Of (PastV Vz), _ := fun D => (kt.out.keep (show Below Vz.heap.size Vz D.world from D.holds)).cell (i := 5) rfl
    have ST := Lib.hid (pastV_stays Vz)
    have ne : Nonempty (Of (PastV Vz)) := ⟨⟨Vz, Below.refl _ _⟩⟩
    refine wp_region_class (S := PastV Vz) (by kernel_rfl) (by kernel_rfl) (Below.refl _ _).drew ?_
    repeat (go_big_quiet_step (first | (go_at_call 67; first | (with_reducible exact class_call ST.out _ (S1.out _)))))
    refine wpQuiet_nil ?_
    rintro _ ⟨D, rfl⟩
    have hD : Below Vz.heap.size Vz D.world := D.holds
    replace HB := Lib.hid (HB.out.trans (hD.mono HB.out.size))
    replace kt := Lib.hid (kt.out.keep hD)
    replace kz := Lib.hid (kz.out.keep hD)
    generalize D.world = v1 at *
    clear qt0 qt1 qt2 qt3 qt4 qt5 ne ST hD
    go_upto_region 2 with fail
    have qt0 : ∀ D : Of (PastV v1), _ := fun D => (kt.out.keep (show Below v1.heap.size v1 D.world from D.holds)).cell (i := 0) rfl
    have qt1 : ∀ D : Of (PastV v1), _ := fun D => (kt.out.keep (show Below v1.heap.size v1 D.world from D.holds)).cell (i := 1) rfl
    have qt2 : ∀ D : Of (PastV v1), _ := fun D => (kt.out.keep (show Below v1.heap.size v1 D.world from D.holds)).cell (i := 2) rfl
    have qt3 : ∀ D : Of (PastV v1), _ := fun D => (kt.out.keep (show Below v1.heap.size v1 D.world from D.holds)).cell (i := 3) rfl
    have qt4 : ∀ D : Of (PastV v1), _ := fun D => (kt.out.keep (show Below v1.heap.size v1 D.world from D.holds)).cell (i := 4) rfl
    have qt5 : ∀ D : Of (PastV v1), _ := fun D => (kt.out.keep (show Below v1.heap.size v1 D.world from D.holds)).cell (i := 5) rfl
    have qz0 : ∀ D : Of (PastV v1), _ := fun D => (kz.out.keep (show Below v1.heap.size v1 D.world from D.holds)).cell (i := 0) rfl
    have qz1 : ∀ D : Of (PastV v1), _ := fun D => (kz.out.keep (show Below v1.heap.size v1 D.world from D.holds)).cell (i := 1) rfl
    have ST := Lib.hid (pastV_stays v1)
    have ne : Nonempty (Of (PastV v1)) := ⟨⟨v1, Below.refl _ _⟩⟩
    refine wp_region_class (S := PastV v1) (by kernel_rfl) (by kernel_rfl) (Below.refl _ _).drew ?_
    repeat (go_big_quiet_step (first | (go_at_call 67; first | (with_reducible exact class_call ST.out _ (S2.out _)))))
    refine wpQuiet_nil ?_
    rintro _ ⟨D, rfl⟩
    have hD : Below v1.heap.size v1 D.world := D.holds
    replace HB := Lib.hid (HB.out.trans (hD.mono HB.out.size))
    replace kt := Lib.hid (kt.out.keep hD)
    replace kz := Lib.hid (kz.out.keep hD)
    generalize D.world = v2 at *
    clear qt0 qt1 qt2 qt3 qt4 qt5 qz0 qz1 ne ST hD
    go_wp2
    go_ret
    exact ⟨rfl, HB.out⟩
end Go.Proofs.Ytllamakemgogaaa
