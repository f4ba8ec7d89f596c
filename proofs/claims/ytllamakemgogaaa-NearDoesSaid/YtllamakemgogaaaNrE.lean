/-
  Contracts of package near: the closure that takes the lesser square, nearest. (gen/NrE.py)
-/
import Derived.Test.YtllamakemgogaaaNrC
namespace Go.Proofs.Ytllamakemgogaaa
open Go.RowKit

/-- Of three the one whose square is the least, the first of these. -/
def sel (n0 d0 n1 d1 n2 d2 p q r : Int) : Int := l2 (cmpF n2 d2 (l2 (cmpF n1 d1 n0 d0) n0 n1) (l2 (cmpF n1 d1 n0 d0) d0 d1)) (l2 (cmpF n1 d1 n0 d0) p q) r
def nrS (x y a1 a2 b1 b2 c1 c2 : Int) (f : Int → Int → Int → Int → Int → Int → Int) : Int :=
  sel (fN x y a1 a2 b1 b2) (fD x y a1 a2 b1 b2) (fN x y b1 b2 c1 c2) (fD x y b1 b2 c1 c2) (fN x y c1 c2 a1 a2) (fD x y c1 c2 a1 a2) (f x y a1 a2 b1 b2) (f x y b1 b2 c1 c2) (f x y c1 c2 a1 a2)
set_option maxRecDepth 100000 in
set_option maxHeartbeats 4000000 in
theorem take_no (u1 u2 k m e n d p1 p2 : Int) (hc : ¬ cmpF m e n d < 0) (ga gb B : Nat) (w : World) (ha : Lok w ga 29 #[.int .i64 n, .int .i64 d]) (hb : Lok w gb 23 #[.int .i64 p1, .int .i64 p2]) (_hne : ga ≠ gb) (hBa : B ≤ ga) (_hBb : B ≤ gb) :
    Calls Try.prog 49 #[.agg #[.int .i64 u1, .int .i64 u2], .int .i64 k, .agg #[.int .i64 m, .int .i64 e], .pointer (some ⟨ga, 0, none⟩), .pointer (some ⟨gb, 0, none⟩)] w fun e' w' => e' = .returned (.tuple #[]) ∧ Below B w w' ∧ Lok w' ga 29 #[.int .i64 n, .int .i64 d] ∧ Lok w' gb 23 #[.int .i64 p1, .int .i64 p2] := by
  have HB := Lib.hid (Below.refl w.heap.size w)
  have ka := Lib.hid ha
  have kb := Lib.hid hb
  have la := ha.lt
  have lb := hb.lt
  have F := Lib.hid (fun W => fcmp_any m e n d W)
  generalize cmpF m e n d = c at *
  clear ha hb
  go_enter Try.func49, Try.ntmps49
  go_upto_region 1 with fail
  have hbu := below_new1 w (.cells #[.int .i64 u1, .int .i64 u2] 23)
  replace ka := Lib.hid (ka.out.keep hbu)
  replace kb := Lib.hid (kb.out.keep hbu)
  have zu : (w.alloc (.cells #[.int .i64 u1, .int .i64 u2] 23)).heap.size = w.heap.size + 1 := by simp
  have HB := Lib.hid hbu
  have ku := Lib.hid (Lok.new w 23 #[.int .i64 u1, .int .i64 u2])
  clear hbu
  generalize w.alloc (.cells #[.int .i64 u1, .int .i64 u2] 23) = Vu at *
  have hbm := below_new1 Vu (.cells #[.int .i64 m, .int .i64 e] 29)
  replace ku := Lib.hid (ku.out.keep hbm)
  replace ka := Lib.hid (ka.out.keep hbm)
  replace kb := Lib.hid (kb.out.keep hbm)
  have zm : (Vu.alloc (.cells #[.int .i64 m, .int .i64 e] 29)).heap.size = Vu.heap.size + 1 := by simp
  replace HB := Lib.hid (HB.out.trans (hbm.mono HB.out.size))
  have km := Lib.hid (Lok.new Vu 29 #[.int .i64 m, .int .i64 e])
  clear hbm
  generalize Vu.alloc (.cells #[.int .i64 m, .int .i64 e] 29) = Vm at *
  rw [zu] at km
  clear zu zm
  have m0 := km.out.cell (i := 0) rfl
  have m1 := km.out.cell (i := 1) rfl
  have a0 := ka.out.cell (i := 0) rfl
  have a1 := ka.out.cell (i := 1) rfl
  go_wp2_with fail
  clear m0 m1 a0 a1
  (((with_reducible refine (F.out _).mono ?_); rintro e w1 ⟨rfl, hb1⟩); replace HB := Lib.hid (HB.out.trans (hb1.mono HB.out.size)); replace ku := Lib.hid (ku.out.keep hb1); replace km := Lib.hid (km.out.keep hb1); replace ka := Lib.hid (ka.out.keep hb1); replace kb := Lib.hid (kb.out.keep hb1); clear hb1)
  go_wp2_with fail
  exact bodyPost_end (v := .tuple #[]) (by simp [results, Try.results49, go_sem]) rfl ⟨rfl, HB.out.mono (by omega), ka.out, kb.out⟩
set_option maxRecDepth 100000 in
set_option maxHeartbeats 4000000 in
theorem take_yes (u1 u2 k m e n d p1 p2 : Int) (hc : cmpF m e n d < 0) (ga gb B : Nat) (w : World) (ha : Lok w ga 29 #[.int .i64 n, .int .i64 d]) (hb : Lok w gb 23 #[.int .i64 p1, .int .i64 p2]) (hne : ga ≠ gb) (hBa : B ≤ ga) (hBb : B ≤ gb) :
    Calls Try.prog 49 #[.agg #[.int .i64 u1, .int .i64 u2], .int .i64 k, .agg #[.int .i64 m, .int .i64 e], .pointer (some ⟨ga, 0, none⟩), .pointer (some ⟨gb, 0, none⟩)] w fun e' w' => e' = .returned (.tuple #[]) ∧ Below B w w' ∧ Lok w' ga 29 #[.int .i64 m, .int .i64 e] ∧ Lok w' gb 23 #[.int .i64 u1, .int .i64 u2] := by
  have HB := Lib.hid (Below.refl w.heap.size w)
  have ka := Lib.hid ha
  have kb := Lib.hid hb
  have la := ha.lt
  have lb := hb.lt
  have F := Lib.hid (fun W => fcmp_any m e n d W)
  generalize cmpF m e n d = c at *
  clear ha hb
  go_enter Try.func49, Try.ntmps49
  go_upto_region 1 with fail
  have hbu := below_new1 w (.cells #[.int .i64 u1, .int .i64 u2] 23)
  replace ka := Lib.hid (ka.out.keep hbu)
  replace kb := Lib.hid (kb.out.keep hbu)
  have zu : (w.alloc (.cells #[.int .i64 u1, .int .i64 u2] 23)).heap.size = w.heap.size + 1 := by simp
  have HB := Lib.hid hbu
  have ku := Lib.hid (Lok.new w 23 #[.int .i64 u1, .int .i64 u2])
  clear hbu
  generalize w.alloc (.cells #[.int .i64 u1, .int .i64 u2] 23) = Vu at *
  have hbm := below_new1 Vu (.cells #[.int .i64 m, .int .i64 e] 29)
  replace ku := Lib.hid (ku.out.keep hbm)
  replace ka := Lib.hid (ka.out.keep hbm)
  replace kb := Lib.hid (kb.out.keep hbm)
  have zm : (Vu.alloc (.cells #[.int .i64 m, .int .i64 e] 29)).heap.size = Vu.heap.size + 1 := by simp
  replace HB := Lib.hid (HB.out.trans (hbm.mono HB.out.size))
  have km := Lib.hid (Lok.new Vu 29 #[.int .i64 m, .int .i64 e])
  clear hbm
  generalize Vu.alloc (.cells #[.int .i64 m, .int .i64 e] 29) = Vm at *
  rw [zu] at km
  clear zu zm
  have m0 := km.out.cell (i := 0) rfl
  have m1 := km.out.cell (i := 1) rfl
  have a0 := ka.out.cell (i := 0) rfl
  have a1 := ka.out.cell (i := 1) rfl
  go_wp2_with fail
  clear m0 m1 a0 a1
  (((with_reducible refine (F.out _).mono ?_); rintro e w1 ⟨rfl, hb1⟩); replace HB := Lib.hid (HB.out.trans (hb1.mono HB.out.size)); replace ku := Lib.hid (ku.out.keep hb1); replace km := Lib.hid (km.out.keep hb1); replace ka := Lib.hid (ka.out.keep hb1); replace kb := Lib.hid (kb.out.keep hb1); clear hb1)
  go_upto_region 2 with fail
  have lu := ku.out.lt
  have hsz := HB.out.size
  have l1 := ku.out
  have l2 := km.out
  have o2 := kb.out
  have o3 := ka.out
  have hbound : B ≤ w1.heap.size := by omega
  refine wp_region_rel (by kernel_rfl) [12, 13] ?Fr1 ?hFr1
    (fun L u W => Below (B) w1 W ∧ (L 0 = true → u 12 = .agg #[.int .i64 u1, .int .i64 u2]) ∧ (L 1 = true → u 13 = .agg #[.int .i64 m, .int .i64 e]) ∧ (L 2 = false → Lok W (gb) 23 #[.int .i64 p1, .int .i64 p2]) ∧ (L 2 = true → Lok W (gb) 23 #[.int .i64 u1, .int .i64 u2]) ∧ (L 3 = false → Lok W (ga) 29 #[.int .i64 n, .int .i64 d]) ∧ (L 3 = true → Lok W (ga) 29 #[.int .i64 m, .int .i64 e]) ∧ Lok W (w.heap.size) 23 #[.int .i64 u1, .int .i64 u2] ∧ Lok W (w.heap.size + 1) 29 #[.int .i64 m, .int .i64 e]) (by kernel_rfl) (by kernel_rfl) 4 rfl ?h0r1 ?stepr1 ?finr1
  case hFr1 => intro u; simp only [putAll, Act.put, List.setIfInBounds_toArray, List.set]; exact rfl
  case h0r1 => intro L u hL; exact ⟨(Below.refl _ _).drew, (fun h => by simp [hL] at h), (fun h => by simp [hL] at h), (fun _ => by assumption), (fun h => by simp [hL] at h), (fun _ => by assumption), (fun h => by simp [hL] at h), (by first | assumption | (apply Lok.drew; assumption)), (by first | assumption | (apply Lok.drew; assumption))⟩
  case stepr1 =>
    refine ops_all (ops_cons ?s0r1 (ops_cons ?s1r1 (ops_cons ?s2r1 (ops_cons ?s3r1 (ops_nil)))))
    case s0r1 =>
      rintro L u W ⟨hB, c0, c1, o2, wn2, o3, wn3, lk1, lk2⟩ hf hd K hK
      dsimp only at hK
      have t0 := lk1.cell (i := 0) rfl
      have t1 := lk1.cell (i := 1) rfl
      clear hd
      go_simp
      refine hK _ _ ?_ (fun h => by cases h)
      intro s hs
      cases hs
      exact ⟨hB, (fun _ => rfl), c1, o2, wn2, o3, wn3, lk1, lk2⟩
    case s1r1 =>
      rintro L u W ⟨hB, c0, c1, o2, wn2, o3, wn3, lk1, lk2⟩ hf hd K hK
      dsimp only at hK
      have t0 := lk2.cell (i := 0) rfl
      have t1 := lk2.cell (i := 1) rfl
      clear hd
      go_simp
      refine hK _ _ ?_ (fun h => by cases h)
      intro s hs
      cases hs
      exact ⟨hB, c0, (fun _ => rfl), o2, wn2, o3, wn3, lk1, lk2⟩
    case s2r1 =>
      rintro L u W ⟨hB, c0, c1, o2, wn2, o3, wn3, lk1, lk2⟩ hf hd K hK
      dsimp only at hK
      have hd0 : L 0 = true := (by first | (refine hd ⟨0, .data⟩ ?_ rfl; simp; done) | (refine hd ⟨0, .phase⟩ ?_ rfl; simp; done))
      have k3 := o2 hf
      have e0 := c0 hd0
      rw [e0] at hK
      have t0 := k3.cell (i := 0) rfl
      have f0 := k3.frozen 0
      have t1 := k3.cell (i := 1) rfl
      have f1 := k3.frozen 1
      clear hd
      have hd0' := Lib.hid hd0
      clear hd0
      go_simp
      have hd0 := hd0'.out
      have hlok := (k3.set (i := 0) (v := .int .i64 u1)).set (i := 1) (v := .int .i64 u2)
      refine hK undef _ (fun s h => by cases h) (fun _ => ?_)
      exact ⟨(hB.setCell (by first | exact Nat.le_refl _ | assumption | (show _ ≤ _; omega) | (show ((B)) ≤ (gb); omega)) _).setCell (by first | exact Nat.le_refl _ | assumption | (show _ ≤ _; omega) | (show ((B)) ≤ (gb); omega)) _, (fun _ => rfl), c1, (fun h => by cases h), (fun _ => hlok), (fun h => (((o3 h).far (by first | assumption | omega)).far (by first | assumption | omega))), (fun h => (((wn3 h).far (by first | assumption | omega)).far (by first | assumption | omega))), ((lk1.far (by first | assumption | omega)).far (by first | assumption | omega)), ((lk2.far (by first | assumption | omega)).far (by first | assumption | omega))⟩
    case s3r1 =>
      rintro L u W ⟨hB, c0, c1, o2, wn2, o3, wn3, lk1, lk2⟩ hf hd K hK
      dsimp only at hK
      have hd1 : L 1 = true := (by first | (refine hd ⟨1, .data⟩ ?_ rfl; simp; done) | (refine hd ⟨1, .phase⟩ ?_ rfl; simp; done))
      have k3 := o3 hf
      have e1 := c1 hd1
      rw [e1] at hK
      have t0 := k3.cell (i := 0) rfl
      have f0 := k3.frozen 0
      have t1 := k3.cell (i := 1) rfl
      have f1 := k3.frozen 1
      clear hd
      have hd1' := Lib.hid hd1
      clear hd1
      go_simp
      have hd1 := hd1'.out
      have hlok := (k3.set (i := 0) (v := .int .i64 m)).set (i := 1) (v := .int .i64 e)
      refine hK undef _ (fun s h => by cases h) (fun _ => ?_)
      exact ⟨(hB.setCell (by first | exact Nat.le_refl _ | assumption | (show _ ≤ _; omega) | (show ((B)) ≤ (ga); omega)) _).setCell (by first | exact Nat.le_refl _ | assumption | (show _ ≤ _; omega) | (show ((B)) ≤ (ga); omega)) _, c0, (fun _ => rfl), (fun h => (((o2 h).far (by first | assumption | omega)).far (by first | assumption | omega))), (fun h => (((wn2 h).far (by first | assumption | omega)).far (by first | assumption | omega))), (fun h => by cases h), (fun _ => hlok), ((lk1.far (by first | assumption | omega)).far (by first | assumption | omega)), ((lk2.far (by first | assumption | omega)).far (by first | assumption | omega))⟩
  case finr1 =>
    rintro L u W hL ⟨hB, c0, c1, o2, wn2, o3, wn3, lk1, lk2⟩
    have e0 := c0 (hL 0 (by decide))
    have e1 := c1 (hL 1 (by decide))
    have hlok2 := wn2 (hL 2 (by decide))
    have hlok3 := wn3 (hL 3 (by decide))
    clear hL c0 c1 o2 wn2 o3 wn3
    try simp only [e0, e1]
    clear e0 e1
    go_wp2_with fail
    exact bodyPost_end (v := .tuple #[]) (by simp [results, Try.results49, go_sem]) rfl ⟨rfl, (HB.out.mono (by omega)).trans hB, hlok3, hlok2⟩
theorem take_any (u1 u2 k m e n d p1 p2 : Int) (ga gb B : Nat) (w : World) (ha : Lok w ga 29 #[.int .i64 n, .int .i64 d]) (hb : Lok w gb 23 #[.int .i64 p1, .int .i64 p2]) (hne : ga ≠ gb) (hBa : B ≤ ga) (hBb : B ≤ gb) :
    Calls Try.prog 49 #[.agg #[.int .i64 u1, .int .i64 u2], .int .i64 k, .agg #[.int .i64 m, .int .i64 e], .pointer (some ⟨ga, 0, none⟩), .pointer (some ⟨gb, 0, none⟩)] w fun e' w' => e' = .returned (.tuple #[]) ∧ Below B w w' ∧ Lok w' ga 29 #[.int .i64 (l2 (cmpF m e n d) n m), .int .i64 (l2 (cmpF m e n d) d e)] ∧ Lok w' gb 23 #[.int .i64 (l2 (cmpF m e n d) p1 u1), .int .i64 (l2 (cmpF m e n d) p2 u2)] := by
  by_cases h : cmpF m e n d < 0
  · simp only [l2_yes _ _ h]; exact take_yes u1 u2 k m e n d p1 p2 h ga gb B w ha hb hne hBa hBb
  · simp only [l2_no _ _ h]; exact take_no u1 u2 k m e n d p1 p2 h ga gb B w ha hb hne hBa hBb
set_option maxRecDepth 100000 in
set_option maxHeartbeats 8000000 in
theorem nearest_any (x y a1 a2 b1 b2 c1 c2 : Int) (hp : s2 x y = true) (h1 : s2 a1 a2 = true) (h2 : s2 b1 b2 = true) (h3 : s2 c1 c2 = true) (w : World) :
    Calls Try.prog 27 #[.agg #[.int .i64 a1, .int .i64 a2, .int .i64 b1, .int .i64 b2, .int .i64 c1, .int .i64 c2], .func (.func 22) #[.agg #[.int .i64 x, .int .i64 y]] #[]] w fun e' w' => e' = .returned (.tuple #[.agg #[.int .i64 (nrS x y a1 a2 b1 b2 c1 c2 fX), .int .i64 (nrS x y a1 a2 b1 b2 c1 c2 fY)], .agg #[.int .i64 (nrS x y a1 a2 b1 b2 c1 c2 fN), .int .i64 (nrS x y a1 a2 b1 b2 c1 c2 fD)]]) ∧ Below w.heap.size w w' := by
  have HB := Lib.hid (Below.refl w.heap.size w)
  have F0 := Lib.hid (fun W => foot_any x y a1 a2 b1 b2 hp h1 h2 W)
  have F1 := Lib.hid (fun W => foot_any x y b1 b2 c1 c2 hp h2 h3 W)
  have F2 := Lib.hid (fun W => foot_any x y c1 c2 a1 a2 hp h3 h1 W)
  unfold nrS
  clear hp h1 h2 h3
  generalize fX x y a1 a2 b1 b2 = u0 at *
  generalize fY x y a1 a2 b1 b2 = v0 at *
  generalize fK x y a1 a2 b1 b2 = k0 at *
  generalize fN x y a1 a2 b1 b2 = n0 at *
  generalize fD x y a1 a2 b1 b2 = d0 at *
  generalize fX x y b1 b2 c1 c2 = u1 at *
  generalize fY x y b1 b2 c1 c2 = v1 at *
  generalize fK x y b1 b2 c1 c2 = k1 at *
  generalize fN x y b1 b2 c1 c2 = n1 at *
  generalize fD x y b1 b2 c1 c2 = d1 at *
  generalize fX x y c1 c2 a1 a2 = u2 at *
  generalize fY x y c1 c2 a1 a2 = v2 at *
  generalize fK x y c1 c2 a1 a2 = k2 at *
  generalize fN x y c1 c2 a1 a2 = n2 at *
  generalize fD x y c1 c2 a1 a2 = d2 at *
  obtain ⟨RU, EU⟩ : ∃ r, sel n0 d0 n1 d1 n2 d2 u0 u1 u2 = r := ⟨_, rfl⟩
  rw [EU]
  replace EU := Lib.hid EU
  obtain ⟨RV, EV⟩ : ∃ r, sel n0 d0 n1 d1 n2 d2 v0 v1 v2 = r := ⟨_, rfl⟩
  rw [EV]
  replace EV := Lib.hid EV
  obtain ⟨RN, EN⟩ : ∃ r, sel n0 d0 n1 d1 n2 d2 n0 n1 n2 = r := ⟨_, rfl⟩
  rw [EN]
  replace EN := Lib.hid EN
  obtain ⟨RD, ED⟩ : ∃ r, sel n0 d0 n1 d1 n2 d2 d0 d1 d2 = r := ⟨_, rfl⟩
  rw [ED]
  replace ED := Lib.hid ED
  go_enter Try.func27, Try.ntmps27
  go_upto_region 1 with fail
  have hbt := below_new1 w (.cells #[.int .i64 a1, .int .i64 a2, .int .i64 b1, .int .i64 b2, .int .i64 c1, .int .i64 c2] 24)
  have zt : (w.alloc (.cells #[.int .i64 a1, .int .i64 a2, .int .i64 b1, .int .i64 b2, .int .i64 c1, .int .i64 c2] 24)).heap.size = w.heap.size + 1 := by simp
  have HB := Lib.hid hbt
  have kt := Lib.hid (Lok.new w 24 #[.int .i64 a1, .int .i64 a2, .int .i64 b1, .int .i64 b2, .int .i64 c1, .int .i64 c2])
  clear hbt
  generalize w.alloc (.cells #[.int .i64 a1, .int .i64 a2, .int .i64 b1, .int .i64 b2, .int .i64 c1, .int .i64 c2] 24) = Vt at *
  have hbr := below_new1 Vt (.cells #[.int .i64 0, .int .i64 0] 23)
  replace kt := Lib.hid (kt.out.keep hbr)
  have zr : (Vt.alloc (.cells #[.int .i64 0, .int .i64 0] 23)).heap.size = Vt.heap.size + 1 := by simp
  replace HB := Lib.hid (HB.out.trans (hbr.mono HB.out.size))
  have kr := Lib.hid (Lok.new Vt 23 #[.int .i64 0, .int .i64 0])
  clear hbr
  generalize Vt.alloc (.cells #[.int .i64 0, .int .i64 0] 23) = Vr at *
  rw [zt] at kr zr
  have hbs := below_new1 Vr (.cells #[.int .i64 0, .int .i64 0] 29)
  replace kt := Lib.hid (kt.out.keep hbs)
  replace kr := Lib.hid (kr.out.keep hbs)
  have zs : (Vr.alloc (.cells #[.int .i64 0, .int .i64 0] 29)).heap.size = Vr.heap.size + 1 := by simp
  replace HB := Lib.hid (HB.out.trans (hbs.mono HB.out.size))
  have ks := Lib.hid (Lok.new Vr 29 #[.int .i64 0, .int .i64 0])
  clear hbs
  generalize Vr.alloc (.cells #[.int .i64 0, .int .i64 0] 29) = Vs at *
  rw [zr] at ks
  clear zt zr zs
  have t0 := kt.out.cell (i := 0) rfl
  have t1 := kt.out.cell (i := 1) rfl
  have t2 := kt.out.cell (i := 2) rfl
  have t3 := kt.out.cell (i := 3) rfl
  have t4 := kt.out.cell (i := 4) rfl
  have t5 := kt.out.cell (i := 5) rfl
  go_wp2_with fail
  clear t0 t1 t2 t3 t4 t5
  (((with_reducible refine (F0.out _).mono ?_); rintro e w1 ⟨rfl, hb1⟩); replace HB := Lib.hid (HB.out.trans (hb1.mono HB.out.size)); replace kt := Lib.hid (kt.out.keep hb1); replace kr := Lib.hid (kr.out.keep hb1); replace ks := Lib.hid (ks.out.keep hb1); clear hb1)
  go_upto_region 2 with fail
  have hlt := ks.out.lt
  have hbp := below_new1 w1 (.cells #[.int .i64 u0, .int .i64 v0] 23)
  replace kt := Lib.hid (kt.out.keep hbp)
  replace kr := Lib.hid (kr.out.keep hbp)
  replace ks := Lib.hid (ks.out.keep hbp)
  have zp : (w1.alloc (.cells #[.int .i64 u0, .int .i64 v0] 23)).heap.size = w1.heap.size + 1 := by simp
  replace HB := Lib.hid (HB.out.trans (hbp.mono HB.out.size))
  have kp := Lib.hid (Lok.new w1 23 #[.int .i64 u0, .int .i64 v0])
  clear hbp
  generalize w1.alloc (.cells #[.int .i64 u0, .int .i64 v0] 23) = Vp at *
  have hbq := below_new1 Vp (.cells #[.int .i64 n0, .int .i64 d0] 29)
  replace kt := Lib.hid (kt.out.keep hbq)
  replace kr := Lib.hid (kr.out.keep hbq)
  replace ks := Lib.hid (ks.out.keep hbq)
  replace kp := Lib.hid (kp.out.keep hbq)
  have zq : (Vp.alloc (.cells #[.int .i64 n0, .int .i64 d0] 29)).heap.size = Vp.heap.size + 1 := by simp
  replace HB := Lib.hid (HB.out.trans (hbq.mono HB.out.size))
  have kq := Lib.hid (Lok.new Vp 29 #[.int .i64 n0, .int .i64 d0])
  clear hbq
  generalize Vp.alloc (.cells #[.int .i64 n0, .int .i64 d0] 29) = Vq at *
  rw [zp] at kq
  clear zp zq
  generalize w1.heap.size = gp at *
  have t0 := kt.out.cell (i := 0) rfl
  have t1 := kt.out.cell (i := 1) rfl
  have t2 := kt.out.cell (i := 2) rfl
  have t3 := kt.out.cell (i := 3) rfl
  have t4 := kt.out.cell (i := 4) rfl
  have t5 := kt.out.cell (i := 5) rfl
  go_wp2_with fail
  clear t0 t1 t2 t3 t4 t5
  (((with_reducible refine (F1.out _).mono ?_); rintro e w2 ⟨rfl, hb2⟩); replace HB := Lib.hid (HB.out.trans (hb2.mono HB.out.size)); replace kt := Lib.hid (kt.out.keep hb2); replace kr := Lib.hid (kr.out.keep hb2); replace ks := Lib.hid (ks.out.keep hb2); replace kp := Lib.hid (kp.out.keep hb2); replace kq := Lib.hid (kq.out.keep hb2); clear hb2)
  go_wp2_with fail
  ((with_reducible refine (take_any u1 v1 k1 n1 d1 (n0) (d0) (u0) (v0) (gp + 1) gp gp _ kq.out kp.out (by omega) (by omega) (by omega)).mono ?_); rintro e w3 ⟨rfl, hb3, hq3, hp3⟩)
  replace HB := Lib.hid (HB.out.trans (hb3.mono (by omega)))
  replace kt := Lib.hid (kt.out.keepB hb3 (by omega))
  replace kr := Lib.hid (kr.out.keepB hb3 (by omega))
  replace ks := Lib.hid (ks.out.keepB hb3 (by omega))
  replace kp := Lib.hid hp3
  replace kq := Lib.hid hq3
  clear hb3 hp3 hq3
  generalize hn : l2 (cmpF n1 d1 n0 d0) n0 n1 = n at *
  generalize hd : l2 (cmpF n1 d1 n0 d0) d0 d1 = d at *
  generalize hu : l2 (cmpF n1 d1 n0 d0) u0 u1 = u at *
  generalize hv : l2 (cmpF n1 d1 n0 d0) v0 v1 = v at *
  have t0 := kt.out.cell (i := 0) rfl
  have t1 := kt.out.cell (i := 1) rfl
  have t2 := kt.out.cell (i := 2) rfl
  have t3 := kt.out.cell (i := 3) rfl
  have t4 := kt.out.cell (i := 4) rfl
  have t5 := kt.out.cell (i := 5) rfl
  go_wp2_with fail
  clear t0 t1 t2 t3 t4 t5
  (((with_reducible refine (F2.out _).mono ?_); rintro e w4 ⟨rfl, hb4⟩); replace HB := Lib.hid (HB.out.trans (hb4.mono HB.out.size)); replace kt := Lib.hid (kt.out.keep hb4); replace kr := Lib.hid (kr.out.keep hb4); replace ks := Lib.hid (ks.out.keep hb4); replace kp := Lib.hid (kp.out.keep hb4); replace kq := Lib.hid (kq.out.keep hb4); clear hb4)
  go_wp2_with fail
  ((with_reducible refine (take_any u2 v2 k2 n2 d2 (n) (d) (u) (v) (gp + 1) gp gp _ kq.out kp.out (by omega) (by omega) (by omega)).mono ?_); rintro e w5 ⟨rfl, hb5, hq5, hp5⟩)
  replace HB := Lib.hid (HB.out.trans (hb5.mono (by omega)))
  replace kt := Lib.hid (kt.out.keepB hb5 (by omega))
  replace kr := Lib.hid (kr.out.keepB hb5 (by omega))
  replace ks := Lib.hid (ks.out.keepB hb5 (by omega))
  replace kp := Lib.hid hp5
  replace kq := Lib.hid hq5
  clear hb5 hp5 hq5
  have es : ∀ f g h i : Int, l2 (cmpF n1 d1 n0 d0) f g = i → sel n0 d0 n1 d1 n2 d2 f g h = l2 (cmpF n2 d2 n d) i h := fun f g h i e => by unfold sel; rw [hn, hd, e]
  have qU := (es u0 u1 u2 u hu).symm.trans EU.out
  have qV := (es v0 v1 v2 v hv).symm.trans EV.out
  have qN := (es n0 n1 n2 n hn).symm.trans EN.out
  have qD := (es d0 d1 d2 d hd).symm.trans ED.out
  generalize l2 (cmpF n2 d2 n d) n n2 = nn at *
  generalize l2 (cmpF n2 d2 n d) d d2 = nd at *
  generalize l2 (cmpF n2 d2 n d) u u2 = nu at *
  generalize l2 (cmpF n2 d2 n d) v v2 = nv at *
  clear es hn hd hu hv F0 F1 F2 EU EV EN ED
  subst qU qV qN qD
  go_upto_region 5 with fail
  have lt1 := kr.out.lt
  have o2 := kr.out
  have o3 := ks.out
  have l1 := kp.out
  have l2 := kq.out
  have hbound : w.heap.size + 1 ≤ w5.heap.size := by omega
  refine wp_region_rel (by kernel_rfl) [43, 44] ?Fr2 ?hFr2
    (fun L u W => Below (w.heap.size + 1) w5 W ∧ (L 0 = true → u 43 = .agg #[.int .i64 nu, .int .i64 nv]) ∧ (L 1 = true → u 44 = .agg #[.int .i64 nn, .int .i64 nd]) ∧ (L 2 = false → Lok W (w.heap.size + 1) 23 #[.int .i64 0, .int .i64 0]) ∧ (L 2 = true → Lok W (w.heap.size + 1) 23 #[.int .i64 nu, .int .i64 nv]) ∧ (L 3 = false → Lok W (w.heap.size + 2) 29 #[.int .i64 0, .int .i64 0]) ∧ (L 3 = true → Lok W (w.heap.size + 2) 29 #[.int .i64 nn, .int .i64 nd]) ∧ Lok W (gp) 23 #[.int .i64 nu, .int .i64 nv] ∧ Lok W (gp + 1) 29 #[.int .i64 nn, .int .i64 nd]) (by kernel_rfl) (by kernel_rfl) 4 rfl ?h0r2 ?stepr2 ?finr2
  case hFr2 => intro u; simp only [putAll, Act.put, List.setIfInBounds_toArray, List.set]; exact rfl
  case h0r2 => intro L u hL; exact ⟨(Below.refl _ _).drew, (fun h => by simp [hL] at h), (fun h => by simp [hL] at h), (fun _ => by assumption), (fun h => by simp [hL] at h), (fun _ => by assumption), (fun h => by simp [hL] at h), (by first | assumption | (apply Lok.drew; assumption)), (by first | assumption | (apply Lok.drew; assumption))⟩
  case stepr2 =>
    refine ops_all (ops_cons ?s0r2 (ops_cons ?s1r2 (ops_cons ?s2r2 (ops_cons ?s3r2 (ops_nil)))))
    case s0r2 =>
      rintro L u W ⟨hB, c0, c1, o2, wn2, o3, wn3, lk1, lk2⟩ hf hd K hK
      dsimp only at hK
      have t0 := lk1.cell (i := 0) rfl
      have t1 := lk1.cell (i := 1) rfl
      clear hd
      go_simp
      refine hK _ _ ?_ (fun h => by cases h)
      intro s hs
      cases hs
      exact ⟨hB, (fun _ => rfl), c1, o2, wn2, o3, wn3, lk1, lk2⟩
    case s1r2 =>
      rintro L u W ⟨hB, c0, c1, o2, wn2, o3, wn3, lk1, lk2⟩ hf hd K hK
      dsimp only at hK
      have t0 := lk2.cell (i := 0) rfl
      have t1 := lk2.cell (i := 1) rfl
      clear hd
      go_simp
      refine hK _ _ ?_ (fun h => by cases h)
      intro s hs
      cases hs
      exact ⟨hB, c0, (fun _ => rfl), o2, wn2, o3, wn3, lk1, lk2⟩
    case s2r2 =>
      rintro L u W ⟨hB, c0, c1, o2, wn2, o3, wn3, lk1, lk2⟩ hf hd K hK
      dsimp only at hK
      have hd0 : L 0 = true := (by first | (refine hd ⟨0, .data⟩ ?_ rfl; simp; done) | (refine hd ⟨0, .phase⟩ ?_ rfl; simp; done))
      have k3 := o2 hf
      have e0 := c0 hd0
      rw [e0] at hK
      have t0 := k3.cell (i := 0) rfl
      have f0 := k3.frozen 0
      have t1 := k3.cell (i := 1) rfl
      have f1 := k3.frozen 1
      clear hd
      have hd0' := Lib.hid hd0
      clear hd0
      go_simp
      have hd0 := hd0'.out
      have hlok := (k3.set (i := 0) (v := .int .i64 nu)).set (i := 1) (v := .int .i64 nv)
      refine hK undef _ (fun s h => by cases h) (fun _ => ?_)
      exact ⟨(hB.setCell (by first | exact Nat.le_refl _ | assumption | (show _ ≤ _; omega) | (show ((w.heap.size + 1)) ≤ (w.heap.size + 1); omega)) _).setCell (by first | exact Nat.le_refl _ | assumption | (show _ ≤ _; omega) | (show ((w.heap.size + 1)) ≤ (w.heap.size + 1); omega)) _, (fun _ => rfl), c1, (fun h => by cases h), (fun _ => hlok), (fun h => (((o3 h).far (by first | assumption | omega)).far (by first | assumption | omega))), (fun h => (((wn3 h).far (by first | assumption | omega)).far (by first | assumption | omega))), ((lk1.far (by first | assumption | omega)).far (by first | assumption | omega)), ((lk2.far (by first | assumption | omega)).far (by first | assumption | omega))⟩
    case s3r2 =>
      rintro L u W ⟨hB, c0, c1, o2, wn2, o3, wn3, lk1, lk2⟩ hf hd K hK
      dsimp only at hK
      have hd1 : L 1 = true := (by first | (refine hd ⟨1, .data⟩ ?_ rfl; simp; done) | (refine hd ⟨1, .phase⟩ ?_ rfl; simp; done))
      have k3 := o3 hf
      have e1 := c1 hd1
      rw [e1] at hK
      have t0 := k3.cell (i := 0) rfl
      have f0 := k3.frozen 0
      have t1 := k3.cell (i := 1) rfl
      have f1 := k3.frozen 1
      clear hd
      have hd1' := Lib.hid hd1
      clear hd1
      go_simp
      have hd1 := hd1'.out
      have hlok := (k3.set (i := 0) (v := .int .i64 nn)).set (i := 1) (v := .int .i64 nd)
      refine hK undef _ (fun s h => by cases h) (fun _ => ?_)
      exact ⟨(hB.setCell (by first | exact Nat.le_refl _ | assumption | (show _ ≤ _; omega) | (show ((w.heap.size + 1)) ≤ (w.heap.size + 2); omega)) _).setCell (by first | exact Nat.le_refl _ | assumption | (show _ ≤ _; omega) | (show ((w.heap.size + 1)) ≤ (w.heap.size + 2); omega)) _, c0, (fun _ => rfl), (fun h => (((o2 h).far (by first | assumption | omega)).far (by first | assumption | omega))), (fun h => (((wn2 h).far (by first | assumption | omega)).far (by first | assumption | omega))), (fun h => by cases h), (fun _ => hlok), ((lk1.far (by first | assumption | omega)).far (by first | assumption | omega)), ((lk2.far (by first | assumption | omega)).far (by first | assumption | omega))⟩
  case finr2 =>
    rintro L u W hL ⟨hB, c0, c1, o2, wn2, o3, wn3, lk1, lk2⟩
    have e0 := c0 (hL 0 (by decide))
    have e1 := c1 (hL 1 (by decide))
    have hlok2 := wn2 (hL 2 (by decide))
    have hlok3 := wn3 (hL 3 (by decide))
    clear hL c0 c1 o2 wn2 o3 wn3
    try simp only [e0, e1]
    clear e0 e1
    have r0 := hlok2.cell (i := 0) rfl
    have r1 := hlok2.cell (i := 1) rfl
    have s0 := hlok3.cell (i := 0) rfl
    have s1 := hlok3.cell (i := 1) rfl
    go_wp2_with fail
    exact bodyPost_ret (v := .tuple #[.agg #[.int .i64 nu, .int .i64 nv], .agg #[.int .i64 nn, .int .i64 nd]]) (by simp [results, Try.results27, go_sem, r0, r1, s0, s1]) rfl ⟨rfl, HB.out.trans (hB.mono (by omega))⟩
end Go.Proofs.Ytllamakemgogaaa
