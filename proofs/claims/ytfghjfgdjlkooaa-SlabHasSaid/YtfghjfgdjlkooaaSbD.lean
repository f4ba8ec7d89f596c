/-
  Contracts of package slab: stay and its closure, together. (gen/SbD.py)
-/
import Derived.Test.YtfghjfgdjlkooaaSbA
import Derived.Test.YtfghjfgdjlkooaaFrC
namespace Go.Proofs.Ytfghjfgdjlkooaa
open Go.RowKit

theorem pt_sm {x y z : Int} (h : s3 x y z = true) (k : Nat) : SM 16384 (pt x y z k) := by
  obtain ⟨a, b, c⟩ := s3_iff.1 h
  unfold pt
  split
  · exact a
  · split
    · exact b
    · exact c
theorem wa_fr {a c l h : Int} (ha : SM 16384 a) (hc : SM 16384 c) (hl : SM 16384 l) (hh : SM 16384 h) : FR (waF a c l h) (waD a c) ∧ FR (waL a c l h) (waD a c) :=
  ⟨fr_wa (waF_le ha hl hh) (waD_pos _ _) (waD_le ha hc), fr_wa (waL_le ha hl hh) (waD_pos _ _) (waD_le ha hc)⟩
theorem en_fr {a c l h : Nat → Int} (f : ∀ k, FR (waF (a k) (c k) (l k) (h k)) (waD (a k) (c k))) : ∀ k, FR (enN a c l h k).1 (enN a c l h k).2
  | 0 => by show FR 0 1; unfold FR; omega
  | k + 1 => by
    show FR (upN _ _ _ _) (upD _ _ _ _)
    unfold upN upD
    split
    · exact f k
    · exact en_fr f k
theorem lv_fr {a c l h : Nat → Int} (f : ∀ k, FR (waL (a k) (c k) (l k) (h k)) (waD (a k) (c k))) : ∀ k, FR (lvN a c l h k).1 (lvN a c l h k).2
  | 0 => by show FR 1 1; unfold FR; omega
  | k + 1 => by
    show FR (dnN _ _ _ _) (dnD _ _ _ _)
    unfold dnN dnD
    split
    · exact f k
    · exact lv_fr f k
theorem en_step {a c l h : Nat → Int} {k : Nat} {z : Int} (G : 0 < z ↔ (enN a c l h k).1 * waD (a k) (c k) < waF (a k) (c k) (l k) (h k) * (enN a c l h k).2) :
    (0 < z → (enN a c l h (k + 1)).1 = waF (a k) (c k) (l k) (h k) ∧ (enN a c l h (k + 1)).2 = waD (a k) (c k)) ∧ (¬ 0 < z → (enN a c l h (k + 1)).1 = (enN a c l h k).1 ∧ (enN a c l h (k + 1)).2 = (enN a c l h k).2) := by
  refine ⟨fun q => ?_, fun q => ?_⟩ <;> show upN _ _ _ _ = _ ∧ upD _ _ _ _ = _ <;> unfold upN upD
  · exact ⟨if_pos (G.1 q), if_pos (G.1 q)⟩
  · exact ⟨if_neg (fun r => q (G.2 r)), if_neg (fun r => q (G.2 r))⟩
theorem lv_step {a c l h : Nat → Int} {k : Nat} {z : Int} (G : z < 0 ↔ waL (a k) (c k) (l k) (h k) * (lvN a c l h k).2 < (lvN a c l h k).1 * waD (a k) (c k)) :
    (z < 0 → (lvN a c l h (k + 1)).1 = waL (a k) (c k) (l k) (h k) ∧ (lvN a c l h (k + 1)).2 = waD (a k) (c k)) ∧ (¬ z < 0 → (lvN a c l h (k + 1)).1 = (lvN a c l h k).1 ∧ (lvN a c l h (k + 1)).2 = (lvN a c l h k).2) := by
  refine ⟨fun q => ?_, fun q => ?_⟩ <;> show dnN _ _ _ _ = _ ∧ dnD _ _ _ _ = _ <;> unfold dnN dnD
  · exact ⟨if_pos (G.1 q), if_pos (G.1 q)⟩
  · exact ⟨if_neg (fun r => q (G.2 r)), if_neg (fun r => q (G.2 r))⟩
theorem cmpF_gt {an ad bn bd : Int} (h : FR an ad) (k : FR bn bd) : 0 < cmpF an ad bn bd ↔ bn * ad < an * bd := by
  rw [cmpF_right h k]
  rcases ordI_ways (an * bd) (bn * ad) with ⟨p, e⟩ | ⟨p, e⟩ | ⟨p, e⟩ <;> rw [e] <;> omega
theorem cmpF_lt {an ad bn bd : Int} (h : FR an ad) (k : FR bn bd) : cmpF an ad bn bd < 0 ↔ an * bd < bn * ad := by
  rw [cmpF_right h k]
  rcases ordI_ways (an * bd) (bn * ad) with ⟨p, e⟩ | ⟨p, e⟩ | ⟨p, e⟩ <;> rw [e] <;> omega
theorem cmpF_le {an ad bn bd : Int} (h : FR an ad) (k : FR bn bd) : cmpF an ad bn bd ≤ 0 ↔ an * bd ≤ bn * ad := by
  rw [cmpF_right h k]
  rcases ordI_ways (an * bd) (bn * ad) with ⟨p, e⟩ | ⟨p, e⟩ | ⟨p, e⟩ <;> rw [e] <;> omega
set_option maxRecDepth 100000 in
set_option maxHeartbeats 8000000 in
theorem stay1_any (a1 a2 a3 c1 c2 c3 l1 l2 l3 h1 h2 h3 : Int) (sa : s3 a1 a2 a3 = true) (sc : s3 c1 c2 c3 = true) (sl : s3 l1 l2 l3 = true) (sh : s3 h1 h2 h3 = true) (k : Nat) (hk : k < 3) (ga gc gl gh : Nat) (w : World) (ka' : Lok w ga 47 #[.int .i64 a1, .int .i64 a2, .int .i64 a3]) (kc' : Lok w gc 47 #[.int .i64 c1, .int .i64 c2, .int .i64 c3]) (kl' : Lok w gl 47 #[.int .i64 l1, .int .i64 l2, .int .i64 l3]) (kh' : Lok w gh 47 #[.int .i64 h1, .int .i64 h2, .int .i64 h3]) :
    Calls Try.prog 39 #[.int .i64 k, .pointer (some ⟨gc, 0, none⟩), .pointer (some ⟨ga, 0, none⟩), .pointer (some ⟨gl, 0, none⟩), .pointer (some ⟨gh, 0, none⟩)] w fun e' w' => e' = .returned (.tuple #[.agg #[.int .i64 (waF (pt a1 a2 a3 k) (pt c1 c2 c3 k) (pt l1 l2 l3 k) (pt h1 h2 h3 k)), .int .i64 (waD (pt a1 a2 a3 k) (pt c1 c2 c3 k))], .agg #[.int .i64 (waL (pt a1 a2 a3 k) (pt c1 c2 c3 k) (pt l1 l2 l3 k) (pt h1 h2 h3 k)), .int .i64 (waD (pt a1 a2 a3 k) (pt c1 c2 c3 k))]]) ∧ Below w.heap.size w w' := by
  have HB := Lib.hid (Below.refl w.heap.size w)
  have ha := pt_sm sa k
  have hc := pt_sm sc k
  have hl := pt_sm sl k
  have hh := pt_sm sh k
  have ka := Lib.hid ka'
  have kc := Lib.hid kc'
  have kl := Lib.hid kl'
  have kh := Lib.hid kh'
  clear ka' kc' kl' kh' sa sc sl sh
  have A0 := Lib.hid (fun W (q : Below w.heap.size w W) => (ka.out.keep q).cell (pt_at a1 a2 a3 hk))
  have C0 := Lib.hid (fun W (q : Below w.heap.size w W) => (kc.out.keep q).cell (pt_at c1 c2 c3 hk))
  have L0 := Lib.hid (fun W (q : Below w.heap.size w W) => (kl.out.keep q).cell (pt_at l1 l2 l3 hk))
  have H0 := Lib.hid (fun W (q : Below w.heap.size w W) => (kh.out.keep q).cell (pt_at h1 h2 h3 hk))
  clear ka kc kl kh
  generalize pt a1 a2 a3 k = a at *
  generalize pt c1 c2 c3 k = c at *
  generalize pt l1 l2 l3 k = l at *
  generalize pt h1 h2 h3 k = h at *
  unfold SM at ha hc hl hh
  have i0 : (0 : Int) ≤ (k : Int) := by omega
  have i1 : (k : Int) < 3 := by omega
  have i2 : ((k : Int)).toNat = k := by omega
  obtain ⟨d, ed⟩ : ∃ d, d = c - a := ⟨_, rfl⟩
  obtain ⟨p, ep⟩ : ∃ p, p = l - a := ⟨_, rfl⟩
  obtain ⟨q, eq⟩ : ∃ q, q = h - a := ⟨_, rfl⟩
  have w1 : IntKind.i64.wrap (c - a) = d := by rw [ed]; exact IntWalk.i64_in _ (by omega)
  have w2 : IntKind.i64.wrap (l - a) = p := by rw [ep]; exact IntWalk.i64_in _ (by omega)
  have w3 : IntKind.i64.wrap (h - a) = q := by rw [eq]; exact IntWalk.i64_in _ (by omega)
  have w4 : IntKind.i64.wrap (-d) = -d := IntWalk.i64_in _ (by omega)
  have w5 : IntKind.i64.wrap (-p) = -p := IntWalk.i64_in _ (by omega)
  have w6 : IntKind.i64.wrap (-q) = -q := IntWalk.i64_in _ (by omega)
  unfold waF waL waD
  rw [← ed, ← ep, ← eq]
  clear ha hc hl hh ed ep eq
  rcases show d < 0 ∨ d = 0 ∨ 0 < d by omega with hd | hd | hd
  · rw [if_pos hd, if_pos hd, if_pos hd]
    have n1 : ¬ -d = 0 := by omega
    go_enter Try.func39, Try.ntmps39
    go_upto_region 1 with fail
    have hby := below_new1 w (.cells #[.int .i64 0, .int .i64 0] 56)
    have zy : (w.alloc (.cells #[.int .i64 0, .int .i64 0] 56)).heap.size = w.heap.size + 1 := by simp
    have HB := Lib.hid hby
    have ky := Lib.hid (Lok.new w 56 #[.int .i64 0, .int .i64 0])
    clear hby
    generalize w.alloc (.cells #[.int .i64 0, .int .i64 0] 56) = Vy at *
    have hbz := below_new1 Vy (.cells #[.int .i64 0, .int .i64 0] 56)
    replace ky := Lib.hid (ky.out.keep hbz)
    have zz : (Vy.alloc (.cells #[.int .i64 0, .int .i64 0] 56)).heap.size = Vy.heap.size + 1 := by simp
    replace HB := Lib.hid (HB.out.trans (hbz.mono HB.out.size))
    have kz := Lib.hid (Lok.new Vy 56 #[.int .i64 0, .int .i64 0])
    clear hbz
    generalize Vy.alloc (.cells #[.int .i64 0, .int .i64 0] 56) = Vz at *
    rw [zy] at kz
    clear zy zz
    have a0 := A0.out _ HB.out
    have c0 := C0.out _ HB.out
    have l0 := L0.out _ HB.out
    have h0 := H0.out _ HB.out
    clear A0 C0 L0 H0
    have y0 := ky.out.cell (i := 0) rfl
    have y1 := ky.out.cell (i := 1) rfl
    have z0 := kz.out.cell (i := 0) rfl
    have z1 := kz.out.cell (i := 1) rfl
    have fy0 := ky.out.frozen 0
    have fy1 := ky.out.frozen 1
    have fz0 := kz.out.frozen 0
    have fz1 := kz.out.frozen 1
    go_quiet (fail)
    go_wp2_with fail
    exact bodyPost_ret (v := .tuple #[.agg #[.int .i64 (-q), .int .i64 (-d)], .agg #[.int .i64 (-p), .int .i64 (-d)]]) (by simp [results, Try.results39, go_sem, y0, y1, z0, z1]) rfl ⟨rfl, ((((below_drewN HB.out _).setCell (by simp <;> omega) _).setCell (by simp <;> omega) _).setCell (by simp <;> omega) _).setCell (by simp <;> omega) _⟩
  · rw [if_neg (by omega), if_pos hd, if_neg (by omega), if_pos hd, if_neg (by omega), if_pos hd]
    subst hd
    go_enter Try.func39, Try.ntmps39
    go_upto_region 1 with fail
    have hby := below_new1 w (.cells #[.int .i64 0, .int .i64 0] 56)
    have zy : (w.alloc (.cells #[.int .i64 0, .int .i64 0] 56)).heap.size = w.heap.size + 1 := by simp
    have HB := Lib.hid hby
    have ky := Lib.hid (Lok.new w 56 #[.int .i64 0, .int .i64 0])
    clear hby
    generalize w.alloc (.cells #[.int .i64 0, .int .i64 0] 56) = Vy at *
    have hbz := below_new1 Vy (.cells #[.int .i64 0, .int .i64 0] 56)
    replace ky := Lib.hid (ky.out.keep hbz)
    have zz : (Vy.alloc (.cells #[.int .i64 0, .int .i64 0] 56)).heap.size = Vy.heap.size + 1 := by simp
    replace HB := Lib.hid (HB.out.trans (hbz.mono HB.out.size))
    have kz := Lib.hid (Lok.new Vy 56 #[.int .i64 0, .int .i64 0])
    clear hbz
    generalize Vy.alloc (.cells #[.int .i64 0, .int .i64 0] 56) = Vz at *
    rw [zy] at kz
    clear zy zz
    have a0 := A0.out _ HB.out
    have c0 := C0.out _ HB.out
    have l0 := L0.out _ HB.out
    have h0 := H0.out _ HB.out
    clear A0 C0 L0 H0
    have y0 := ky.out.cell (i := 0) rfl
    have y1 := ky.out.cell (i := 1) rfl
    have z0 := kz.out.cell (i := 0) rfl
    have z1 := kz.out.cell (i := 1) rfl
    have fy0 := ky.out.frozen 0
    have fy1 := ky.out.frozen 1
    have fz0 := kz.out.frozen 0
    have fz1 := kz.out.frozen 1
    go_quiet (fail)
    go_wp2_with fail
    exact bodyPost_ret (v := .tuple #[.agg #[.int .i64 0, .int .i64 1], .agg #[.int .i64 1, .int .i64 1]]) (by simp [results, Try.results39, go_sem, y0, y1, z0, z1]) rfl ⟨rfl, ((((below_drewN HB.out _).setCell (by simp <;> omega) _).setCell (by simp <;> omega) _).setCell (by simp <;> omega) _).setCell (by simp <;> omega) _⟩
  · rw [if_neg (by omega), if_neg (by omega), if_neg (by omega), if_neg (by omega), if_neg (by omega), if_neg (by omega)]
    have n1 : ¬ d < 0 := by omega
    have n2 : ¬ d = 0 := by omega
    go_enter Try.func39, Try.ntmps39
    go_upto_region 1 with fail
    have hby := below_new1 w (.cells #[.int .i64 0, .int .i64 0] 56)
    have zy : (w.alloc (.cells #[.int .i64 0, .int .i64 0] 56)).heap.size = w.heap.size + 1 := by simp
    have HB := Lib.hid hby
    have ky := Lib.hid (Lok.new w 56 #[.int .i64 0, .int .i64 0])
    clear hby
    generalize w.alloc (.cells #[.int .i64 0, .int .i64 0] 56) = Vy at *
    have hbz := below_new1 Vy (.cells #[.int .i64 0, .int .i64 0] 56)
    replace ky := Lib.hid (ky.out.keep hbz)
    have zz : (Vy.alloc (.cells #[.int .i64 0, .int .i64 0] 56)).heap.size = Vy.heap.size + 1 := by simp
    replace HB := Lib.hid (HB.out.trans (hbz.mono HB.out.size))
    have kz := Lib.hid (Lok.new Vy 56 #[.int .i64 0, .int .i64 0])
    clear hbz
    generalize Vy.alloc (.cells #[.int .i64 0, .int .i64 0] 56) = Vz at *
    rw [zy] at kz
    clear zy zz
    have a0 := A0.out _ HB.out
    have c0 := C0.out _ HB.out
    have l0 := L0.out _ HB.out
    have h0 := H0.out _ HB.out
    clear A0 C0 L0 H0
    have y0 := ky.out.cell (i := 0) rfl
    have y1 := ky.out.cell (i := 1) rfl
    have z0 := kz.out.cell (i := 0) rfl
    have z1 := kz.out.cell (i := 1) rfl
    have fy0 := ky.out.frozen 0
    have fy1 := ky.out.frozen 1
    have fz0 := kz.out.frozen 0
    have fz1 := kz.out.frozen 1
    go_quiet (fail)
    go_wp2_with fail
    exact bodyPost_ret (v := .tuple #[.agg #[.int .i64 p, .int .i64 d], .agg #[.int .i64 q, .int .i64 d]]) (by simp [results, Try.results39, go_sem, y0, y1, z0, z1]) rfl ⟨rfl, ((((below_drewN HB.out _).setCell (by simp <;> omega) _).setCell (by simp <;> omega) _).setCell (by simp <;> omega) _).setCell (by simp <;> omega) _⟩
set_option maxRecDepth 100000 in
set_option maxHeartbeats 8000000 in
theorem stay_any (pa1 pa2 pa3 pc1 pc2 pc3 pl1 pl2 pl3 ph1 ph2 ph3 : Int) (w : World) :
    Calls Try.prog 28 #[.agg #[.int .i64 pa1, .int .i64 pa2, .int .i64 pa3], .agg #[.int .i64 pc1, .int .i64 pc2, .int .i64 pc3], .agg #[.int .i64 pl1, .int .i64 pl2, .int .i64 pl3, .int .i64 ph1, .int .i64 ph2, .int .i64 ph3]] w fun e w' => (∃ ga gc gl gh : Nat, e = .returned (.func (.func 39) #[] #[.pointer (some ⟨gc, 0, none⟩), .pointer (some ⟨ga, 0, none⟩), .pointer (some ⟨gl, 0, none⟩), .pointer (some ⟨gh, 0, none⟩)]) ∧ Lok w' ga 47 #[.int .i64 pa1, .int .i64 pa2, .int .i64 pa3] ∧ Lok w' gc 47 #[.int .i64 pc1, .int .i64 pc2, .int .i64 pc3] ∧ Lok w' gl 47 #[.int .i64 pl1, .int .i64 pl2, .int .i64 pl3] ∧ Lok w' gh 47 #[.int .i64 ph1, .int .i64 ph2, .int .i64 ph3]) ∧ Below w.heap.size w w' := by
  have HB := Lib.hid (Below.refl w.heap.size w)
  have PC := Lib.hid (fun x y z W => slparts_any x y z W)
  go_enter Try.func28, Try.ntmps28
  go_upto_region 1 with fail
  have hbx := below_new1 w (.cells #[.int .i64 pa1, .int .i64 pa2, .int .i64 pa3] 23)
  have zx : (w.alloc (.cells #[.int .i64 pa1, .int .i64 pa2, .int .i64 pa3] 23)).heap.size = w.heap.size + 1 := by simp
  have HB := Lib.hid hbx
  have kx := Lib.hid (Lok.new w 23 #[.int .i64 pa1, .int .i64 pa2, .int .i64 pa3])
  clear hbx
  generalize w.alloc (.cells #[.int .i64 pa1, .int .i64 pa2, .int .i64 pa3] 23) = Vx at *
  have hby := below_new1 Vx (.cells #[.int .i64 pc1, .int .i64 pc2, .int .i64 pc3] 23)
  replace kx := Lib.hid (kx.out.keep hby)
  have zy : (Vx.alloc (.cells #[.int .i64 pc1, .int .i64 pc2, .int .i64 pc3] 23)).heap.size = Vx.heap.size + 1 := by simp
  replace HB := Lib.hid (HB.out.trans (hby.mono HB.out.size))
  have ky := Lib.hid (Lok.new Vx 23 #[.int .i64 pc1, .int .i64 pc2, .int .i64 pc3])
  clear hby
  generalize Vx.alloc (.cells #[.int .i64 pc1, .int .i64 pc2, .int .i64 pc3] 23) = Vy at *
  rw [zx] at ky zy
  have hbb := below_new1 Vy (.cells #[.int .i64 pl1, .int .i64 pl2, .int .i64 pl3, .int .i64 ph1, .int .i64 ph2, .int .i64 ph3] 25)
  replace kx := Lib.hid (kx.out.keep hbb)
  replace ky := Lib.hid (ky.out.keep hbb)
  have zb : (Vy.alloc (.cells #[.int .i64 pl1, .int .i64 pl2, .int .i64 pl3, .int .i64 ph1, .int .i64 ph2, .int .i64 ph3] 25)).heap.size = Vy.heap.size + 1 := by simp
  replace HB := Lib.hid (HB.out.trans (hbb.mono HB.out.size))
  have kb := Lib.hid (Lok.new Vy 25 #[.int .i64 pl1, .int .i64 pl2, .int .i64 pl3, .int .i64 ph1, .int .i64 ph2, .int .i64 ph3])
  clear hbb
  generalize Vy.alloc (.cells #[.int .i64 pl1, .int .i64 pl2, .int .i64 pl3, .int .i64 ph1, .int .i64 ph2, .int .i64 ph3] 25) = Vb at *
  rw [zy] at kb
  clear zx zy zb
  have x0 := kx.out.cell (i := 0) rfl
  have x1 := kx.out.cell (i := 1) rfl
  have x2 := kx.out.cell (i := 2) rfl
  have y0 := ky.out.cell (i := 0) rfl
  have y1 := ky.out.cell (i := 1) rfl
  have y2 := ky.out.cell (i := 2) rfl
  have b0 := kb.out.cell (i := 0) rfl
  have b1 := kb.out.cell (i := 1) rfl
  have b2 := kb.out.cell (i := 2) rfl
  have b3 := kb.out.cell (i := 3) rfl
  have b4 := kb.out.cell (i := 4) rfl
  have b5 := kb.out.cell (i := 5) rfl
  clear kx ky kb
  go_upto_region 1 with fail
  refine wp_region_rel (by kernel_rfl) [11, 12, 13, 14, 15, 16, 17, 18, 19, 20, 7, 8, 9, 10] ?Fr1 ?hFr1
    (fun L u W => Below Vb.heap.size Vb W ∧ (L 0 = true → u 11 = .agg #[.int .i64 pa1, .int .i64 pa2, .int .i64 pa3]) ∧ (L 1 = true → u 12 = .agg #[.int .i64 pa1, .int .i64 pa2, .int .i64 pa3]) ∧ (L 2 = true → u 13 = .agg #[.int .i64 pc1, .int .i64 pc2, .int .i64 pc3]) ∧ (L 3 = true → u 14 = .agg #[.int .i64 pc1, .int .i64 pc2, .int .i64 pc3]) ∧ (L 4 = true → u 15 = .pointer (some ⟨w.heap.size + 2, 0, none⟩)) ∧ (L 5 = true → u 16 = .agg #[.int .i64 pl1, .int .i64 pl2, .int .i64 pl3]) ∧ (L 6 = true → u 17 = .agg #[.int .i64 pl1, .int .i64 pl2, .int .i64 pl3]) ∧ (L 7 = true → u 18 = .pointer (some ⟨w.heap.size + 2, 3, none⟩)) ∧ (L 8 = true → u 19 = .agg #[.int .i64 ph1, .int .i64 ph2, .int .i64 ph3]) ∧ (L 9 = true → u 20 = .agg #[.int .i64 ph1, .int .i64 ph2, .int .i64 ph3]) ∧ (L 10 = true → ∃ (g : Nat) (x10_0 x10_1 x10_2 : Value), u 7 = .pointer (some ⟨g, 0, none⟩) ∧ Vb.heap.size ≤ g ∧ Lok W g 47 #[x10_0, x10_1, x10_2] ∧ (L 14 = true → x10_0 = .int .i64 pa1 ∧ x10_1 = .int .i64 pa2 ∧ x10_2 = .int .i64 pa3)) ∧ (L 14 = true → L 10 = true) ∧ (L 11 = true → ∃ (g : Nat) (x11_0 x11_1 x11_2 : Value), u 8 = .pointer (some ⟨g, 0, none⟩) ∧ Vb.heap.size ≤ g ∧ Lok W g 47 #[x11_0, x11_1, x11_2] ∧ (L 15 = true → x11_0 = .int .i64 pc1 ∧ x11_1 = .int .i64 pc2 ∧ x11_2 = .int .i64 pc3)) ∧ (L 15 = true → L 11 = true) ∧ (L 12 = true → ∃ (g : Nat) (x12_0 x12_1 x12_2 : Value), u 9 = .pointer (some ⟨g, 0, none⟩) ∧ Vb.heap.size ≤ g ∧ Lok W g 47 #[x12_0, x12_1, x12_2] ∧ (L 16 = true → x12_0 = .int .i64 pl1 ∧ x12_1 = .int .i64 pl2 ∧ x12_2 = .int .i64 pl3)) ∧ (L 16 = true → L 12 = true) ∧ (L 13 = true → ∃ (g : Nat) (x13_0 x13_1 x13_2 : Value), u 10 = .pointer (some ⟨g, 0, none⟩) ∧ Vb.heap.size ≤ g ∧ Lok W g 47 #[x13_0, x13_1, x13_2] ∧ (L 17 = true → x13_0 = .int .i64 ph1 ∧ x13_1 = .int .i64 ph2 ∧ x13_2 = .int .i64 ph3)) ∧ (L 17 = true → L 13 = true) ∧ (L 10 = true → L 11 = true → u 7 ≠ u 8) ∧ (L 10 = true → L 12 = true → u 7 ≠ u 9) ∧ (L 10 = true → L 13 = true → u 7 ≠ u 10) ∧ (L 11 = true → L 12 = true → u 8 ≠ u 9) ∧ (L 11 = true → L 13 = true → u 8 ≠ u 10) ∧ (L 12 = true → L 13 = true → u 9 ≠ u 10)) (by kernel_rfl) (by kernel_rfl) 18 rfl ?h0r1 ?stepr1 ?finr1
  case hFr1 => intro u; simp only [putAll, Act.put, List.setIfInBounds_toArray, List.set]; exact rfl
  case h0r1 => intro L u hL; exact ⟨(Below.refl _ _).drew, (fun h => by simp [hL] at h), (fun h => by simp [hL] at h), (fun h => by simp [hL] at h), (fun h => by simp [hL] at h), (fun h => by simp [hL] at h), (fun h => by simp [hL] at h), (fun h => by simp [hL] at h), (fun h => by simp [hL] at h), (fun h => by simp [hL] at h), (fun h => by simp [hL] at h), (fun h => by simp [hL] at h), (fun h => by simp [hL] at h), (fun h => by simp [hL] at h), (fun h => by simp [hL] at h), (fun h => by simp [hL] at h), (fun h => by simp [hL] at h), (fun h => by simp [hL] at h), (fun h => by simp [hL] at h), (fun h => by simp [hL] at h), (fun h => by simp [hL] at h), (fun h => by simp [hL] at h), (fun h => by simp [hL] at h), (fun h => by simp [hL] at h), (fun h => by simp [hL] at h)⟩
  case stepr1 =>
    refine ops_all (ops_cons ?s0r1 (ops_cons ?s1r1 (ops_cons ?s2r1 (ops_cons ?s3r1 (ops_cons ?s4r1 (ops_cons ?s5r1 (ops_cons ?s6r1 (ops_cons ?s7r1 (ops_cons ?s8r1 (ops_cons ?s9r1 (ops_cons ?s10r1 (ops_cons ?s11r1 (ops_cons ?s12r1 (ops_cons ?s13r1 (ops_cons ?s14r1 (ops_cons ?s15r1 (ops_cons ?s16r1 (ops_cons ?s17r1 (ops_nil)))))))))))))))))))
    case s0r1 =>
      rintro L u W ⟨hB, c0, c1, c2, c3, c4, c5, c6, c7, c8, c9, c10, d14, c11, d15, c12, d16, c13, d17, y10_11, y10_12, y10_13, y11_12, y11_13, y12_13⟩ hf hd K hK
      dsimp only at hK
      have t0 := keepc hB x0
      have t1 := keepc hB x1
      have t2 := keepc hB x2
      clear hd
      go_simp
      refine hK _ _ ?_ (fun h => by cases h)
      intro s hs
      cases hs
      exact ⟨hB, (fun _ => rfl), c1, c2, c3, c4, c5, c6, c7, c8, c9, c10, d14, c11, d15, c12, d16, c13, d17, y10_11, y10_12, y10_13, y11_12, y11_13, y12_13⟩
    case s1r1 =>
      rintro L u W ⟨hB, c0, c1, c2, c3, c4, c5, c6, c7, c8, c9, c10, d14, c11, d15, c12, d16, c13, d17, y10_11, y10_12, y10_13, y11_12, y11_13, y12_13⟩ hf hd K hK
      dsimp only at hK
      have hd0 : L 0 = true := (by first | (refine hd ⟨0, .data⟩ ?_ rfl; simp; done) | (refine hd ⟨0, .guard⟩ ?_ rfl; simp; done) | (refine hd ⟨0, .phase⟩ ?_ rfl; simp; done) | (refine hd ⟨0, .chain⟩ ?_ rfl; simp; done))
      have e0 := c0 hd0
      rw [e0] at hK
      clear hd0
      clear hd
      go_simp
      go_wp2_with (go_at_call 23; ((with_reducible refine (PC.out _ _ _ _).mono ?_); rintro e w5 ⟨rfl, hb⟩))
      refine hK _ _ ?_ (fun h => by cases h)
      intro s hs
      cases hs
      exact ⟨hB.trans (hb.mono hB.size), c0, (fun _ => rfl), c2, c3, c4, c5, c6, c7, c8, c9, (fun h => by obtain ⟨g, x10_0, x10_1, x10_2, k1, k2, k3, k4⟩ := c10 h; exact ⟨g, x10_0, x10_1, x10_2, k1, k2, k3.keep hb, k4⟩), d14, (fun h => by obtain ⟨g, x11_0, x11_1, x11_2, k1, k2, k3, k4⟩ := c11 h; exact ⟨g, x11_0, x11_1, x11_2, k1, k2, k3.keep hb, k4⟩), d15, (fun h => by obtain ⟨g, x12_0, x12_1, x12_2, k1, k2, k3, k4⟩ := c12 h; exact ⟨g, x12_0, x12_1, x12_2, k1, k2, k3.keep hb, k4⟩), d16, (fun h => by obtain ⟨g, x13_0, x13_1, x13_2, k1, k2, k3, k4⟩ := c13 h; exact ⟨g, x13_0, x13_1, x13_2, k1, k2, k3.keep hb, k4⟩), d17, y10_11, y10_12, y10_13, y11_12, y11_13, y12_13⟩
    case s2r1 =>
      rintro L u W ⟨hB, c0, c1, c2, c3, c4, c5, c6, c7, c8, c9, c10, d14, c11, d15, c12, d16, c13, d17, y10_11, y10_12, y10_13, y11_12, y11_13, y12_13⟩ hf hd K hK
      dsimp only at hK
      have t0 := keepc hB y0
      have t1 := keepc hB y1
      have t2 := keepc hB y2
      clear hd
      go_simp
      refine hK _ _ ?_ (fun h => by cases h)
      intro s hs
      cases hs
      exact ⟨hB, c0, c1, (fun _ => rfl), c3, c4, c5, c6, c7, c8, c9, c10, d14, c11, d15, c12, d16, c13, d17, y10_11, y10_12, y10_13, y11_12, y11_13, y12_13⟩
    case s3r1 =>
      rintro L u W ⟨hB, c0, c1, c2, c3, c4, c5, c6, c7, c8, c9, c10, d14, c11, d15, c12, d16, c13, d17, y10_11, y10_12, y10_13, y11_12, y11_13, y12_13⟩ hf hd K hK
      dsimp only at hK
      have hd2 : L 2 = true := (by first | (refine hd ⟨2, .data⟩ ?_ rfl; simp; done) | (refine hd ⟨2, .guard⟩ ?_ rfl; simp; done) | (refine hd ⟨2, .phase⟩ ?_ rfl; simp; done) | (refine hd ⟨2, .chain⟩ ?_ rfl; simp; done))
      have e2 := c2 hd2
      rw [e2] at hK
      clear hd2
      clear hd
      go_simp
      go_wp2_with (go_at_call 23; ((with_reducible refine (PC.out _ _ _ _).mono ?_); rintro e w5 ⟨rfl, hb⟩))
      refine hK _ _ ?_ (fun h => by cases h)
      intro s hs
      cases hs
      exact ⟨hB.trans (hb.mono hB.size), c0, c1, c2, (fun _ => rfl), c4, c5, c6, c7, c8, c9, (fun h => by obtain ⟨g, x10_0, x10_1, x10_2, k1, k2, k3, k4⟩ := c10 h; exact ⟨g, x10_0, x10_1, x10_2, k1, k2, k3.keep hb, k4⟩), d14, (fun h => by obtain ⟨g, x11_0, x11_1, x11_2, k1, k2, k3, k4⟩ := c11 h; exact ⟨g, x11_0, x11_1, x11_2, k1, k2, k3.keep hb, k4⟩), d15, (fun h => by obtain ⟨g, x12_0, x12_1, x12_2, k1, k2, k3, k4⟩ := c12 h; exact ⟨g, x12_0, x12_1, x12_2, k1, k2, k3.keep hb, k4⟩), d16, (fun h => by obtain ⟨g, x13_0, x13_1, x13_2, k1, k2, k3, k4⟩ := c13 h; exact ⟨g, x13_0, x13_1, x13_2, k1, k2, k3.keep hb, k4⟩), d17, y10_11, y10_12, y10_13, y11_12, y11_13, y12_13⟩
    case s4r1 =>
      rintro L u W ⟨hB, c0, c1, c2, c3, c4, c5, c6, c7, c8, c9, c10, d14, c11, d15, c12, d16, c13, d17, y10_11, y10_12, y10_13, y11_12, y11_13, y12_13⟩ hf hd K hK
      dsimp only at hK
      clear hd
      go_simp
      refine hK _ _ ?_ (fun h => by cases h)
      intro s hs
      cases hs
      exact ⟨hB, c0, c1, c2, c3, (fun _ => rfl), c5, c6, c7, c8, c9, c10, d14, c11, d15, c12, d16, c13, d17, y10_11, y10_12, y10_13, y11_12, y11_13, y12_13⟩
    case s5r1 =>
      rintro L u W ⟨hB, c0, c1, c2, c3, c4, c5, c6, c7, c8, c9, c10, d14, c11, d15, c12, d16, c13, d17, y10_11, y10_12, y10_13, y11_12, y11_13, y12_13⟩ hf hd K hK
      dsimp only at hK
      have hd4 : L 4 = true := (by first | (refine hd ⟨4, .data⟩ ?_ rfl; simp; done) | (refine hd ⟨4, .guard⟩ ?_ rfl; simp; done) | (refine hd ⟨4, .phase⟩ ?_ rfl; simp; done) | (refine hd ⟨4, .chain⟩ ?_ rfl; simp; done))
      have e4 := c4 hd4
      rw [e4] at hK
      have t0 := keepc hB b0
      have t1 := keepc hB b1
      have t2 := keepc hB b2
      clear hd4
      clear hd
      go_simp
      refine hK _ _ ?_ (fun h => by cases h)
      intro s hs
      cases hs
      exact ⟨hB, c0, c1, c2, c3, c4, (fun _ => rfl), c6, c7, c8, c9, c10, d14, c11, d15, c12, d16, c13, d17, y10_11, y10_12, y10_13, y11_12, y11_13, y12_13⟩
    case s6r1 =>
      rintro L u W ⟨hB, c0, c1, c2, c3, c4, c5, c6, c7, c8, c9, c10, d14, c11, d15, c12, d16, c13, d17, y10_11, y10_12, y10_13, y11_12, y11_13, y12_13⟩ hf hd K hK
      dsimp only at hK
      have hd5 : L 5 = true := (by first | (refine hd ⟨5, .data⟩ ?_ rfl; simp; done) | (refine hd ⟨5, .guard⟩ ?_ rfl; simp; done) | (refine hd ⟨5, .phase⟩ ?_ rfl; simp; done) | (refine hd ⟨5, .chain⟩ ?_ rfl; simp; done))
      have e5 := c5 hd5
      rw [e5] at hK
      clear hd5
      clear hd
      go_simp
      go_wp2_with (go_at_call 23; ((with_reducible refine (PC.out _ _ _ _).mono ?_); rintro e w5 ⟨rfl, hb⟩))
      refine hK _ _ ?_ (fun h => by cases h)
      intro s hs
      cases hs
      exact ⟨hB.trans (hb.mono hB.size), c0, c1, c2, c3, c4, c5, (fun _ => rfl), c7, c8, c9, (fun h => by obtain ⟨g, x10_0, x10_1, x10_2, k1, k2, k3, k4⟩ := c10 h; exact ⟨g, x10_0, x10_1, x10_2, k1, k2, k3.keep hb, k4⟩), d14, (fun h => by obtain ⟨g, x11_0, x11_1, x11_2, k1, k2, k3, k4⟩ := c11 h; exact ⟨g, x11_0, x11_1, x11_2, k1, k2, k3.keep hb, k4⟩), d15, (fun h => by obtain ⟨g, x12_0, x12_1, x12_2, k1, k2, k3, k4⟩ := c12 h; exact ⟨g, x12_0, x12_1, x12_2, k1, k2, k3.keep hb, k4⟩), d16, (fun h => by obtain ⟨g, x13_0, x13_1, x13_2, k1, k2, k3, k4⟩ := c13 h; exact ⟨g, x13_0, x13_1, x13_2, k1, k2, k3.keep hb, k4⟩), d17, y10_11, y10_12, y10_13, y11_12, y11_13, y12_13⟩
    case s7r1 =>
      rintro L u W ⟨hB, c0, c1, c2, c3, c4, c5, c6, c7, c8, c9, c10, d14, c11, d15, c12, d16, c13, d17, y10_11, y10_12, y10_13, y11_12, y11_13, y12_13⟩ hf hd K hK
      dsimp only at hK
      clear hd
      go_simp
      refine hK _ _ ?_ (fun h => by cases h)
      intro s hs
      cases hs
      exact ⟨hB, c0, c1, c2, c3, c4, c5, c6, (fun _ => rfl), c8, c9, c10, d14, c11, d15, c12, d16, c13, d17, y10_11, y10_12, y10_13, y11_12, y11_13, y12_13⟩
    case s8r1 =>
      rintro L u W ⟨hB, c0, c1, c2, c3, c4, c5, c6, c7, c8, c9, c10, d14, c11, d15, c12, d16, c13, d17, y10_11, y10_12, y10_13, y11_12, y11_13, y12_13⟩ hf hd K hK
      dsimp only at hK
      have hd7 : L 7 = true := (by first | (refine hd ⟨7, .data⟩ ?_ rfl; simp; done) | (refine hd ⟨7, .guard⟩ ?_ rfl; simp; done) | (refine hd ⟨7, .phase⟩ ?_ rfl; simp; done) | (refine hd ⟨7, .chain⟩ ?_ rfl; simp; done))
      have e7 := c7 hd7
      rw [e7] at hK
      have t0 := keepc hB b3
      have t1 := keepc hB b4
      have t2 := keepc hB b5
      clear hd7
      clear hd
      go_simp
      refine hK _ _ ?_ (fun h => by cases h)
      intro s hs
      cases hs
      exact ⟨hB, c0, c1, c2, c3, c4, c5, c6, c7, (fun _ => rfl), c9, c10, d14, c11, d15, c12, d16, c13, d17, y10_11, y10_12, y10_13, y11_12, y11_13, y12_13⟩
    case s9r1 =>
      rintro L u W ⟨hB, c0, c1, c2, c3, c4, c5, c6, c7, c8, c9, c10, d14, c11, d15, c12, d16, c13, d17, y10_11, y10_12, y10_13, y11_12, y11_13, y12_13⟩ hf hd K hK
      dsimp only at hK
      have hd8 : L 8 = true := (by first | (refine hd ⟨8, .data⟩ ?_ rfl; simp; done) | (refine hd ⟨8, .guard⟩ ?_ rfl; simp; done) | (refine hd ⟨8, .phase⟩ ?_ rfl; simp; done) | (refine hd ⟨8, .chain⟩ ?_ rfl; simp; done))
      have e8 := c8 hd8
      rw [e8] at hK
      clear hd8
      clear hd
      go_simp
      go_wp2_with (go_at_call 23; ((with_reducible refine (PC.out _ _ _ _).mono ?_); rintro e w5 ⟨rfl, hb⟩))
      refine hK _ _ ?_ (fun h => by cases h)
      intro s hs
      cases hs
      exact ⟨hB.trans (hb.mono hB.size), c0, c1, c2, c3, c4, c5, c6, c7, c8, (fun _ => rfl), (fun h => by obtain ⟨g, x10_0, x10_1, x10_2, k1, k2, k3, k4⟩ := c10 h; exact ⟨g, x10_0, x10_1, x10_2, k1, k2, k3.keep hb, k4⟩), d14, (fun h => by obtain ⟨g, x11_0, x11_1, x11_2, k1, k2, k3, k4⟩ := c11 h; exact ⟨g, x11_0, x11_1, x11_2, k1, k2, k3.keep hb, k4⟩), d15, (fun h => by obtain ⟨g, x12_0, x12_1, x12_2, k1, k2, k3, k4⟩ := c12 h; exact ⟨g, x12_0, x12_1, x12_2, k1, k2, k3.keep hb, k4⟩), d16, (fun h => by obtain ⟨g, x13_0, x13_1, x13_2, k1, k2, k3, k4⟩ := c13 h; exact ⟨g, x13_0, x13_1, x13_2, k1, k2, k3.keep hb, k4⟩), d17, y10_11, y10_12, y10_13, y11_12, y11_13, y12_13⟩
    case s10r1 =>
      rintro L u W ⟨hB, c0, c1, c2, c3, c4, c5, c6, c7, c8, c9, c10, d14, c11, d15, c12, d16, c13, d17, y10_11, y10_12, y10_13, y11_12, y11_13, y12_13⟩ hf hd K hK
      dsimp only at hK
      go_simp
      have hb : Below W.heap.size W (W.alloc (.cells #[.int .i64 0, .int .i64 0, .int .i64 0] 47)) := (Below.refl _ W).alloc (Nat.le_refl _) _
      refine hK _ _ ?_ (fun h => by cases h)
      intro s hs
      cases hs
      exact ⟨hB.trans (hb.mono hB.size), c0, c1, c2, c3, c4, c5, c6, c7, c8, c9, (fun _ => ⟨_, _, _, _, rfl, hB.size, Lok.new _ _ _, fun h => absurd (d14 h) (by rw [hf]; decide)⟩), (fun _ => rfl), (fun h => by obtain ⟨g, x11_0, x11_1, x11_2, k1, k2, k3, k4⟩ := c11 h; exact ⟨g, x11_0, x11_1, x11_2, k1, k2, k3.keep hb, k4⟩), d15, (fun h => by obtain ⟨g, x12_0, x12_1, x12_2, k1, k2, k3, k4⟩ := c12 h; exact ⟨g, x12_0, x12_1, x12_2, k1, k2, k3.keep hb, k4⟩), d16, (fun h => by obtain ⟨g, x13_0, x13_1, x13_2, k1, k2, k3, k4⟩ := c13 h; exact ⟨g, x13_0, x13_1, x13_2, k1, k2, k3.keep hb, k4⟩), d17, (fun _ h => by obtain ⟨g, x11_0, x11_1, x11_2, k1, k2, k3, k4⟩ := c11 h; exact ptr_new k1 k3), (fun _ h => by obtain ⟨g, x12_0, x12_1, x12_2, k1, k2, k3, k4⟩ := c12 h; exact ptr_new k1 k3), (fun _ h => by obtain ⟨g, x13_0, x13_1, x13_2, k1, k2, k3, k4⟩ := c13 h; exact ptr_new k1 k3), y11_12, y11_13, y12_13⟩
    case s11r1 =>
      rintro L u W ⟨hB, c0, c1, c2, c3, c4, c5, c6, c7, c8, c9, c10, d14, c11, d15, c12, d16, c13, d17, y10_11, y10_12, y10_13, y11_12, y11_13, y12_13⟩ hf hd K hK
      dsimp only at hK
      go_simp
      have hb : Below W.heap.size W (W.alloc (.cells #[.int .i64 0, .int .i64 0, .int .i64 0] 47)) := (Below.refl _ W).alloc (Nat.le_refl _) _
      refine hK _ _ ?_ (fun h => by cases h)
      intro s hs
      cases hs
      exact ⟨hB.trans (hb.mono hB.size), c0, c1, c2, c3, c4, c5, c6, c7, c8, c9, (fun h => by obtain ⟨g, x10_0, x10_1, x10_2, k1, k2, k3, k4⟩ := c10 h; exact ⟨g, x10_0, x10_1, x10_2, k1, k2, k3.keep hb, k4⟩), d14, (fun _ => ⟨_, _, _, _, rfl, hB.size, Lok.new _ _ _, fun h => absurd (d15 h) (by rw [hf]; decide)⟩), (fun _ => rfl), (fun h => by obtain ⟨g, x12_0, x12_1, x12_2, k1, k2, k3, k4⟩ := c12 h; exact ⟨g, x12_0, x12_1, x12_2, k1, k2, k3.keep hb, k4⟩), d16, (fun h => by obtain ⟨g, x13_0, x13_1, x13_2, k1, k2, k3, k4⟩ := c13 h; exact ⟨g, x13_0, x13_1, x13_2, k1, k2, k3.keep hb, k4⟩), d17, (fun h _ => by obtain ⟨g, x10_0, x10_1, x10_2, k1, k2, k3, k4⟩ := c10 h; exact ptr_new2 k1 k3), y10_12, y10_13, (fun _ h => by obtain ⟨g, x12_0, x12_1, x12_2, k1, k2, k3, k4⟩ := c12 h; exact ptr_new k1 k3), (fun _ h => by obtain ⟨g, x13_0, x13_1, x13_2, k1, k2, k3, k4⟩ := c13 h; exact ptr_new k1 k3), y12_13⟩
    case s12r1 =>
      rintro L u W ⟨hB, c0, c1, c2, c3, c4, c5, c6, c7, c8, c9, c10, d14, c11, d15, c12, d16, c13, d17, y10_11, y10_12, y10_13, y11_12, y11_13, y12_13⟩ hf hd K hK
      dsimp only at hK
      go_simp
      have hb : Below W.heap.size W (W.alloc (.cells #[.int .i64 0, .int .i64 0, .int .i64 0] 47)) := (Below.refl _ W).alloc (Nat.le_refl _) _
      refine hK _ _ ?_ (fun h => by cases h)
      intro s hs
      cases hs
      exact ⟨hB.trans (hb.mono hB.size), c0, c1, c2, c3, c4, c5, c6, c7, c8, c9, (fun h => by obtain ⟨g, x10_0, x10_1, x10_2, k1, k2, k3, k4⟩ := c10 h; exact ⟨g, x10_0, x10_1, x10_2, k1, k2, k3.keep hb, k4⟩), d14, (fun h => by obtain ⟨g, x11_0, x11_1, x11_2, k1, k2, k3, k4⟩ := c11 h; exact ⟨g, x11_0, x11_1, x11_2, k1, k2, k3.keep hb, k4⟩), d15, (fun _ => ⟨_, _, _, _, rfl, hB.size, Lok.new _ _ _, fun h => absurd (d16 h) (by rw [hf]; decide)⟩), (fun _ => rfl), (fun h => by obtain ⟨g, x13_0, x13_1, x13_2, k1, k2, k3, k4⟩ := c13 h; exact ⟨g, x13_0, x13_1, x13_2, k1, k2, k3.keep hb, k4⟩), d17, y10_11, (fun h _ => by obtain ⟨g, x10_0, x10_1, x10_2, k1, k2, k3, k4⟩ := c10 h; exact ptr_new2 k1 k3), y10_13, (fun h _ => by obtain ⟨g, x11_0, x11_1, x11_2, k1, k2, k3, k4⟩ := c11 h; exact ptr_new2 k1 k3), y11_13, (fun _ h => by obtain ⟨g, x13_0, x13_1, x13_2, k1, k2, k3, k4⟩ := c13 h; exact ptr_new k1 k3)⟩
    case s13r1 =>
      rintro L u W ⟨hB, c0, c1, c2, c3, c4, c5, c6, c7, c8, c9, c10, d14, c11, d15, c12, d16, c13, d17, y10_11, y10_12, y10_13, y11_12, y11_13, y12_13⟩ hf hd K hK
      dsimp only at hK
      go_simp
      have hb : Below W.heap.size W (W.alloc (.cells #[.int .i64 0, .int .i64 0, .int .i64 0] 47)) := (Below.refl _ W).alloc (Nat.le_refl _) _
      refine hK _ _ ?_ (fun h => by cases h)
      intro s hs
      cases hs
      exact ⟨hB.trans (hb.mono hB.size), c0, c1, c2, c3, c4, c5, c6, c7, c8, c9, (fun h => by obtain ⟨g, x10_0, x10_1, x10_2, k1, k2, k3, k4⟩ := c10 h; exact ⟨g, x10_0, x10_1, x10_2, k1, k2, k3.keep hb, k4⟩), d14, (fun h => by obtain ⟨g, x11_0, x11_1, x11_2, k1, k2, k3, k4⟩ := c11 h; exact ⟨g, x11_0, x11_1, x11_2, k1, k2, k3.keep hb, k4⟩), d15, (fun h => by obtain ⟨g, x12_0, x12_1, x12_2, k1, k2, k3, k4⟩ := c12 h; exact ⟨g, x12_0, x12_1, x12_2, k1, k2, k3.keep hb, k4⟩), d16, (fun _ => ⟨_, _, _, _, rfl, hB.size, Lok.new _ _ _, fun h => absurd (d17 h) (by rw [hf]; decide)⟩), (fun _ => rfl), y10_11, y10_12, (fun h _ => by obtain ⟨g, x10_0, x10_1, x10_2, k1, k2, k3, k4⟩ := c10 h; exact ptr_new2 k1 k3), y11_12, (fun h _ => by obtain ⟨g, x11_0, x11_1, x11_2, k1, k2, k3, k4⟩ := c11 h; exact ptr_new2 k1 k3), (fun h _ => by obtain ⟨g, x12_0, x12_1, x12_2, k1, k2, k3, k4⟩ := c12 h; exact ptr_new2 k1 k3)⟩
    case s14r1 =>
      rintro L u W ⟨hB, c0, c1, c2, c3, c4, c5, c6, c7, c8, c9, c10, d14, c11, d15, c12, d16, c13, d17, y10_11, y10_12, y10_13, y11_12, y11_13, y12_13⟩ hf hd K hK
      dsimp only at hK
      have hd10 : L 10 = true := hd ⟨10, .data⟩ (by simp) rfl
      have hd1 : L 1 = true := (by first | (refine hd ⟨1, .data⟩ ?_ rfl; simp; done) | (refine hd ⟨1, .guard⟩ ?_ rfl; simp; done) | (refine hd ⟨1, .phase⟩ ?_ rfl; simp; done) | (refine hd ⟨1, .chain⟩ ?_ rfl; simp; done))
      obtain ⟨g, x10_0, x10_1, x10_2, e10, k2, k3, k4⟩ := c10 hd10
      rw [e10] at hK
      have e1 := c1 hd1
      rw [e1] at hK
      have t0 := k3.cell (i := 0) rfl
      have f0 := k3.frozen 0
      have t1 := k3.cell (i := 1) rfl
      have f1 := k3.frozen 1
      have t2 := k3.cell (i := 2) rfl
      have f2 := k3.frozen 2
      have HH := Lib.hid (And.intro trivial trivial)
      clear hd
      have hd10' := Lib.hid hd10
      clear hd10
      have hd1' := Lib.hid hd1
      clear hd1
      go_simp
      have hd10 := hd10'.out
      have hd1 := hd1'.out
      have hlok := ((k3.set (i := 0) (v := .int .i64 pa1)).set (i := 1) (v := .int .i64 pa2)).set (i := 2) (v := .int .i64 pa3)
      refine hK undef _ (fun s h => by cases h) (fun _ => ?_)
      exact ⟨((hB.setCell k2 _).setCell k2 _).setCell k2 _, c0, (fun _ => rfl), c2, c3, c4, c5, c6, c7, c8, c9, (fun _ => ⟨g, _, _, _, rfl, k2, hlok, fun _ => ⟨rfl, rfl, rfl⟩⟩), (fun _ => hd10), (fun h => by obtain ⟨g2, x11_0, x11_1, x11_2, m1, m2, m3, m4⟩ := c11 h; have hne := ptr_apart (y10_11 hd10 h) e10 m1; exact ⟨g2, x11_0, x11_1, x11_2, m1, m2, ((m3.far hne).far hne).far hne, m4⟩), d15, (fun h => by obtain ⟨g2, x12_0, x12_1, x12_2, m1, m2, m3, m4⟩ := c12 h; have hne := ptr_apart (y10_12 hd10 h) e10 m1; exact ⟨g2, x12_0, x12_1, x12_2, m1, m2, ((m3.far hne).far hne).far hne, m4⟩), d16, (fun h => by obtain ⟨g2, x13_0, x13_1, x13_2, m1, m2, m3, m4⟩ := c13 h; have hne := ptr_apart (y10_13 hd10 h) e10 m1; exact ⟨g2, x13_0, x13_1, x13_2, m1, m2, ((m3.far hne).far hne).far hne, m4⟩), d17, (fun h1 h2 => by first | exact y10_11 h1 h2 | (rw [← e10]; exact y10_11 h1 h2)), (fun h1 h2 => by first | exact y10_12 h1 h2 | (rw [← e10]; exact y10_12 h1 h2)), (fun h1 h2 => by first | exact y10_13 h1 h2 | (rw [← e10]; exact y10_13 h1 h2)), (fun h1 h2 => by first | exact y11_12 h1 h2 | (rw [← e10]; exact y11_12 h1 h2)), (fun h1 h2 => by first | exact y11_13 h1 h2 | (rw [← e10]; exact y11_13 h1 h2)), (fun h1 h2 => by first | exact y12_13 h1 h2 | (rw [← e10]; exact y12_13 h1 h2))⟩
    case s15r1 =>
      rintro L u W ⟨hB, c0, c1, c2, c3, c4, c5, c6, c7, c8, c9, c10, d14, c11, d15, c12, d16, c13, d17, y10_11, y10_12, y10_13, y11_12, y11_13, y12_13⟩ hf hd K hK
      dsimp only at hK
      have hd11 : L 11 = true := hd ⟨11, .data⟩ (by simp) rfl
      have hd3 : L 3 = true := (by first | (refine hd ⟨3, .data⟩ ?_ rfl; simp; done) | (refine hd ⟨3, .guard⟩ ?_ rfl; simp; done) | (refine hd ⟨3, .phase⟩ ?_ rfl; simp; done) | (refine hd ⟨3, .chain⟩ ?_ rfl; simp; done))
      obtain ⟨g, x11_0, x11_1, x11_2, e11, k2, k3, k4⟩ := c11 hd11
      rw [e11] at hK
      have e3 := c3 hd3
      rw [e3] at hK
      have t0 := k3.cell (i := 0) rfl
      have f0 := k3.frozen 0
      have t1 := k3.cell (i := 1) rfl
      have f1 := k3.frozen 1
      have t2 := k3.cell (i := 2) rfl
      have f2 := k3.frozen 2
      have HH := Lib.hid (And.intro trivial trivial)
      clear hd
      have hd11' := Lib.hid hd11
      clear hd11
      have hd3' := Lib.hid hd3
      clear hd3
      go_simp
      have hd11 := hd11'.out
      have hd3 := hd3'.out
      have hlok := ((k3.set (i := 0) (v := .int .i64 pc1)).set (i := 1) (v := .int .i64 pc2)).set (i := 2) (v := .int .i64 pc3)
      refine hK undef _ (fun s h => by cases h) (fun _ => ?_)
      exact ⟨((hB.setCell k2 _).setCell k2 _).setCell k2 _, c0, c1, c2, (fun _ => rfl), c4, c5, c6, c7, c8, c9, (fun h => by obtain ⟨g2, x10_0, x10_1, x10_2, m1, m2, m3, m4⟩ := c10 h; have hne := ptr_apart2 (y10_11 h hd11) m1 e11; exact ⟨g2, x10_0, x10_1, x10_2, m1, m2, ((m3.far hne).far hne).far hne, m4⟩), d14, (fun _ => ⟨g, _, _, _, rfl, k2, hlok, fun _ => ⟨rfl, rfl, rfl⟩⟩), (fun _ => hd11), (fun h => by obtain ⟨g2, x12_0, x12_1, x12_2, m1, m2, m3, m4⟩ := c12 h; have hne := ptr_apart (y11_12 hd11 h) e11 m1; exact ⟨g2, x12_0, x12_1, x12_2, m1, m2, ((m3.far hne).far hne).far hne, m4⟩), d16, (fun h => by obtain ⟨g2, x13_0, x13_1, x13_2, m1, m2, m3, m4⟩ := c13 h; have hne := ptr_apart (y11_13 hd11 h) e11 m1; exact ⟨g2, x13_0, x13_1, x13_2, m1, m2, ((m3.far hne).far hne).far hne, m4⟩), d17, (fun h1 h2 => by first | exact y10_11 h1 h2 | (rw [← e11]; exact y10_11 h1 h2)), (fun h1 h2 => by first | exact y10_12 h1 h2 | (rw [← e11]; exact y10_12 h1 h2)), (fun h1 h2 => by first | exact y10_13 h1 h2 | (rw [← e11]; exact y10_13 h1 h2)), (fun h1 h2 => by first | exact y11_12 h1 h2 | (rw [← e11]; exact y11_12 h1 h2)), (fun h1 h2 => by first | exact y11_13 h1 h2 | (rw [← e11]; exact y11_13 h1 h2)), (fun h1 h2 => by first | exact y12_13 h1 h2 | (rw [← e11]; exact y12_13 h1 h2))⟩
    case s16r1 =>
      rintro L u W ⟨hB, c0, c1, c2, c3, c4, c5, c6, c7, c8, c9, c10, d14, c11, d15, c12, d16, c13, d17, y10_11, y10_12, y10_13, y11_12, y11_13, y12_13⟩ hf hd K hK
      dsimp only at hK
      have hd12 : L 12 = true := hd ⟨12, .data⟩ (by simp) rfl
      have hd6 : L 6 = true := (by first | (refine hd ⟨6, .data⟩ ?_ rfl; simp; done) | (refine hd ⟨6, .guard⟩ ?_ rfl; simp; done) | (refine hd ⟨6, .phase⟩ ?_ rfl; simp; done) | (refine hd ⟨6, .chain⟩ ?_ rfl; simp; done))
      obtain ⟨g, x12_0, x12_1, x12_2, e12, k2, k3, k4⟩ := c12 hd12
      rw [e12] at hK
      have e6 := c6 hd6
      rw [e6] at hK
      have t0 := k3.cell (i := 0) rfl
      have f0 := k3.frozen 0
      have t1 := k3.cell (i := 1) rfl
      have f1 := k3.frozen 1
      have t2 := k3.cell (i := 2) rfl
      have f2 := k3.frozen 2
      have HH := Lib.hid (And.intro trivial trivial)
      clear hd
      have hd12' := Lib.hid hd12
      clear hd12
      have hd6' := Lib.hid hd6
      clear hd6
      go_simp
      have hd12 := hd12'.out
      have hd6 := hd6'.out
      have hlok := ((k3.set (i := 0) (v := .int .i64 pl1)).set (i := 1) (v := .int .i64 pl2)).set (i := 2) (v := .int .i64 pl3)
      refine hK undef _ (fun s h => by cases h) (fun _ => ?_)
      exact ⟨((hB.setCell k2 _).setCell k2 _).setCell k2 _, c0, c1, c2, c3, c4, c5, (fun _ => rfl), c7, c8, c9, (fun h => by obtain ⟨g2, x10_0, x10_1, x10_2, m1, m2, m3, m4⟩ := c10 h; have hne := ptr_apart2 (y10_12 h hd12) m1 e12; exact ⟨g2, x10_0, x10_1, x10_2, m1, m2, ((m3.far hne).far hne).far hne, m4⟩), d14, (fun h => by obtain ⟨g2, x11_0, x11_1, x11_2, m1, m2, m3, m4⟩ := c11 h; have hne := ptr_apart2 (y11_12 h hd12) m1 e12; exact ⟨g2, x11_0, x11_1, x11_2, m1, m2, ((m3.far hne).far hne).far hne, m4⟩), d15, (fun _ => ⟨g, _, _, _, rfl, k2, hlok, fun _ => ⟨rfl, rfl, rfl⟩⟩), (fun _ => hd12), (fun h => by obtain ⟨g2, x13_0, x13_1, x13_2, m1, m2, m3, m4⟩ := c13 h; have hne := ptr_apart (y12_13 hd12 h) e12 m1; exact ⟨g2, x13_0, x13_1, x13_2, m1, m2, ((m3.far hne).far hne).far hne, m4⟩), d17, (fun h1 h2 => by first | exact y10_11 h1 h2 | (rw [← e12]; exact y10_11 h1 h2)), (fun h1 h2 => by first | exact y10_12 h1 h2 | (rw [← e12]; exact y10_12 h1 h2)), (fun h1 h2 => by first | exact y10_13 h1 h2 | (rw [← e12]; exact y10_13 h1 h2)), (fun h1 h2 => by first | exact y11_12 h1 h2 | (rw [← e12]; exact y11_12 h1 h2)), (fun h1 h2 => by first | exact y11_13 h1 h2 | (rw [← e12]; exact y11_13 h1 h2)), (fun h1 h2 => by first | exact y12_13 h1 h2 | (rw [← e12]; exact y12_13 h1 h2))⟩
    case s17r1 =>
      rintro L u W ⟨hB, c0, c1, c2, c3, c4, c5, c6, c7, c8, c9, c10, d14, c11, d15, c12, d16, c13, d17, y10_11, y10_12, y10_13, y11_12, y11_13, y12_13⟩ hf hd K hK
      dsimp only at hK
      have hd13 : L 13 = true := hd ⟨13, .data⟩ (by simp) rfl
      have hd9 : L 9 = true := (by first | (refine hd ⟨9, .data⟩ ?_ rfl; simp; done) | (refine hd ⟨9, .guard⟩ ?_ rfl; simp; done) | (refine hd ⟨9, .phase⟩ ?_ rfl; simp; done) | (refine hd ⟨9, .chain⟩ ?_ rfl; simp; done))
      obtain ⟨g, x13_0, x13_1, x13_2, e13, k2, k3, k4⟩ := c13 hd13
      rw [e13] at hK
      have e9 := c9 hd9
      rw [e9] at hK
      have t0 := k3.cell (i := 0) rfl
      have f0 := k3.frozen 0
      have t1 := k3.cell (i := 1) rfl
      have f1 := k3.frozen 1
      have t2 := k3.cell (i := 2) rfl
      have f2 := k3.frozen 2
      have HH := Lib.hid (And.intro trivial trivial)
      clear hd
      have hd13' := Lib.hid hd13
      clear hd13
      have hd9' := Lib.hid hd9
      clear hd9
      go_simp
      have hd13 := hd13'.out
      have hd9 := hd9'.out
      have hlok := ((k3.set (i := 0) (v := .int .i64 ph1)).set (i := 1) (v := .int .i64 ph2)).set (i := 2) (v := .int .i64 ph3)
      refine hK undef _ (fun s h => by cases h) (fun _ => ?_)
      exact ⟨((hB.setCell k2 _).setCell k2 _).setCell k2 _, c0, c1, c2, c3, c4, c5, c6, c7, c8, (fun _ => rfl), (fun h => by obtain ⟨g2, x10_0, x10_1, x10_2, m1, m2, m3, m4⟩ := c10 h; have hne := ptr_apart2 (y10_13 h hd13) m1 e13; exact ⟨g2, x10_0, x10_1, x10_2, m1, m2, ((m3.far hne).far hne).far hne, m4⟩), d14, (fun h => by obtain ⟨g2, x11_0, x11_1, x11_2, m1, m2, m3, m4⟩ := c11 h; have hne := ptr_apart2 (y11_13 h hd13) m1 e13; exact ⟨g2, x11_0, x11_1, x11_2, m1, m2, ((m3.far hne).far hne).far hne, m4⟩), d15, (fun h => by obtain ⟨g2, x12_0, x12_1, x12_2, m1, m2, m3, m4⟩ := c12 h; have hne := ptr_apart2 (y12_13 h hd13) m1 e13; exact ⟨g2, x12_0, x12_1, x12_2, m1, m2, ((m3.far hne).far hne).far hne, m4⟩), d16, (fun _ => ⟨g, _, _, _, rfl, k2, hlok, fun _ => ⟨rfl, rfl, rfl⟩⟩), (fun _ => hd13), (fun h1 h2 => by first | exact y10_11 h1 h2 | (rw [← e13]; exact y10_11 h1 h2)), (fun h1 h2 => by first | exact y10_12 h1 h2 | (rw [← e13]; exact y10_12 h1 h2)), (fun h1 h2 => by first | exact y10_13 h1 h2 | (rw [← e13]; exact y10_13 h1 h2)), (fun h1 h2 => by first | exact y11_12 h1 h2 | (rw [← e13]; exact y11_12 h1 h2)), (fun h1 h2 => by first | exact y11_13 h1 h2 | (rw [← e13]; exact y11_13 h1 h2)), (fun h1 h2 => by first | exact y12_13 h1 h2 | (rw [← e13]; exact y12_13 h1 h2))⟩
  case finr1 =>
    rintro L u W hL ⟨hB, c0, c1, c2, c3, c4, c5, c6, c7, c8, c9, c10, d14, c11, d15, c12, d16, c13, d17, y10_11, y10_12, y10_13, y11_12, y11_13, y12_13⟩
    have e0 := c0 (hL 0 (by decide))
    have e1 := c1 (hL 1 (by decide))
    have e2 := c2 (hL 2 (by decide))
    have e3 := c3 (hL 3 (by decide))
    have e4 := c4 (hL 4 (by decide))
    have e5 := c5 (hL 5 (by decide))
    have e6 := c6 (hL 6 (by decide))
    have e7 := c7 (hL 7 (by decide))
    have e8 := c8 (hL 8 (by decide))
    have e9 := c9 (hL 9 (by decide))
    obtain ⟨g10, x10_0, x10_1, x10_2, e10, hg10, hlok10, hst10⟩ := c10 (hL 10 (by decide))
    obtain ⟨rfl, rfl, rfl⟩ := hst10 (hL 14 (by decide))
    clear hst10
    obtain ⟨g11, x11_0, x11_1, x11_2, e11, hg11, hlok11, hst11⟩ := c11 (hL 11 (by decide))
    obtain ⟨rfl, rfl, rfl⟩ := hst11 (hL 15 (by decide))
    clear hst11
    obtain ⟨g12, x12_0, x12_1, x12_2, e12, hg12, hlok12, hst12⟩ := c12 (hL 12 (by decide))
    obtain ⟨rfl, rfl, rfl⟩ := hst12 (hL 16 (by decide))
    clear hst12
    obtain ⟨g13, x13_0, x13_1, x13_2, e13, hg13, hlok13, hst13⟩ := c13 (hL 13 (by decide))
    obtain ⟨rfl, rfl, rfl⟩ := hst13 (hL 17 (by decide))
    clear hst13
    clear hL c0 c1 c2 c3 c4 c5 c6 c7 c8 c9 c10 d14 c11 d15 c12 d16 c13 d17 y10_11 y10_12 y10_13 y11_12 y11_13 y12_13
    try simp only [e0, e1, e2, e3, e4, e5, e6, e7, e8, e9, e10, e11, e12, e13]
    clear e0 e1 e2 e3 e4 e5 e6 e7 e8 e9 e10 e11 e12 e13
    go_wp2_with fail
    go_ret
    exact ⟨⟨g10, g11, g12, g13, rfl, hlok10, hlok11, hlok12, hlok13⟩, HB.out.trans (hB.mono HB.out.size)⟩
set_option maxRecDepth 100000 in
set_option maxHeartbeats 8000000 in
theorem together_any (a c l h : Nat → Int) (hF : ∀ k, FR (waF (a k) (c k) (l k) (h k)) (waD (a k) (c k))) (hL : ∀ k, FR (waL (a k) (c k) (l k) (h k)) (waD (a k) (c k))) (m1 m2 m3 m4 : Value) (w : World)
    (HC : Hid (∀ (k : Nat) (W : World), k < 3 → Below w.heap.size w W → Calls Try.prog 39 #[.int .i64 k, m1, m2, m3, m4] W fun e w' => e = .returned (.tuple #[.agg #[.int .i64 (waF (a k) (c k) (l k) (h k)), .int .i64 (waD (a k) (c k))], .agg #[.int .i64 (waL (a k) (c k) (l k) (h k)), .int .i64 (waD (a k) (c k))]]) ∧ Below W.heap.size W w')) :
    Calls Try.prog 27 #[.func (.func 39) #[] #[m1, m2, m3, m4]] w fun e' w' => e' = .returned (.bool (tgB a c l h)) ∧ Below w.heap.size w w' := by
  have HB := Lib.hid (Below.refl w.heap.size w)
  have FC := Lib.hid (fun an ad bn bd W => fcmp_any an ad bn bd W)
  go_enter Try.func27, Try.ntmps27
  go_wp2_with fail
  have hbe := below_new1 w (.cells #[.int .i64 0, .int .i64 1] 56)
  have ze : (w.alloc (.cells #[.int .i64 0, .int .i64 1] 56)).heap.size = w.heap.size + 1 := by simp
  have HB := Lib.hid hbe
  have ke := Lib.hid (Lok.new w 56 #[.int .i64 0, .int .i64 1])
  clear hbe
  generalize w.alloc (.cells #[.int .i64 0, .int .i64 1] 56) = Ve at *
  have hbv := below_new1 Ve (.cells #[.int .i64 1, .int .i64 1] 56)
  replace ke := Lib.hid (ke.out.keep hbv)
  have zv : (Ve.alloc (.cells #[.int .i64 1, .int .i64 1] 56)).heap.size = Ve.heap.size + 1 := by simp
  replace HB := Lib.hid (HB.out.trans (hbv.mono HB.out.size))
  have kv := Lib.hid (Lok.new Ve 56 #[.int .i64 1, .int .i64 1])
  clear hbv
  generalize Ve.alloc (.cells #[.int .i64 1, .int .i64 1] 56) = Vv at *
  rw [ze] at kv
  clear ze zv
  have n1 : ¬ w.heap.size + 1 = w.heap.size := by omega
  have n2 : ¬ w.heap.size = w.heap.size + 1 := by omega
  go_loopw [10] (fun y wr => ∃ k : Nat, y = .int .i64 k ∧ k ≤ 3 ∧ Below w.heap.size w wr ∧ Lok wr w.heap.size 56 #[.int .i64 (enN a c l h k).1, .int .i64 (enN a c l h k).2] ∧ Lok wr (w.heap.size + 1) 56 #[.int .i64 (lvN a c l h k).1, .int .i64 (lvN a c l h k).2]) (fun y _ => 3 - (intOf y).toNat)
  case atStart => exact ⟨0, rfl, Nat.zero_le _, HB.out, ke.out, kv.out⟩
  case round =>
    clear HB ke kv
    obtain ⟨k, rfl, hk, hB, h3, h4⟩ := hrel
    have HB := Lib.hid hB
    have ke := Lib.hid h3
    have kv := Lib.hid h4
    clear hB h3 h4
    by_cases hlt : k < 3
    · have CC := Lib.hid (fun W (q : Below w.heap.size w W) => HC.out k W hlt q)
      have E1 := Lib.hid (en_step (cmpF_gt (hF k) (en_fr hF k)))
      have E2 := Lib.hid (lv_step (cmpF_lt (hL k) (lv_fr hL k)))
      generalize waF (a k) (c k) (l k) (h k) = fn at *
      generalize waL (a k) (c k) (l k) (h k) = tn at *
      generalize waD (a k) (c k) = fd at *
      generalize (enN a c l h k).1 = en at *
      generalize (enN a c l h k).2 = ed at *
      generalize (lvN a c l h k).1 = ln at *
      generalize (lvN a c l h k).2 = ld at *
      have C1 := Lib.hid (fun W => FC.out fn fd en ed W)
      have C2 := Lib.hid (fun W => FC.out tn fd ln ld W)
      generalize cmpF fn fd en ed = z1 at *
      generalize cmpF tn fd ln ld = z2 at *
      clear FC
      have i0 : (0 : Int) ≤ (k : Int) := by omega
      have i1 : (k : Int) < 3 := by omega
      have i2 : ((k : Int)).toNat = k := by omega
      go_wp2_with fail
      (((with_reducible refine (CC.out _ HB.out).mono ?_); rintro e w1 ⟨rfl, hb1⟩); replace HB := Lib.hid (HB.out.trans (hb1.mono HB.out.size)); replace ke := Lib.hid (ke.out.keep hb1); replace kv := Lib.hid (kv.out.keep hb1); clear hb1)
      clear CC
      have ne1 : w.heap.size + 1 < w1.heap.size := kv.out.lt
      go_upto_region 6 with fail
      have hbp := below_new1 w1 (.cells #[.int .i64 fn, .int .i64 fd] 56)
      replace ke := Lib.hid (ke.out.keep hbp)
      replace kv := Lib.hid (kv.out.keep hbp)
      have zp : (w1.alloc (.cells #[.int .i64 fn, .int .i64 fd] 56)).heap.size = w1.heap.size + 1 := by simp
      replace HB := Lib.hid (HB.out.trans (hbp.mono HB.out.size))
      have kp := Lib.hid (Lok.new w1 56 #[.int .i64 fn, .int .i64 fd])
      clear hbp
      generalize w1.alloc (.cells #[.int .i64 fn, .int .i64 fd] 56) = Vp at *
      have hbq := below_new1 Vp (.cells #[.int .i64 tn, .int .i64 fd] 56)
      replace ke := Lib.hid (ke.out.keep hbq)
      replace kv := Lib.hid (kv.out.keep hbq)
      replace kp := Lib.hid (kp.out.keep hbq)
      have zq : (Vp.alloc (.cells #[.int .i64 tn, .int .i64 fd] 56)).heap.size = Vp.heap.size + 1 := by simp
      replace HB := Lib.hid (HB.out.trans (hbq.mono HB.out.size))
      have kq := Lib.hid (Lok.new Vp 56 #[.int .i64 tn, .int .i64 fd])
      clear hbq
      generalize Vp.alloc (.cells #[.int .i64 tn, .int .i64 fd] 56) = Vq at *
      rw [zp] at kq
      clear zp zq
      generalize w1.heap.size = gp at *
      have e0 := ke.out.cell (i := 0) rfl
      have e1 := ke.out.cell (i := 1) rfl
      have v0 := kv.out.cell (i := 0) rfl
      have v1 := kv.out.cell (i := 1) rfl
      have p0 := kp.out.cell (i := 0) rfl
      have p1 := kp.out.cell (i := 1) rfl
      have q0 := kq.out.cell (i := 0) rfl
      have q1 := kq.out.cell (i := 1) rfl
      have fe0 := ke.out.frozen 0
      have fe1 := ke.out.frozen 1
      have fv0 := kv.out.frozen 0
      have fv1 := kv.out.frozen 1
      go_wp2_with fail
      (((with_reducible refine (C1.out _).mono ?_); rintro e w2 ⟨rfl, hb2⟩); replace HB := Lib.hid (HB.out.trans (hb2.mono HB.out.size)); replace ke := Lib.hid (ke.out.keep hb2); replace kv := Lib.hid (kv.out.keep hb2); replace kp := Lib.hid (kp.out.keep hb2); replace kq := Lib.hid (kq.out.keep hb2); clear hb2)
      clear C1
      clear e0 e1 v0 v1 p0 p1 q0 q1 fe0 fe1 fv0 fv1
      by_cases hz1 : 0 < z1
      · have e0 := ke.out.cell (i := 0) rfl
        have e1 := ke.out.cell (i := 1) rfl
        have v0 := kv.out.cell (i := 0) rfl
        have v1 := kv.out.cell (i := 1) rfl
        have p0 := kp.out.cell (i := 0) rfl
        have p1 := kp.out.cell (i := 1) rfl
        have q0 := kq.out.cell (i := 0) rfl
        have q1 := kq.out.cell (i := 1) rfl
        have fe0 := ke.out.frozen 0
        have fe1 := ke.out.frozen 1
        have fv0 := kv.out.frozen 0
        have fv1 := kv.out.frozen 1
        go_wp2_with fail
        replace HB := Lib.hid ((HB.out.setCell (p := ⟨w.heap.size, 0, none⟩) (by simp <;> omega) (.int .i64 fn)).setCell (p := ⟨w.heap.size, 1, none⟩) (by simp <;> omega) (.int .i64 fd))
        replace ke := Lib.hid ((ke.out.set (i := 0) (v := .int .i64 fn)).set (i := 1) (v := .int .i64 fd))
        replace kv := Lib.hid ((kv.out.far (g' := w.heap.size) (i := 0) (v := .int .i64 fn) (by omega)).far (g' := w.heap.size) (i := 1) (v := .int .i64 fd) (by omega))
        replace kq := Lib.hid ((kq.out.far (g' := w.heap.size) (i := 0) (v := .int .i64 fn) (by omega)).far (g' := w.heap.size) (i := 1) (v := .int .i64 fd) (by omega))
        clear e0 e1 v0 v1 p0 p1 q0 q1 fe0 fe1 fv0 fv1
        clear kp
        (((with_reducible refine (C2.out _).mono ?_); rintro e w3 ⟨rfl, hb3⟩); replace HB := Lib.hid (HB.out.trans (hb3.mono HB.out.size)); replace ke := Lib.hid (ke.out.keep hb3); replace kv := Lib.hid (kv.out.keep hb3); replace kq := Lib.hid (kq.out.keep hb3); clear hb3)
        clear C2
        by_cases hz2 : z2 < 0
        · have v0 := kv.out.cell (i := 0) rfl
          have v1 := kv.out.cell (i := 1) rfl
          have q0 := kq.out.cell (i := 0) rfl
          have q1 := kq.out.cell (i := 1) rfl
          have fv0 := kv.out.frozen 0
          have fv1 := kv.out.frozen 1
          go_wp2_with fail
          go_roundw
          case rel =>
            refine ⟨k + 1, by go_num, hlt, (HB.out.setCell (by simp <;> omega) _).setCell (by simp <;> omega) _, ?_, ?_⟩
            · rw [(E1.out.1 hz1).1, (E1.out.1 hz1).2]; exact (ke.out.far (by simp <;> omega)).far (by simp <;> omega)
            · rw [(E2.out.1 hz2).1, (E2.out.1 hz2).2]; exact (kv.out.set (i := 0) (v := .int .i64 tn)).set (i := 1) (v := .int .i64 fd)
          case measure => simp [intOf]; omega
        · have v0 := kv.out.cell (i := 0) rfl
          have v1 := kv.out.cell (i := 1) rfl
          have q0 := kq.out.cell (i := 0) rfl
          have q1 := kq.out.cell (i := 1) rfl
          have fv0 := kv.out.frozen 0
          have fv1 := kv.out.frozen 1
          go_wp2_with fail
          go_roundw
          case rel =>
            refine ⟨k + 1, by go_num, hlt, HB.out, ?_, ?_⟩
            · rw [(E1.out.1 hz1).1, (E1.out.1 hz1).2]; exact ke.out
            · rw [(E2.out.2 hz2).1, (E2.out.2 hz2).2]; exact kv.out
          case measure => simp [intOf]; omega
      · have e0 := ke.out.cell (i := 0) rfl
        have e1 := ke.out.cell (i := 1) rfl
        have v0 := kv.out.cell (i := 0) rfl
        have v1 := kv.out.cell (i := 1) rfl
        have p0 := kp.out.cell (i := 0) rfl
        have p1 := kp.out.cell (i := 1) rfl
        have q0 := kq.out.cell (i := 0) rfl
        have q1 := kq.out.cell (i := 1) rfl
        have fe0 := ke.out.frozen 0
        have fe1 := ke.out.frozen 1
        have fv0 := kv.out.frozen 0
        have fv1 := kv.out.frozen 1
        go_wp2_with fail
        clear e0 e1 v0 v1 p0 p1 q0 q1 fe0 fe1 fv0 fv1
        clear kp
        (((with_reducible refine (C2.out _).mono ?_); rintro e w3 ⟨rfl, hb3⟩); replace HB := Lib.hid (HB.out.trans (hb3.mono HB.out.size)); replace ke := Lib.hid (ke.out.keep hb3); replace kv := Lib.hid (kv.out.keep hb3); replace kq := Lib.hid (kq.out.keep hb3); clear hb3)
        clear C2
        by_cases hz2 : z2 < 0
        · have v0 := kv.out.cell (i := 0) rfl
          have v1 := kv.out.cell (i := 1) rfl
          have q0 := kq.out.cell (i := 0) rfl
          have q1 := kq.out.cell (i := 1) rfl
          have fv0 := kv.out.frozen 0
          have fv1 := kv.out.frozen 1
          go_wp2_with fail
          go_roundw
          case rel =>
            refine ⟨k + 1, by go_num, hlt, (HB.out.setCell (by simp <;> omega) _).setCell (by simp <;> omega) _, ?_, ?_⟩
            · rw [(E1.out.2 hz1).1, (E1.out.2 hz1).2]; exact (ke.out.far (by simp <;> omega)).far (by simp <;> omega)
            · rw [(E2.out.1 hz2).1, (E2.out.1 hz2).2]; exact (kv.out.set (i := 0) (v := .int .i64 tn)).set (i := 1) (v := .int .i64 fd)
          case measure => simp [intOf]; omega
        · have v0 := kv.out.cell (i := 0) rfl
          have v1 := kv.out.cell (i := 1) rfl
          have q0 := kq.out.cell (i := 0) rfl
          have q1 := kq.out.cell (i := 1) rfl
          have fv0 := kv.out.frozen 0
          have fv1 := kv.out.frozen 1
          go_wp2_with fail
          go_roundw
          case rel =>
            refine ⟨k + 1, by go_num, hlt, HB.out, ?_, ?_⟩
            · rw [(E1.out.2 hz1).1, (E1.out.2 hz1).2]; exact ke.out
            · rw [(E2.out.2 hz2).1, (E2.out.2 hz2).2]; exact kv.out
          case measure => simp [intOf]; omega
    · obtain rfl : k = 3 := by omega
      have CE := Lib.hid (cmpF_le (en_fr hF 3) (lv_fr hL 3))
      have TG : Hid (tgB a c l h = decide ((enN a c l h 3).1 * (lvN a c l h 3).2 ≤ (lvN a c l h 3).1 * (enN a c l h 3).2)) := Lib.hid rfl
      generalize (enN a c l h 3).1 = en at *
      generalize (enN a c l h 3).2 = ed at *
      generalize (lvN a c l h 3).1 = ln at *
      generalize (lvN a c l h 3).2 = ld at *
      have C1 := Lib.hid (fun W => FC.out en ed ln ld W)
      generalize cmpF en ed ln ld = z at *
      have e0 := ke.out.cell (i := 0) rfl
      have e1 := ke.out.cell (i := 1) rfl
      have v0 := kv.out.cell (i := 0) rfl
      have v1 := kv.out.cell (i := 1) rfl
      go_wp2_with fail
      (((with_reducible refine (C1.out _).mono ?_); rintro e w1 ⟨rfl, hb1⟩); replace HB := Lib.hid (HB.out.trans (hb1.mono HB.out.size)); clear hb1)
      go_wp2
      go_ret
      exact ⟨by rw [TG.out, ← decide_eq_decide.2 CE.out]; rfl, HB.out⟩
end Go.Proofs.Ytfghjfgdjlkooaa
