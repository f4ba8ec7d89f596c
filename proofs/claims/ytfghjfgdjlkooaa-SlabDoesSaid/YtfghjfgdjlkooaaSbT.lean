/-
  The reference limewashref13: bounds, Meets. (gen/SbT.py)
-/
import Derived.Test.YtfghjfgdjlkooaaSbR
import Derived.Test.YtfghjfgdjlkooaaSbD
import Derived.Test.YtfghjfgdjlkooaaSbE
import Derived.Test.YtfghjfgdjlkooaaFsB
namespace Go.Proofs.Ytfghjfgdjlkooaa
open Go.RowKit

theorem up_nn {en ed fn fd : Int} (h : 0 ≤ en) (hd : 0 < ed) (k : 0 < fd) : 0 ≤ upN en ed fn fd := by
  unfold upN
  split
  · rename_i q
    have p : 0 ≤ en * fd := Int.mul_nonneg h (by omega)
    rcases Int.lt_or_le fn 0 with r | r
    · have := Int.mul_neg_of_neg_of_pos r hd; omega
    · exact r
  · exact h
theorem dn_le {ln ld tn td : Int} (h : ln ≤ ld) (hd : 0 < ld) (k : 0 < td) : dnN ln ld tn td ≤ dnD ln ld tn td := by
  unfold dnN dnD
  split
  · rename_i q
    have p := Int.mul_le_mul_of_nonneg_right h (show 0 ≤ td by omega)
    have e : ld * td = td * ld := Int.mul_comm _ _
    exact Int.le_of_lt (Int.lt_of_mul_lt_mul_right (show tn * ld < td * ld by omega) (by omega))
  · exact h
theorem en_nn (a c l h : Nat → Int) : ∀ k, 0 ≤ (enN a c l h k).1
  | 0 => Int.le_refl 0
  | k + 1 => up_nn (en_nn a c l h k) (en_pos a c l h k) (waD_pos _ _)
theorem lv_le (a c l h : Nat → Int) : ∀ k, (lvN a c l h k).1 ≤ (lvN a c l h k).2
  | 0 => Int.le_refl 1
  | k + 1 => dn_le (lv_le a c l h k) (lv_pos a c l h k) (waD_pos _ _)
set_option maxRecDepth 100000 in
set_option maxHeartbeats 8000000 in
theorem bounds_any (a c l h en ed ln ld : Int) (ha : SM 16384 a) (hc : SM 16384 c) (hl : SM 16384 l) (hh : SM 16384 h) (f1 : FR en ed) (f2 : FR ln ld) (h0 : 0 ≤ en) (h1 : ln ≤ ld) (w : World) :
    Calls Try.prog 30 #[.int .i64 a, .int .i64 c, .int .i64 l, .int .i64 h, .agg #[.int .i64 en, .int .i64 ed], .agg #[.int .i64 ln, .int .i64 ld]] w fun e' w' => e' = .returned (.tuple #[.agg #[.int .i64 (upN en ed (waF a c l h) (waD a c)), .int .i64 (upD en ed (waF a c l h) (waD a c))], .agg #[.int .i64 (dnN ln ld (waL a c l h) (waD a c)), .int .i64 (dnD ln ld (waL a c l h) (waD a c))], .bool (xaB a c l h)]) ∧ Below w.heap.size w w' := by
  have HB := Lib.hid (Below.refl w.heap.size w)
  have fw := wa_fr ha hc hl hh
  unfold SM at ha hc hl hh
  obtain ⟨d, ed'⟩ : ∃ d, d = c - a := ⟨_, rfl⟩
  have w1 : IntKind.i64.wrap (c - a) = d := by rw [ed']; exact IntWalk.i64_in _ (by omega)
  have w2 : IntKind.i64.wrap (l - a) = l - a := IntWalk.i64_in _ (by omega)
  have w3 : IntKind.i64.wrap (h - a) = h - a := IntWalk.i64_in _ (by omega)
  have w4 : IntKind.i64.wrap (-d) = -d := IntWalk.i64_in _ (by omega)
  have w5 : IntKind.i64.wrap (a - h) = -(h - a) := by rw [show -(h - a) = a - h by omega]; exact IntWalk.i64_in _ (by omega)
  have w6 : IntKind.i64.wrap (a - l) = -(l - a) := by rw [show -(l - a) = a - l by omega]; exact IntWalk.i64_in _ (by omega)
  have FC := Lib.hid (fun an ad bn bd W => rcmp_any an ad bn bd W)
  clear ha hc hl hh
  by_cases hd : d = 0
  · have dz : c - a = 0 := by omega
    have k1 : waF a c l h = 0 := by unfold waF; rw [if_neg (by omega), if_pos dz]
    have k2 : waL a c l h = 1 := by unfold waL; rw [if_neg (by omega), if_pos dz]
    have k3 : waD a c = 1 := by unfold waD; rw [if_neg (by omega), if_pos dz]
    rw [k1, k2, k3]
    rw [show upN en ed 0 1 = en from if_neg (by omega), show upD en ed 0 1 = ed from if_neg (by omega), show dnN ln ld 1 1 = ln from if_neg (by omega), show dnD ln ld 1 1 = ld from if_neg (by omega)]
    subst hd
    by_cases p : l ≤ a
    · have X : Hid (xaB a c l h = decide (a ≤ h)) := Lib.hid (by
        unfold xaB
        rw [if_pos dz, decide_eq_decide]
        omega)
      rw [X.out]
      clear X FC fw f1 f2 h0 h1 k1 k2 k3 dz ed' w2 w3 w4 w5 w6
      go_enter Try.func30, Try.ntmps30
      go_upto_region 1 with fail
      have hbe := below_new1 w (.cells #[.int .i64 en, .int .i64 ed] 56)
      have ze : (w.alloc (.cells #[.int .i64 en, .int .i64 ed] 56)).heap.size = w.heap.size + 1 := by simp
      have HB := Lib.hid hbe
      have ke := Lib.hid (Lok.new w 56 #[.int .i64 en, .int .i64 ed])
      clear hbe
      generalize w.alloc (.cells #[.int .i64 en, .int .i64 ed] 56) = Ve at *
      have hbv := below_new1 Ve (.cells #[.int .i64 ln, .int .i64 ld] 56)
      replace ke := Lib.hid (ke.out.keep hbv)
      have zv : (Ve.alloc (.cells #[.int .i64 ln, .int .i64 ld] 56)).heap.size = Ve.heap.size + 1 := by simp
      replace HB := Lib.hid (HB.out.trans (hbv.mono HB.out.size))
      have kv := Lib.hid (Lok.new Ve 56 #[.int .i64 ln, .int .i64 ld])
      clear hbv
      generalize Ve.alloc (.cells #[.int .i64 ln, .int .i64 ld] 56) = Vv at *
      rw [ze] at kv zv
      have hby := below_new1 Vv (.cells #[.int .i64 0, .int .i64 0] 56)
      replace ke := Lib.hid (ke.out.keep hby)
      replace kv := Lib.hid (kv.out.keep hby)
      have zy : (Vv.alloc (.cells #[.int .i64 0, .int .i64 0] 56)).heap.size = Vv.heap.size + 1 := by simp
      replace HB := Lib.hid (HB.out.trans (hby.mono HB.out.size))
      have ky := Lib.hid (Lok.new Vv 56 #[.int .i64 0, .int .i64 0])
      clear hby
      generalize Vv.alloc (.cells #[.int .i64 0, .int .i64 0] 56) = Vy at *
      rw [zv] at ky zy
      have hbz := below_new1 Vy (.cells #[.int .i64 0, .int .i64 0] 56)
      replace ke := Lib.hid (ke.out.keep hbz)
      replace kv := Lib.hid (kv.out.keep hbz)
      replace ky := Lib.hid (ky.out.keep hbz)
      have zz : (Vy.alloc (.cells #[.int .i64 0, .int .i64 0] 56)).heap.size = Vy.heap.size + 1 := by simp
      replace HB := Lib.hid (HB.out.trans (hbz.mono HB.out.size))
      have kz := Lib.hid (Lok.new Vy 56 #[.int .i64 0, .int .i64 0])
      clear hbz
      generalize Vy.alloc (.cells #[.int .i64 0, .int .i64 0] 56) = Vz at *
      rw [zy] at kz
      clear ze zv zy zz
      have e0 := ke.out.cell (i := 0) rfl
      have e1 := ke.out.cell (i := 1) rfl
      have v0 := kv.out.cell (i := 0) rfl
      have v1 := kv.out.cell (i := 1) rfl
      have y0 := ky.out.cell (i := 0) rfl
      have y1 := ky.out.cell (i := 1) rfl
      have z0 := kz.out.cell (i := 0) rfl
      have z1 := kz.out.cell (i := 1) rfl
      have fy0 := ky.out.frozen 0
      have fy1 := ky.out.frozen 1
      have fz0 := kz.out.frozen 0
      have fz1 := kz.out.frozen 1
      go_upto_region 3 with fail
      go_region
      go_wp2_with fail
      exact bodyPost_ret (v := .tuple #[.agg #[.int .i64 en, .int .i64 ed], .agg #[.int .i64 ln, .int .i64 ld], .bool (decide (a ≤ h))]) (by simp [results, Try.results30, go_sem, y0, y1, z0, z1]) rfl ⟨rfl, ((((HB.out.setCell (by simp <;> omega) _).setCell (by simp <;> omega) _).setCell (by simp <;> omega) _).setCell (by simp <;> omega) _).drew⟩
    · have X : Hid (xaB a c l h = false) := Lib.hid (by
        unfold xaB
        rw [if_pos dz, decide_eq_false_iff_not]
        omega)
      rw [X.out]
      clear X FC fw f1 f2 h0 h1 k1 k2 k3 dz ed' w2 w3 w4 w5 w6
      go_enter Try.func30, Try.ntmps30
      go_upto_region 1 with fail
      have hbe := below_new1 w (.cells #[.int .i64 en, .int .i64 ed] 56)
      have ze : (w.alloc (.cells #[.int .i64 en, .int .i64 ed] 56)).heap.size = w.heap.size + 1 := by simp
      have HB := Lib.hid hbe
      have ke := Lib.hid (Lok.new w 56 #[.int .i64 en, .int .i64 ed])
      clear hbe
      generalize w.alloc (.cells #[.int .i64 en, .int .i64 ed] 56) = Ve at *
      have hbv := below_new1 Ve (.cells #[.int .i64 ln, .int .i64 ld] 56)
      replace ke := Lib.hid (ke.out.keep hbv)
      have zv : (Ve.alloc (.cells #[.int .i64 ln, .int .i64 ld] 56)).heap.size = Ve.heap.size + 1 := by simp
      replace HB := Lib.hid (HB.out.trans (hbv.mono HB.out.size))
      have kv := Lib.hid (Lok.new Ve 56 #[.int .i64 ln, .int .i64 ld])
      clear hbv
      generalize Ve.alloc (.cells #[.int .i64 ln, .int .i64 ld] 56) = Vv at *
      rw [ze] at kv zv
      have hby := below_new1 Vv (.cells #[.int .i64 0, .int .i64 0] 56)
      replace ke := Lib.hid (ke.out.keep hby)
      replace kv := Lib.hid (kv.out.keep hby)
      have zy : (Vv.alloc (.cells #[.int .i64 0, .int .i64 0] 56)).heap.size = Vv.heap.size + 1 := by simp
      replace HB := Lib.hid (HB.out.trans (hby.mono HB.out.size))
      have ky := Lib.hid (Lok.new Vv 56 #[.int .i64 0, .int .i64 0])
      clear hby
      generalize Vv.alloc (.cells #[.int .i64 0, .int .i64 0] 56) = Vy at *
      rw [zv] at ky zy
      have hbz := below_new1 Vy (.cells #[.int .i64 0, .int .i64 0] 56)
      replace ke := Lib.hid (ke.out.keep hbz)
      replace kv := Lib.hid (kv.out.keep hbz)
      replace ky := Lib.hid (ky.out.keep hbz)
      have zz : (Vy.alloc (.cells #[.int .i64 0, .int .i64 0] 56)).heap.size = Vy.heap.size + 1 := by simp
      replace HB := Lib.hid (HB.out.trans (hbz.mono HB.out.size))
      have kz := Lib.hid (Lok.new Vy 56 #[.int .i64 0, .int .i64 0])
      clear hbz
      generalize Vy.alloc (.cells #[.int .i64 0, .int .i64 0] 56) = Vz at *
      rw [zy] at kz
      clear ze zv zy zz
      have e0 := ke.out.cell (i := 0) rfl
      have e1 := ke.out.cell (i := 1) rfl
      have v0 := kv.out.cell (i := 0) rfl
      have v1 := kv.out.cell (i := 1) rfl
      have y0 := ky.out.cell (i := 0) rfl
      have y1 := ky.out.cell (i := 1) rfl
      have z0 := kz.out.cell (i := 0) rfl
      have z1 := kz.out.cell (i := 1) rfl
      have fy0 := ky.out.frozen 0
      have fy1 := ky.out.frozen 1
      have fz0 := kz.out.frozen 0
      have fz1 := kz.out.frozen 1
      go_upto_region 3 with fail
      go_region
      go_wp2_with fail
      exact bodyPost_ret (v := .tuple #[.agg #[.int .i64 en, .int .i64 ed], .agg #[.int .i64 ln, .int .i64 ld], .bool false]) (by simp [results, Try.results30, go_sem, y0, y1, z0, z1]) rfl ⟨rfl, ((((HB.out.setCell (by simp <;> omega) _).setCell (by simp <;> omega) _).setCell (by simp <;> omega) _).setCell (by simp <;> omega) _).drew⟩
  · have nz : ¬ c - a = 0 := by omega
    have X : xaB a c l h = true := if_neg nz
    rw [X]
    have G1 := Lib.hid (cmpF_gt fw.1 f1)
    have G2 := Lib.hid (cmpF_lt fw.2 f2)
    have E1 : Hid (((0 < cmpF (waF a c l h) (waD a c) en ed → upN en ed (waF a c l h) (waD a c) = waF a c l h) ∧ (¬ 0 < cmpF (waF a c l h) (waD a c) en ed → upN en ed (waF a c l h) (waD a c) = en)) ∧ (0 < cmpF (waF a c l h) (waD a c) en ed → upD en ed (waF a c l h) (waD a c) = waD a c) ∧ (¬ 0 < cmpF (waF a c l h) (waD a c) en ed → upD en ed (waF a c l h) (waD a c) = ed)) :=
      Lib.hid ⟨⟨fun q => if_pos (G1.out.1 q), fun q => if_neg (fun r => q (G1.out.2 r))⟩, fun q => if_pos (G1.out.1 q), fun q => if_neg (fun r => q (G1.out.2 r))⟩
    have E2 : Hid (((cmpF (waL a c l h) (waD a c) ln ld < 0 → dnN ln ld (waL a c l h) (waD a c) = waL a c l h) ∧ (¬ cmpF (waL a c l h) (waD a c) ln ld < 0 → dnN ln ld (waL a c l h) (waD a c) = ln)) ∧ (cmpF (waL a c l h) (waD a c) ln ld < 0 → dnD ln ld (waL a c l h) (waD a c) = waD a c) ∧ (¬ cmpF (waL a c l h) (waD a c) ln ld < 0 → dnD ln ld (waL a c l h) (waD a c) = ld)) :=
      Lib.hid ⟨⟨fun q => if_pos (G2.out.1 q), fun q => if_neg (fun r => q (G2.out.2 r))⟩, fun q => if_pos (G2.out.1 q), fun q => if_neg (fun r => q (G2.out.2 r))⟩
    have C1 := Lib.hid (fun W => FC.out (waF a c l h) (waD a c) en ed W)
    have C2 := Lib.hid (fun W => FC.out (waL a c l h) (waD a c) ln ld W)
    clear FC G1 G2 fw f1 f2 h0 h1 X
    generalize cmpF (waF a c l h) (waD a c) en ed = z1 at *
    generalize cmpF (waL a c l h) (waD a c) ln ld = z2 at *
    by_cases neg : d < 0
    · have k1 : waF a c l h = -(h - a) := if_pos (by omega)
      have k2 : waL a c l h = -(l - a) := if_pos (by omega)
      have k3 : waD a c = -d := by rw [ed']; exact if_pos (by omega)
      rw [k1, k3] at E1 C1
      rw [k2, k3] at E2 C2
      rw [k1, k2, k3]
      obtain ⟨fd, efd⟩ : ∃ fd, fd = -d := ⟨_, rfl⟩
      have w4' : IntKind.i64.wrap (-d) = fd := by rw [efd]; exact w4
      rw [← efd] at E1 E2 C1 C2
      rw [← efd]
      clear w4 k1 k2 k3 ed' nz efd
      generalize -(h - a) = fn at *
      generalize -(l - a) = tn at *
      go_enter Try.func30, Try.ntmps30
      go_upto_region 1 with fail
      have hbe := below_new1 w (.cells #[.int .i64 en, .int .i64 ed] 56)
      have ze : (w.alloc (.cells #[.int .i64 en, .int .i64 ed] 56)).heap.size = w.heap.size + 1 := by simp
      have HB := Lib.hid hbe
      have ke := Lib.hid (Lok.new w 56 #[.int .i64 en, .int .i64 ed])
      clear hbe
      generalize w.alloc (.cells #[.int .i64 en, .int .i64 ed] 56) = Ve at *
      have hbv := below_new1 Ve (.cells #[.int .i64 ln, .int .i64 ld] 56)
      replace ke := Lib.hid (ke.out.keep hbv)
      have zv : (Ve.alloc (.cells #[.int .i64 ln, .int .i64 ld] 56)).heap.size = Ve.heap.size + 1 := by simp
      replace HB := Lib.hid (HB.out.trans (hbv.mono HB.out.size))
      have kv := Lib.hid (Lok.new Ve 56 #[.int .i64 ln, .int .i64 ld])
      clear hbv
      generalize Ve.alloc (.cells #[.int .i64 ln, .int .i64 ld] 56) = Vv at *
      rw [ze] at kv zv
      have hby := below_new1 Vv (.cells #[.int .i64 0, .int .i64 0] 56)
      replace ke := Lib.hid (ke.out.keep hby)
      replace kv := Lib.hid (kv.out.keep hby)
      have zy : (Vv.alloc (.cells #[.int .i64 0, .int .i64 0] 56)).heap.size = Vv.heap.size + 1 := by simp
      replace HB := Lib.hid (HB.out.trans (hby.mono HB.out.size))
      have ky := Lib.hid (Lok.new Vv 56 #[.int .i64 0, .int .i64 0])
      clear hby
      generalize Vv.alloc (.cells #[.int .i64 0, .int .i64 0] 56) = Vy at *
      rw [zv] at ky zy
      have hbz := below_new1 Vy (.cells #[.int .i64 0, .int .i64 0] 56)
      replace ke := Lib.hid (ke.out.keep hbz)
      replace kv := Lib.hid (kv.out.keep hbz)
      replace ky := Lib.hid (ky.out.keep hbz)
      have zz : (Vy.alloc (.cells #[.int .i64 0, .int .i64 0] 56)).heap.size = Vy.heap.size + 1 := by simp
      replace HB := Lib.hid (HB.out.trans (hbz.mono HB.out.size))
      have kz := Lib.hid (Lok.new Vy 56 #[.int .i64 0, .int .i64 0])
      clear hbz
      generalize Vy.alloc (.cells #[.int .i64 0, .int .i64 0] 56) = Vz at *
      rw [zy] at kz
      clear ze zv zy zz
      have lz0 : w.heap.size + 3 < Vz.heap.size := kz.out.lt
      go_upto_region 7 with fail
      have hbp := below_new1 Vz (.cells #[.int .i64 (l - a), .int .i64 d] 56)
      replace ke := Lib.hid (ke.out.keep hbp)
      replace kv := Lib.hid (kv.out.keep hbp)
      replace ky := Lib.hid (ky.out.keep hbp)
      replace kz := Lib.hid (kz.out.keep hbp)
      have zp : (Vz.alloc (.cells #[.int .i64 (l - a), .int .i64 d] 56)).heap.size = Vz.heap.size + 1 := by simp
      replace HB := Lib.hid (HB.out.trans (hbp.mono HB.out.size))
      have kp := Lib.hid (Lok.new Vz 56 #[.int .i64 (l - a), .int .i64 d])
      clear hbp
      generalize Vz.alloc (.cells #[.int .i64 (l - a), .int .i64 d] 56) = Vp at *
      have hbq := below_new1 Vp (.cells #[.int .i64 (h - a), .int .i64 d] 56)
      replace ke := Lib.hid (ke.out.keep hbq)
      replace kv := Lib.hid (kv.out.keep hbq)
      replace ky := Lib.hid (ky.out.keep hbq)
      replace kz := Lib.hid (kz.out.keep hbq)
      replace kp := Lib.hid (kp.out.keep hbq)
      have zq : (Vp.alloc (.cells #[.int .i64 (h - a), .int .i64 d] 56)).heap.size = Vp.heap.size + 1 := by simp
      replace HB := Lib.hid (HB.out.trans (hbq.mono HB.out.size))
      have kq := Lib.hid (Lok.new Vp 56 #[.int .i64 (h - a), .int .i64 d])
      clear hbq
      generalize Vp.alloc (.cells #[.int .i64 (h - a), .int .i64 d] 56) = Vq at *
      rw [zp] at kq
      clear zp zq
      generalize Vz.heap.size = gp at *
      have p0 := kp.out.cell (i := 0) rfl
      have p1 := kp.out.cell (i := 1) rfl
      have q0 := kq.out.cell (i := 0) rfl
      have q1 := kq.out.cell (i := 1) rfl
      have fp0 := kp.out.frozen 0
      have fp1 := kp.out.frozen 1
      have fq0 := kq.out.frozen 0
      have fq1 := kq.out.frozen 1
      go_upto_region 9 with fail
      have l1 : w.heap.size + 3 < gp := lz0
      have l2 : w.heap.size ≤ gp := by omega
      replace HB := Lib.hid ((((HB.out.setCell (p := ⟨gp, 0, none⟩) (by simp <;> omega) (.int .i64 fn)).setCell (p := ⟨gp, 1, none⟩) (by simp <;> omega) (.int .i64 fd)).setCell (p := ⟨gp + 1, 0, none⟩) (by simp <;> omega) (.int .i64 tn)).setCell (p := ⟨gp + 1, 1, none⟩) (by simp <;> omega) (.int .i64 fd))
      replace kp := Lib.hid ((kp.out.set (i := 0) (v := .int .i64 fn)).set (i := 1) (v := .int .i64 fd))
      replace ke := Lib.hid ((ke.out.far (g' := gp) (i := 0) (v := .int .i64 fn) (by omega)).far (g' := gp) (i := 1) (v := .int .i64 fd) (by omega))
      replace kv := Lib.hid ((kv.out.far (g' := gp) (i := 0) (v := .int .i64 fn) (by omega)).far (g' := gp) (i := 1) (v := .int .i64 fd) (by omega))
      replace ky := Lib.hid ((ky.out.far (g' := gp) (i := 0) (v := .int .i64 fn) (by omega)).far (g' := gp) (i := 1) (v := .int .i64 fd) (by omega))
      replace kz := Lib.hid ((kz.out.far (g' := gp) (i := 0) (v := .int .i64 fn) (by omega)).far (g' := gp) (i := 1) (v := .int .i64 fd) (by omega))
      replace kq := Lib.hid ((kq.out.far (g' := gp) (i := 0) (v := .int .i64 fn) (by omega)).far (g' := gp) (i := 1) (v := .int .i64 fd) (by omega))
      replace kq := Lib.hid ((kq.out.set (i := 0) (v := .int .i64 tn)).set (i := 1) (v := .int .i64 fd))
      replace ke := Lib.hid ((ke.out.far (g' := gp + 1) (i := 0) (v := .int .i64 tn) (by omega)).far (g' := gp + 1) (i := 1) (v := .int .i64 fd) (by omega))
      replace kv := Lib.hid ((kv.out.far (g' := gp + 1) (i := 0) (v := .int .i64 tn) (by omega)).far (g' := gp + 1) (i := 1) (v := .int .i64 fd) (by omega))
      replace ky := Lib.hid ((ky.out.far (g' := gp + 1) (i := 0) (v := .int .i64 tn) (by omega)).far (g' := gp + 1) (i := 1) (v := .int .i64 fd) (by omega))
      replace kz := Lib.hid ((kz.out.far (g' := gp + 1) (i := 0) (v := .int .i64 tn) (by omega)).far (g' := gp + 1) (i := 1) (v := .int .i64 fd) (by omega))
      replace kp := Lib.hid ((kp.out.far (g' := gp + 1) (i := 0) (v := .int .i64 tn) (by omega)).far (g' := gp + 1) (i := 1) (v := .int .i64 fd) (by omega))
      generalize (((Vq.setCell ⟨gp, 0, none⟩ (.int .i64 fn)).setCell ⟨gp, 1, none⟩ (.int .i64 fd)).setCell ⟨gp + 1, 0, none⟩ (.int .i64 tn)).setCell ⟨gp + 1, 1, none⟩ (.int .i64 fd) = W7 at *
      clear p0 p1 q0 q1 fp0 fp1 fq0 fq1 w2 w3 w4' w5 w6 w1
      have e0 := ke.out.cell (i := 0) rfl
      have e1 := ke.out.cell (i := 1) rfl
      have v0 := kv.out.cell (i := 0) rfl
      have v1 := kv.out.cell (i := 1) rfl
      have p0 := kp.out.cell (i := 0) rfl
      have p1 := kp.out.cell (i := 1) rfl
      have q0 := kq.out.cell (i := 0) rfl
      have q1 := kq.out.cell (i := 1) rfl
      go_wp2_with fail
      (((with_reducible refine (C1.out _).mono ?_); rintro e w1 ⟨rfl, hb1⟩); replace HB := Lib.hid (HB.out.trans (hb1.mono HB.out.size)); replace ke := Lib.hid (ke.out.keep hb1); replace kv := Lib.hid (kv.out.keep hb1); replace kp := Lib.hid (kp.out.keep hb1); replace kq := Lib.hid (kq.out.keep hb1); replace ky := Lib.hid (ky.out.keep hb1); replace kz := Lib.hid (kz.out.keep hb1); clear hb1)
      clear C1
      clear e0 e1 v0 v1 p0 p1 q0 q1
      by_cases hz1 : 0 < z1
      · skip
        have e0 := ke.out.cell (i := 0) rfl
        have e1 := ke.out.cell (i := 1) rfl
        have p0 := kp.out.cell (i := 0) rfl
        have p1 := kp.out.cell (i := 1) rfl
        have fe0 := ke.out.frozen 0
        have fe1 := ke.out.frozen 1
        go_upto_region 11 with fail
        replace HB := Lib.hid ((HB.out.setCell (p := ⟨w.heap.size, 0, none⟩) (by simp <;> omega) (.int .i64 fn)).setCell (p := ⟨w.heap.size, 1, none⟩) (by simp <;> omega) (.int .i64 fd))
        replace ke := Lib.hid ((ke.out.set (i := 0) (v := .int .i64 fn)).set (i := 1) (v := .int .i64 fd))
        replace kv := Lib.hid ((kv.out.far (g' := w.heap.size) (i := 0) (v := .int .i64 fn) (by omega)).far (g' := w.heap.size) (i := 1) (v := .int .i64 fd) (by omega))
        replace kp := Lib.hid ((kp.out.far (g' := w.heap.size) (i := 0) (v := .int .i64 fn) (by omega)).far (g' := w.heap.size) (i := 1) (v := .int .i64 fd) (by omega))
        replace kq := Lib.hid ((kq.out.far (g' := w.heap.size) (i := 0) (v := .int .i64 fn) (by omega)).far (g' := w.heap.size) (i := 1) (v := .int .i64 fd) (by omega))
        replace ky := Lib.hid ((ky.out.far (g' := w.heap.size) (i := 0) (v := .int .i64 fn) (by omega)).far (g' := w.heap.size) (i := 1) (v := .int .i64 fd) (by omega))
        replace kz := Lib.hid ((kz.out.far (g' := w.heap.size) (i := 0) (v := .int .i64 fn) (by omega)).far (g' := w.heap.size) (i := 1) (v := .int .i64 fd) (by omega))
        generalize (w1.setCell ⟨w.heap.size, 0, none⟩ (.int .i64 fn)).setCell ⟨w.heap.size, 1, none⟩ (.int .i64 fd) = W8 at *
        clear e0 e1 p0 p1 fe0 fe1
        have v0 := kv.out.cell (i := 0) rfl
        have v1 := kv.out.cell (i := 1) rfl
        have q0 := kq.out.cell (i := 0) rfl
        have q1 := kq.out.cell (i := 1) rfl
        go_wp2_with fail
        (((with_reducible refine (C2.out _).mono ?_); rintro e w2 ⟨rfl, hb2⟩); replace HB := Lib.hid (HB.out.trans (hb2.mono HB.out.size)); replace ke := Lib.hid (ke.out.keep hb2); replace kv := Lib.hid (kv.out.keep hb2); replace kp := Lib.hid (kp.out.keep hb2); replace kq := Lib.hid (kq.out.keep hb2); replace ky := Lib.hid (ky.out.keep hb2); replace kz := Lib.hid (kz.out.keep hb2); clear hb2)
        clear C2
        clear v0 v1 q0 q1
        by_cases hz2 : z2 < 0
        · skip
          have v0 := kv.out.cell (i := 0) rfl
          have v1 := kv.out.cell (i := 1) rfl
          have q0 := kq.out.cell (i := 0) rfl
          have q1 := kq.out.cell (i := 1) rfl
          have fv0 := kv.out.frozen 0
          have fv1 := kv.out.frozen 1
          go_upto_region 13 with fail
          replace HB := Lib.hid ((HB.out.setCell (p := ⟨w.heap.size + 1, 0, none⟩) (by simp <;> omega) (.int .i64 tn)).setCell (p := ⟨w.heap.size + 1, 1, none⟩) (by simp <;> omega) (.int .i64 fd))
          replace kv := Lib.hid ((kv.out.set (i := 0) (v := .int .i64 tn)).set (i := 1) (v := .int .i64 fd))
          replace ke := Lib.hid ((ke.out.far (g' := w.heap.size + 1) (i := 0) (v := .int .i64 tn) (by omega)).far (g' := w.heap.size + 1) (i := 1) (v := .int .i64 fd) (by omega))
          replace ky := Lib.hid ((ky.out.far (g' := w.heap.size + 1) (i := 0) (v := .int .i64 tn) (by omega)).far (g' := w.heap.size + 1) (i := 1) (v := .int .i64 fd) (by omega))
          replace kz := Lib.hid ((kz.out.far (g' := w.heap.size + 1) (i := 0) (v := .int .i64 tn) (by omega)).far (g' := w.heap.size + 1) (i := 1) (v := .int .i64 fd) (by omega))
          generalize (w2.setCell ⟨w.heap.size + 1, 0, none⟩ (.int .i64 tn)).setCell ⟨w.heap.size + 1, 1, none⟩ (.int .i64 fd) = W9 at *
          clear kp kq
          clear v0 v1 q0 q1 fv0 fv1
          have e0 := ke.out.cell (i := 0) rfl
          have e1 := ke.out.cell (i := 1) rfl
          have v0 := kv.out.cell (i := 0) rfl
          have v1 := kv.out.cell (i := 1) rfl
          have y0 := ky.out.cell (i := 0) rfl
          have y1 := ky.out.cell (i := 1) rfl
          have z0 := kz.out.cell (i := 0) rfl
          have z1 := kz.out.cell (i := 1) rfl
          have fy0 := ky.out.frozen 0
          have fy1 := ky.out.frozen 1
          have fz0 := kz.out.frozen 0
          have fz1 := kz.out.frozen 1
          go_upto_region 13 with fail
          go_region
          go_wp2_with fail
          exact bodyPost_ret (v := .tuple #[.agg #[.int .i64 fn, .int .i64 fd], .agg #[.int .i64 tn, .int .i64 fd], .bool true]) (by simp [results, Try.results30, go_sem, y0, y1, z0, z1]) rfl ⟨by rw [E1.out.1.1 (by omega), E1.out.2.1 (by omega), E2.out.1.1 (by omega), E2.out.2.1 (by omega)], ((((HB.out.setCell (by simp <;> omega) _).setCell (by simp <;> omega) _).setCell (by simp <;> omega) _).setCell (by simp <;> omega) _).drew⟩
        · clear kp kq
          have e0 := ke.out.cell (i := 0) rfl
          have e1 := ke.out.cell (i := 1) rfl
          have v0 := kv.out.cell (i := 0) rfl
          have v1 := kv.out.cell (i := 1) rfl
          have y0 := ky.out.cell (i := 0) rfl
          have y1 := ky.out.cell (i := 1) rfl
          have z0 := kz.out.cell (i := 0) rfl
          have z1 := kz.out.cell (i := 1) rfl
          have fy0 := ky.out.frozen 0
          have fy1 := ky.out.frozen 1
          have fz0 := kz.out.frozen 0
          have fz1 := kz.out.frozen 1
          go_upto_region 13 with fail
          go_region
          go_wp2_with fail
          exact bodyPost_ret (v := .tuple #[.agg #[.int .i64 fn, .int .i64 fd], .agg #[.int .i64 ln, .int .i64 ld], .bool true]) (by simp [results, Try.results30, go_sem, y0, y1, z0, z1]) rfl ⟨by rw [E1.out.1.1 (by omega), E1.out.2.1 (by omega), E2.out.1.2 (by omega), E2.out.2.2 (by omega)], ((((HB.out.setCell (by simp <;> omega) _).setCell (by simp <;> omega) _).setCell (by simp <;> omega) _).setCell (by simp <;> omega) _).drew⟩
      · skip
        have v0 := kv.out.cell (i := 0) rfl
        have v1 := kv.out.cell (i := 1) rfl
        have q0 := kq.out.cell (i := 0) rfl
        have q1 := kq.out.cell (i := 1) rfl
        go_wp2_with fail
        (((with_reducible refine (C2.out _).mono ?_); rintro e w2 ⟨rfl, hb2⟩); replace HB := Lib.hid (HB.out.trans (hb2.mono HB.out.size)); replace ke := Lib.hid (ke.out.keep hb2); replace kv := Lib.hid (kv.out.keep hb2); replace kp := Lib.hid (kp.out.keep hb2); replace kq := Lib.hid (kq.out.keep hb2); replace ky := Lib.hid (ky.out.keep hb2); replace kz := Lib.hid (kz.out.keep hb2); clear hb2)
        clear C2
        clear v0 v1 q0 q1
        by_cases hz2 : z2 < 0
        · skip
          have v0 := kv.out.cell (i := 0) rfl
          have v1 := kv.out.cell (i := 1) rfl
          have q0 := kq.out.cell (i := 0) rfl
          have q1 := kq.out.cell (i := 1) rfl
          have fv0 := kv.out.frozen 0
          have fv1 := kv.out.frozen 1
          go_upto_region 13 with fail
          replace HB := Lib.hid ((HB.out.setCell (p := ⟨w.heap.size + 1, 0, none⟩) (by simp <;> omega) (.int .i64 tn)).setCell (p := ⟨w.heap.size + 1, 1, none⟩) (by simp <;> omega) (.int .i64 fd))
          replace kv := Lib.hid ((kv.out.set (i := 0) (v := .int .i64 tn)).set (i := 1) (v := .int .i64 fd))
          replace ke := Lib.hid ((ke.out.far (g' := w.heap.size + 1) (i := 0) (v := .int .i64 tn) (by omega)).far (g' := w.heap.size + 1) (i := 1) (v := .int .i64 fd) (by omega))
          replace ky := Lib.hid ((ky.out.far (g' := w.heap.size + 1) (i := 0) (v := .int .i64 tn) (by omega)).far (g' := w.heap.size + 1) (i := 1) (v := .int .i64 fd) (by omega))
          replace kz := Lib.hid ((kz.out.far (g' := w.heap.size + 1) (i := 0) (v := .int .i64 tn) (by omega)).far (g' := w.heap.size + 1) (i := 1) (v := .int .i64 fd) (by omega))
          generalize (w2.setCell ⟨w.heap.size + 1, 0, none⟩ (.int .i64 tn)).setCell ⟨w.heap.size + 1, 1, none⟩ (.int .i64 fd) = W9 at *
          clear kp kq
          clear v0 v1 q0 q1 fv0 fv1
          have e0 := ke.out.cell (i := 0) rfl
          have e1 := ke.out.cell (i := 1) rfl
          have v0 := kv.out.cell (i := 0) rfl
          have v1 := kv.out.cell (i := 1) rfl
          have y0 := ky.out.cell (i := 0) rfl
          have y1 := ky.out.cell (i := 1) rfl
          have z0 := kz.out.cell (i := 0) rfl
          have z1 := kz.out.cell (i := 1) rfl
          have fy0 := ky.out.frozen 0
          have fy1 := ky.out.frozen 1
          have fz0 := kz.out.frozen 0
          have fz1 := kz.out.frozen 1
          go_upto_region 13 with fail
          go_region
          go_wp2_with fail
          exact bodyPost_ret (v := .tuple #[.agg #[.int .i64 en, .int .i64 ed], .agg #[.int .i64 tn, .int .i64 fd], .bool true]) (by simp [results, Try.results30, go_sem, y0, y1, z0, z1]) rfl ⟨by rw [E1.out.1.2 (by omega), E1.out.2.2 (by omega), E2.out.1.1 (by omega), E2.out.2.1 (by omega)], ((((HB.out.setCell (by simp <;> omega) _).setCell (by simp <;> omega) _).setCell (by simp <;> omega) _).setCell (by simp <;> omega) _).drew⟩
        · clear kp kq
          have e0 := ke.out.cell (i := 0) rfl
          have e1 := ke.out.cell (i := 1) rfl
          have v0 := kv.out.cell (i := 0) rfl
          have v1 := kv.out.cell (i := 1) rfl
          have y0 := ky.out.cell (i := 0) rfl
          have y1 := ky.out.cell (i := 1) rfl
          have z0 := kz.out.cell (i := 0) rfl
          have z1 := kz.out.cell (i := 1) rfl
          have fy0 := ky.out.frozen 0
          have fy1 := ky.out.frozen 1
          have fz0 := kz.out.frozen 0
          have fz1 := kz.out.frozen 1
          go_upto_region 13 with fail
          go_region
          go_wp2_with fail
          exact bodyPost_ret (v := .tuple #[.agg #[.int .i64 en, .int .i64 ed], .agg #[.int .i64 ln, .int .i64 ld], .bool true]) (by simp [results, Try.results30, go_sem, y0, y1, z0, z1]) rfl ⟨by rw [E1.out.1.2 (by omega), E1.out.2.2 (by omega), E2.out.1.2 (by omega), E2.out.2.2 (by omega)], ((((HB.out.setCell (by simp <;> omega) _).setCell (by simp <;> omega) _).setCell (by simp <;> omega) _).setCell (by simp <;> omega) _).drew⟩
    · have k1 : waF a c l h = l - a := by unfold waF; rw [if_neg (by omega), if_neg nz]
      have k2 : waL a c l h = h - a := by unfold waL; rw [if_neg (by omega), if_neg nz]
      have k3 : waD a c = d := by unfold waD; rw [if_neg (by omega), if_neg nz, ed']
      rw [k1, k3] at E1 C1
      rw [k2, k3] at E2 C2
      rw [k1, k2, k3]
      obtain ⟨fn, efn⟩ : ∃ fn, fn = l - a := ⟨_, rfl⟩
      obtain ⟨tn, etn⟩ : ∃ tn, tn = h - a := ⟨_, rfl⟩
      have w2' : IntKind.i64.wrap (l - a) = fn := by rw [efn]; exact w2
      have w3' : IntKind.i64.wrap (h - a) = tn := by rw [etn]; exact w3
      rw [← efn] at E1 C1
      rw [← etn] at E2 C2
      rw [← efn, ← etn]
      clear w2 w3 w4 w5 w6 k1 k2 k3 ed' nz efn etn
      obtain ⟨fd, efd⟩ : ∃ fd, fd = d := ⟨_, rfl⟩
      subst efd
      go_enter Try.func30, Try.ntmps30
      go_upto_region 1 with fail
      have hbe := below_new1 w (.cells #[.int .i64 en, .int .i64 ed] 56)
      have ze : (w.alloc (.cells #[.int .i64 en, .int .i64 ed] 56)).heap.size = w.heap.size + 1 := by simp
      have HB := Lib.hid hbe
      have ke := Lib.hid (Lok.new w 56 #[.int .i64 en, .int .i64 ed])
      clear hbe
      generalize w.alloc (.cells #[.int .i64 en, .int .i64 ed] 56) = Ve at *
      have hbv := below_new1 Ve (.cells #[.int .i64 ln, .int .i64 ld] 56)
      replace ke := Lib.hid (ke.out.keep hbv)
      have zv : (Ve.alloc (.cells #[.int .i64 ln, .int .i64 ld] 56)).heap.size = Ve.heap.size + 1 := by simp
      replace HB := Lib.hid (HB.out.trans (hbv.mono HB.out.size))
      have kv := Lib.hid (Lok.new Ve 56 #[.int .i64 ln, .int .i64 ld])
      clear hbv
      generalize Ve.alloc (.cells #[.int .i64 ln, .int .i64 ld] 56) = Vv at *
      rw [ze] at kv zv
      have hby := below_new1 Vv (.cells #[.int .i64 0, .int .i64 0] 56)
      replace ke := Lib.hid (ke.out.keep hby)
      replace kv := Lib.hid (kv.out.keep hby)
      have zy : (Vv.alloc (.cells #[.int .i64 0, .int .i64 0] 56)).heap.size = Vv.heap.size + 1 := by simp
      replace HB := Lib.hid (HB.out.trans (hby.mono HB.out.size))
      have ky := Lib.hid (Lok.new Vv 56 #[.int .i64 0, .int .i64 0])
      clear hby
      generalize Vv.alloc (.cells #[.int .i64 0, .int .i64 0] 56) = Vy at *
      rw [zv] at ky zy
      have hbz := below_new1 Vy (.cells #[.int .i64 0, .int .i64 0] 56)
      replace ke := Lib.hid (ke.out.keep hbz)
      replace kv := Lib.hid (kv.out.keep hbz)
      replace ky := Lib.hid (ky.out.keep hbz)
      have zz : (Vy.alloc (.cells #[.int .i64 0, .int .i64 0] 56)).heap.size = Vy.heap.size + 1 := by simp
      replace HB := Lib.hid (HB.out.trans (hbz.mono HB.out.size))
      have kz := Lib.hid (Lok.new Vy 56 #[.int .i64 0, .int .i64 0])
      clear hbz
      generalize Vy.alloc (.cells #[.int .i64 0, .int .i64 0] 56) = Vz at *
      rw [zy] at kz
      clear ze zv zy zz
      have lz0 : w.heap.size + 3 < Vz.heap.size := kz.out.lt
      go_upto_region 9 with fail
      have hbp := below_new1 Vz (.cells #[.int .i64 fn, .int .i64 fd] 56)
      replace ke := Lib.hid (ke.out.keep hbp)
      replace kv := Lib.hid (kv.out.keep hbp)
      replace ky := Lib.hid (ky.out.keep hbp)
      replace kz := Lib.hid (kz.out.keep hbp)
      have zp : (Vz.alloc (.cells #[.int .i64 fn, .int .i64 fd] 56)).heap.size = Vz.heap.size + 1 := by simp
      replace HB := Lib.hid (HB.out.trans (hbp.mono HB.out.size))
      have kp := Lib.hid (Lok.new Vz 56 #[.int .i64 fn, .int .i64 fd])
      clear hbp
      generalize Vz.alloc (.cells #[.int .i64 fn, .int .i64 fd] 56) = Vp at *
      have hbq := below_new1 Vp (.cells #[.int .i64 tn, .int .i64 fd] 56)
      replace ke := Lib.hid (ke.out.keep hbq)
      replace kv := Lib.hid (kv.out.keep hbq)
      replace ky := Lib.hid (ky.out.keep hbq)
      replace kz := Lib.hid (kz.out.keep hbq)
      replace kp := Lib.hid (kp.out.keep hbq)
      have zq : (Vp.alloc (.cells #[.int .i64 tn, .int .i64 fd] 56)).heap.size = Vp.heap.size + 1 := by simp
      replace HB := Lib.hid (HB.out.trans (hbq.mono HB.out.size))
      have kq := Lib.hid (Lok.new Vp 56 #[.int .i64 tn, .int .i64 fd])
      clear hbq
      generalize Vp.alloc (.cells #[.int .i64 tn, .int .i64 fd] 56) = Vq at *
      rw [zp] at kq
      clear zp zq
      generalize Vz.heap.size = gp at *
      have l1 : w.heap.size + 3 < gp := lz0
      clear w1 w2' w3'
      have e0 := ke.out.cell (i := 0) rfl
      have e1 := ke.out.cell (i := 1) rfl
      have v0 := kv.out.cell (i := 0) rfl
      have v1 := kv.out.cell (i := 1) rfl
      have p0 := kp.out.cell (i := 0) rfl
      have p1 := kp.out.cell (i := 1) rfl
      have q0 := kq.out.cell (i := 0) rfl
      have q1 := kq.out.cell (i := 1) rfl
      go_wp2_with fail
      (((with_reducible refine (C1.out _).mono ?_); rintro e w1 ⟨rfl, hb1⟩); replace HB := Lib.hid (HB.out.trans (hb1.mono HB.out.size)); replace ke := Lib.hid (ke.out.keep hb1); replace kv := Lib.hid (kv.out.keep hb1); replace kp := Lib.hid (kp.out.keep hb1); replace kq := Lib.hid (kq.out.keep hb1); replace ky := Lib.hid (ky.out.keep hb1); replace kz := Lib.hid (kz.out.keep hb1); clear hb1)
      clear C1
      clear e0 e1 v0 v1 p0 p1 q0 q1
      by_cases hz1 : 0 < z1
      · skip
        have e0 := ke.out.cell (i := 0) rfl
        have e1 := ke.out.cell (i := 1) rfl
        have p0 := kp.out.cell (i := 0) rfl
        have p1 := kp.out.cell (i := 1) rfl
        have fe0 := ke.out.frozen 0
        have fe1 := ke.out.frozen 1
        go_upto_region 11 with fail
        replace HB := Lib.hid ((HB.out.setCell (p := ⟨w.heap.size, 0, none⟩) (by simp <;> omega) (.int .i64 fn)).setCell (p := ⟨w.heap.size, 1, none⟩) (by simp <;> omega) (.int .i64 fd))
        replace ke := Lib.hid ((ke.out.set (i := 0) (v := .int .i64 fn)).set (i := 1) (v := .int .i64 fd))
        replace kv := Lib.hid ((kv.out.far (g' := w.heap.size) (i := 0) (v := .int .i64 fn) (by omega)).far (g' := w.heap.size) (i := 1) (v := .int .i64 fd) (by omega))
        replace kp := Lib.hid ((kp.out.far (g' := w.heap.size) (i := 0) (v := .int .i64 fn) (by omega)).far (g' := w.heap.size) (i := 1) (v := .int .i64 fd) (by omega))
        replace kq := Lib.hid ((kq.out.far (g' := w.heap.size) (i := 0) (v := .int .i64 fn) (by omega)).far (g' := w.heap.size) (i := 1) (v := .int .i64 fd) (by omega))
        replace ky := Lib.hid ((ky.out.far (g' := w.heap.size) (i := 0) (v := .int .i64 fn) (by omega)).far (g' := w.heap.size) (i := 1) (v := .int .i64 fd) (by omega))
        replace kz := Lib.hid ((kz.out.far (g' := w.heap.size) (i := 0) (v := .int .i64 fn) (by omega)).far (g' := w.heap.size) (i := 1) (v := .int .i64 fd) (by omega))
        generalize (w1.setCell ⟨w.heap.size, 0, none⟩ (.int .i64 fn)).setCell ⟨w.heap.size, 1, none⟩ (.int .i64 fd) = W8 at *
        clear e0 e1 p0 p1 fe0 fe1
        have v0 := kv.out.cell (i := 0) rfl
        have v1 := kv.out.cell (i := 1) rfl
        have q0 := kq.out.cell (i := 0) rfl
        have q1 := kq.out.cell (i := 1) rfl
        go_wp2_with fail
        (((with_reducible refine (C2.out _).mono ?_); rintro e w2 ⟨rfl, hb2⟩); replace HB := Lib.hid (HB.out.trans (hb2.mono HB.out.size)); replace ke := Lib.hid (ke.out.keep hb2); replace kv := Lib.hid (kv.out.keep hb2); replace kp := Lib.hid (kp.out.keep hb2); replace kq := Lib.hid (kq.out.keep hb2); replace ky := Lib.hid (ky.out.keep hb2); replace kz := Lib.hid (kz.out.keep hb2); clear hb2)
        clear C2
        clear v0 v1 q0 q1
        by_cases hz2 : z2 < 0
        · skip
          have v0 := kv.out.cell (i := 0) rfl
          have v1 := kv.out.cell (i := 1) rfl
          have q0 := kq.out.cell (i := 0) rfl
          have q1 := kq.out.cell (i := 1) rfl
          have fv0 := kv.out.frozen 0
          have fv1 := kv.out.frozen 1
          go_upto_region 13 with fail
          replace HB := Lib.hid ((HB.out.setCell (p := ⟨w.heap.size + 1, 0, none⟩) (by simp <;> omega) (.int .i64 tn)).setCell (p := ⟨w.heap.size + 1, 1, none⟩) (by simp <;> omega) (.int .i64 fd))
          replace kv := Lib.hid ((kv.out.set (i := 0) (v := .int .i64 tn)).set (i := 1) (v := .int .i64 fd))
          replace ke := Lib.hid ((ke.out.far (g' := w.heap.size + 1) (i := 0) (v := .int .i64 tn) (by omega)).far (g' := w.heap.size + 1) (i := 1) (v := .int .i64 fd) (by omega))
          replace ky := Lib.hid ((ky.out.far (g' := w.heap.size + 1) (i := 0) (v := .int .i64 tn) (by omega)).far (g' := w.heap.size + 1) (i := 1) (v := .int .i64 fd) (by omega))
          replace kz := Lib.hid ((kz.out.far (g' := w.heap.size + 1) (i := 0) (v := .int .i64 tn) (by omega)).far (g' := w.heap.size + 1) (i := 1) (v := .int .i64 fd) (by omega))
          generalize (w2.setCell ⟨w.heap.size + 1, 0, none⟩ (.int .i64 tn)).setCell ⟨w.heap.size + 1, 1, none⟩ (.int .i64 fd) = W9 at *
          clear kp kq
          clear v0 v1 q0 q1 fv0 fv1
          have e0 := ke.out.cell (i := 0) rfl
          have e1 := ke.out.cell (i := 1) rfl
          have v0 := kv.out.cell (i := 0) rfl
          have v1 := kv.out.cell (i := 1) rfl
          have y0 := ky.out.cell (i := 0) rfl
          have y1 := ky.out.cell (i := 1) rfl
          have z0 := kz.out.cell (i := 0) rfl
          have z1 := kz.out.cell (i := 1) rfl
          have fy0 := ky.out.frozen 0
          have fy1 := ky.out.frozen 1
          have fz0 := kz.out.frozen 0
          have fz1 := kz.out.frozen 1
          go_upto_region 13 with fail
          go_region
          go_wp2_with fail
          exact bodyPost_ret (v := .tuple #[.agg #[.int .i64 fn, .int .i64 fd], .agg #[.int .i64 tn, .int .i64 fd], .bool true]) (by simp [results, Try.results30, go_sem, y0, y1, z0, z1]) rfl ⟨by rw [E1.out.1.1 (by omega), E1.out.2.1 (by omega), E2.out.1.1 (by omega), E2.out.2.1 (by omega)], ((((HB.out.setCell (by simp <;> omega) _).setCell (by simp <;> omega) _).setCell (by simp <;> omega) _).setCell (by simp <;> omega) _).drew⟩
        · clear kp kq
          have e0 := ke.out.cell (i := 0) rfl
          have e1 := ke.out.cell (i := 1) rfl
          have v0 := kv.out.cell (i := 0) rfl
          have v1 := kv.out.cell (i := 1) rfl
          have y0 := ky.out.cell (i := 0) rfl
          have y1 := ky.out.cell (i := 1) rfl
          have z0 := kz.out.cell (i := 0) rfl
          have z1 := kz.out.cell (i := 1) rfl
          have fy0 := ky.out.frozen 0
          have fy1 := ky.out.frozen 1
          have fz0 := kz.out.frozen 0
          have fz1 := kz.out.frozen 1
          go_upto_region 13 with fail
          go_region
          go_wp2_with fail
          exact bodyPost_ret (v := .tuple #[.agg #[.int .i64 fn, .int .i64 fd], .agg #[.int .i64 ln, .int .i64 ld], .bool true]) (by simp [results, Try.results30, go_sem, y0, y1, z0, z1]) rfl ⟨by rw [E1.out.1.1 (by omega), E1.out.2.1 (by omega), E2.out.1.2 (by omega), E2.out.2.2 (by omega)], ((((HB.out.setCell (by simp <;> omega) _).setCell (by simp <;> omega) _).setCell (by simp <;> omega) _).setCell (by simp <;> omega) _).drew⟩
      · skip
        have v0 := kv.out.cell (i := 0) rfl
        have v1 := kv.out.cell (i := 1) rfl
        have q0 := kq.out.cell (i := 0) rfl
        have q1 := kq.out.cell (i := 1) rfl
        go_wp2_with fail
        (((with_reducible refine (C2.out _).mono ?_); rintro e w2 ⟨rfl, hb2⟩); replace HB := Lib.hid (HB.out.trans (hb2.mono HB.out.size)); replace ke := Lib.hid (ke.out.keep hb2); replace kv := Lib.hid (kv.out.keep hb2); replace kp := Lib.hid (kp.out.keep hb2); replace kq := Lib.hid (kq.out.keep hb2); replace ky := Lib.hid (ky.out.keep hb2); replace kz := Lib.hid (kz.out.keep hb2); clear hb2)
        clear C2
        clear v0 v1 q0 q1
        by_cases hz2 : z2 < 0
        · skip
          have v0 := kv.out.cell (i := 0) rfl
          have v1 := kv.out.cell (i := 1) rfl
          have q0 := kq.out.cell (i := 0) rfl
          have q1 := kq.out.cell (i := 1) rfl
          have fv0 := kv.out.frozen 0
          have fv1 := kv.out.frozen 1
          go_upto_region 13 with fail
          replace HB := Lib.hid ((HB.out.setCell (p := ⟨w.heap.size + 1, 0, none⟩) (by simp <;> omega) (.int .i64 tn)).setCell (p := ⟨w.heap.size + 1, 1, none⟩) (by simp <;> omega) (.int .i64 fd))
          replace kv := Lib.hid ((kv.out.set (i := 0) (v := .int .i64 tn)).set (i := 1) (v := .int .i64 fd))
          replace ke := Lib.hid ((ke.out.far (g' := w.heap.size + 1) (i := 0) (v := .int .i64 tn) (by omega)).far (g' := w.heap.size + 1) (i := 1) (v := .int .i64 fd) (by omega))
          replace ky := Lib.hid ((ky.out.far (g' := w.heap.size + 1) (i := 0) (v := .int .i64 tn) (by omega)).far (g' := w.heap.size + 1) (i := 1) (v := .int .i64 fd) (by omega))
          replace kz := Lib.hid ((kz.out.far (g' := w.heap.size + 1) (i := 0) (v := .int .i64 tn) (by omega)).far (g' := w.heap.size + 1) (i := 1) (v := .int .i64 fd) (by omega))
          generalize (w2.setCell ⟨w.heap.size + 1, 0, none⟩ (.int .i64 tn)).setCell ⟨w.heap.size + 1, 1, none⟩ (.int .i64 fd) = W9 at *
          clear kp kq
          clear v0 v1 q0 q1 fv0 fv1
          have e0 := ke.out.cell (i := 0) rfl
          have e1 := ke.out.cell (i := 1) rfl
          have v0 := kv.out.cell (i := 0) rfl
          have v1 := kv.out.cell (i := 1) rfl
          have y0 := ky.out.cell (i := 0) rfl
          have y1 := ky.out.cell (i := 1) rfl
          have z0 := kz.out.cell (i := 0) rfl
          have z1 := kz.out.cell (i := 1) rfl
          have fy0 := ky.out.frozen 0
          have fy1 := ky.out.frozen 1
          have fz0 := kz.out.frozen 0
          have fz1 := kz.out.frozen 1
          go_upto_region 13 with fail
          go_region
          go_wp2_with fail
          exact bodyPost_ret (v := .tuple #[.agg #[.int .i64 en, .int .i64 ed], .agg #[.int .i64 tn, .int .i64 fd], .bool true]) (by simp [results, Try.results30, go_sem, y0, y1, z0, z1]) rfl ⟨by rw [E1.out.1.2 (by omega), E1.out.2.2 (by omega), E2.out.1.1 (by omega), E2.out.2.1 (by omega)], ((((HB.out.setCell (by simp <;> omega) _).setCell (by simp <;> omega) _).setCell (by simp <;> omega) _).setCell (by simp <;> omega) _).drew⟩
        · clear kp kq
          have e0 := ke.out.cell (i := 0) rfl
          have e1 := ke.out.cell (i := 1) rfl
          have v0 := kv.out.cell (i := 0) rfl
          have v1 := kv.out.cell (i := 1) rfl
          have y0 := ky.out.cell (i := 0) rfl
          have y1 := ky.out.cell (i := 1) rfl
          have z0 := kz.out.cell (i := 0) rfl
          have z1 := kz.out.cell (i := 1) rfl
          have fy0 := ky.out.frozen 0
          have fy1 := ky.out.frozen 1
          have fz0 := kz.out.frozen 0
          have fz1 := kz.out.frozen 1
          go_upto_region 13 with fail
          go_region
          go_wp2_with fail
          exact bodyPost_ret (v := .tuple #[.agg #[.int .i64 en, .int .i64 ed], .agg #[.int .i64 ln, .int .i64 ld], .bool true]) (by simp [results, Try.results30, go_sem, y0, y1, z0, z1]) rfl ⟨by rw [E1.out.1.2 (by omega), E1.out.2.2 (by omega), E2.out.1.2 (by omega), E2.out.2.2 (by omega)], ((((HB.out.setCell (by simp <;> omega) _).setCell (by simp <;> omega) _).setCell (by simp <;> omega) _).setCell (by simp <;> omega) _).drew⟩
end Go.Proofs.Ytfghjfgdjlkooaa
