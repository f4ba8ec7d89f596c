/-
  Contracts of package meet: crosses, Square. (gen/MtE.py)
-/
import Derived.Test.YthdcldbocakbpaaMtD
namespace Go.Proofs.Ythdcldbocakbpaa
open Go.RowKit

theorem max_if (x y : Int) : (if y > x then y else x) = max x y := by
  rw [Int.max_def]
  split <;> split <;> omega
theorem min_if (x y : Int) : (if y < x then y else x) = min x y := by
  rw [Int.min_def]
  split <;> split <;> omega
@[go_sem high] theorem run_max_three {P : Program} (w : World) (ts : Array TypeId) (t : TypeId) (k k' k3 : IntKind) (x y z : Int) :
    (Builtin.max_ ts t #[.int k x, .int k' y, .int k3 z]).run P w = .ok (.int k (max (max x y) z)) w := by
  simp [Builtin.max_, Builtin.max2, max_if]
@[go_sem high] theorem run_min_three {P : Program} (w : World) (ts : Array TypeId) (t : TypeId) (k k' k3 : IntKind) (x y z : Int) :
    (Builtin.min_ ts t #[.int k x, .int k' y, .int k3 z]).run P w = .ok (.int k (min (min x y) z)) w := by
  simp [Builtin.min_, Builtin.min2, min_if]
/-- The rectangle round a triangle meets the one from x y to fx fy. -/
def cB (x y fx fy a1 a2 b1 b2 c1 c2 : Int) : Bool := decide (min (min a1 b1) c1 ≤ fx) && decide (min (min a2 b2) c2 ≤ fy) && decide (x ≤ max (max a1 b1) c1) && decide (y ≤ max (max a2 b2) c2)
set_option maxRecDepth 100000 in
set_option maxHeartbeats 4000000 in
theorem crosses_any (x y fx fy a1 a2 b1 b2 c1 c2 : Int) (w : World) :
    Calls Try.prog 25 #[.agg #[.int .i64 x, .int .i64 y], .agg #[.int .i64 fx, .int .i64 fy], .agg #[.int .i64 a1, .int .i64 a2, .int .i64 b1, .int .i64 b2, .int .i64 c1, .int .i64 c2]] w fun e' w' => e' = .returned (.bool (cB x y fx fy a1 a2 b1 b2 c1 c2)) ∧ Below w.heap.size w w' := by
  have HB := Lib.hid (Below.refl w.heap.size w)
  unfold cB
  obtain ⟨lx, e1⟩ : ∃ v, min (min a1 b1) c1 = v := ⟨_, rfl⟩
  obtain ⟨ly, e2⟩ : ∃ v, min (min a2 b2) c2 = v := ⟨_, rfl⟩
  obtain ⟨hx, e3⟩ : ∃ v, max (max a1 b1) c1 = v := ⟨_, rfl⟩
  obtain ⟨hy, e4⟩ : ∃ v, max (max a2 b2) c2 = v := ⟨_, rfl⟩
  rw [e1, e2, e3, e4]
  by_cases h0 : lx ≤ fx
  · by_cases h1 : ly ≤ fy
    · by_cases h2 : x ≤ hx
      · by_cases h3 : y ≤ hy
        · rw [decide_eq_true h0, decide_eq_true h1, decide_eq_true h2, decide_eq_true h3]
          go_enter Try.func25, Try.ntmps25
          go_upto_region 1 with fail
          have hbp := below_new1 w (.cells #[.int .i64 x, .int .i64 y] 23)
          have zp : (w.alloc (.cells #[.int .i64 x, .int .i64 y] 23)).heap.size = w.heap.size + 1 := by simp
          have HB := Lib.hid hbp
          have kp := Lib.hid (Lok.new w 23 #[.int .i64 x, .int .i64 y])
          clear hbp
          generalize w.alloc (.cells #[.int .i64 x, .int .i64 y] 23) = Vp at *
          have hbq := below_new1 Vp (.cells #[.int .i64 fx, .int .i64 fy] 23)
          replace kp := Lib.hid (kp.out.keep hbq)
          have zq : (Vp.alloc (.cells #[.int .i64 fx, .int .i64 fy] 23)).heap.size = Vp.heap.size + 1 := by simp
          replace HB := Lib.hid (HB.out.trans (hbq.mono HB.out.size))
          have kq := Lib.hid (Lok.new Vp 23 #[.int .i64 fx, .int .i64 fy])
          clear hbq
          generalize Vp.alloc (.cells #[.int .i64 fx, .int .i64 fy] 23) = Vq at *
          rw [zp] at kq zq
          have hbt := below_new1 Vq (.cells #[.int .i64 a1, .int .i64 a2, .int .i64 b1, .int .i64 b2, .int .i64 c1, .int .i64 c2] 24)
          replace kp := Lib.hid (kp.out.keep hbt)
          replace kq := Lib.hid (kq.out.keep hbt)
          have zt : (Vq.alloc (.cells #[.int .i64 a1, .int .i64 a2, .int .i64 b1, .int .i64 b2, .int .i64 c1, .int .i64 c2] 24)).heap.size = Vq.heap.size + 1 := by simp
          replace HB := Lib.hid (HB.out.trans (hbt.mono HB.out.size))
          have kt := Lib.hid (Lok.new Vq 24 #[.int .i64 a1, .int .i64 a2, .int .i64 b1, .int .i64 b2, .int .i64 c1, .int .i64 c2])
          clear hbt
          generalize Vq.alloc (.cells #[.int .i64 a1, .int .i64 a2, .int .i64 b1, .int .i64 b2, .int .i64 c1, .int .i64 c2] 24) = Vt at *
          rw [zq] at kt
          clear zp zq zt
          have t0 := kt.out.cell (i := 0) rfl
          have t1 := kt.out.cell (i := 1) rfl
          have t2 := kt.out.cell (i := 2) rfl
          have t3 := kt.out.cell (i := 3) rfl
          have t4 := kt.out.cell (i := 4) rfl
          have t5 := kt.out.cell (i := 5) rfl
          go_upto_region 2 with fail
          have hbl := below_new1 Vt (.cells #[.int .i64 lx, .int .i64 ly] 23)
          replace kp := Lib.hid (kp.out.keep hbl)
          replace kq := Lib.hid (kq.out.keep hbl)
          replace kt := Lib.hid (kt.out.keep hbl)
          have zl : (Vt.alloc (.cells #[.int .i64 lx, .int .i64 ly] 23)).heap.size = Vt.heap.size + 1 := by simp
          replace HB := Lib.hid (HB.out.trans (hbl.mono HB.out.size))
          have kl := Lib.hid (Lok.new Vt 23 #[.int .i64 lx, .int .i64 ly])
          clear hbl
          generalize Vt.alloc (.cells #[.int .i64 lx, .int .i64 ly] 23) = Vl at *
          clear zl
          clear t0 t1 t2 t3 t4 t5
          have t0 := kt.out.cell (i := 0) rfl
          have t1 := kt.out.cell (i := 1) rfl
          have t2 := kt.out.cell (i := 2) rfl
          have t3 := kt.out.cell (i := 3) rfl
          have t4 := kt.out.cell (i := 4) rfl
          have t5 := kt.out.cell (i := 5) rfl
          go_upto_region 3 with fail
          clear t0 t1 t2 t3 t4 t5
          have hbh := below_new1 Vl (.cells #[.int .i64 hx, .int .i64 hy] 23)
          replace kp := Lib.hid (kp.out.keep hbh)
          replace kq := Lib.hid (kq.out.keep hbh)
          replace kt := Lib.hid (kt.out.keep hbh)
          replace kl := Lib.hid (kl.out.keep hbh)
          have zh : (Vl.alloc (.cells #[.int .i64 hx, .int .i64 hy] 23)).heap.size = Vl.heap.size + 1 := by simp
          replace HB := Lib.hid (HB.out.trans (hbh.mono HB.out.size))
          have kh := Lib.hid (Lok.new Vl 23 #[.int .i64 hx, .int .i64 hy])
          clear hbh
          generalize Vl.alloc (.cells #[.int .i64 hx, .int .i64 hy] 23) = Vh at *
          clear zh
          have p0 := kp.out.cell (i := 0) rfl
          have p1 := kp.out.cell (i := 1) rfl
          have q0 := kq.out.cell (i := 0) rfl
          have q1 := kq.out.cell (i := 1) rfl
          have l0 := kl.out.cell (i := 0) rfl
          have l1 := kl.out.cell (i := 1) rfl
          have h0 := kh.out.cell (i := 0) rfl
          have h1 := kh.out.cell (i := 1) rfl
          go_wp2
          go_ret
          exact ⟨rfl, HB.out⟩
        · have d3 : decide (y ≤ hy) = false := decide_eq_false h3
          rw [show (decide (lx ≤ fx) && decide (ly ≤ fy) && decide (x ≤ hx) && decide (y ≤ hy)) = false from by rw [d3]; simp]
          go_enter Try.func25, Try.ntmps25
          go_upto_region 1 with fail
          have hbp := below_new1 w (.cells #[.int .i64 x, .int .i64 y] 23)
          have zp : (w.alloc (.cells #[.int .i64 x, .int .i64 y] 23)).heap.size = w.heap.size + 1 := by simp
          have HB := Lib.hid hbp
          have kp := Lib.hid (Lok.new w 23 #[.int .i64 x, .int .i64 y])
          clear hbp
          generalize w.alloc (.cells #[.int .i64 x, .int .i64 y] 23) = Vp at *
          have hbq := below_new1 Vp (.cells #[.int .i64 fx, .int .i64 fy] 23)
          replace kp := Lib.hid (kp.out.keep hbq)
          have zq : (Vp.alloc (.cells #[.int .i64 fx, .int .i64 fy] 23)).heap.size = Vp.heap.size + 1 := by simp
          replace HB := Lib.hid (HB.out.trans (hbq.mono HB.out.size))
          have kq := Lib.hid (Lok.new Vp 23 #[.int .i64 fx, .int .i64 fy])
          clear hbq
          generalize Vp.alloc (.cells #[.int .i64 fx, .int .i64 fy] 23) = Vq at *
          rw [zp] at kq zq
          have hbt := below_new1 Vq (.cells #[.int .i64 a1, .int .i64 a2, .int .i64 b1, .int .i64 b2, .int .i64 c1, .int .i64 c2] 24)
          replace kp := Lib.hid (kp.out.keep hbt)
          replace kq := Lib.hid (kq.out.keep hbt)
          have zt : (Vq.alloc (.cells #[.int .i64 a1, .int .i64 a2, .int .i64 b1, .int .i64 b2, .int .i64 c1, .int .i64 c2] 24)).heap.size = Vq.heap.size + 1 := by simp
          replace HB := Lib.hid (HB.out.trans (hbt.mono HB.out.size))
          have kt := Lib.hid (Lok.new Vq 24 #[.int .i64 a1, .int .i64 a2, .int .i64 b1, .int .i64 b2, .int .i64 c1, .int .i64 c2])
          clear hbt
          generalize Vq.alloc (.cells #[.int .i64 a1, .int .i64 a2, .int .i64 b1, .int .i64 b2, .int .i64 c1, .int .i64 c2] 24) = Vt at *
          rw [zq] at kt
          clear zp zq zt
          have t0 := kt.out.cell (i := 0) rfl
          have t1 := kt.out.cell (i := 1) rfl
          have t2 := kt.out.cell (i := 2) rfl
          have t3 := kt.out.cell (i := 3) rfl
          have t4 := kt.out.cell (i := 4) rfl
          have t5 := kt.out.cell (i := 5) rfl
          go_upto_region 2 with fail
          have hbl := below_new1 Vt (.cells #[.int .i64 lx, .int .i64 ly] 23)
          replace kp := Lib.hid (kp.out.keep hbl)
          replace kq := Lib.hid (kq.out.keep hbl)
          replace kt := Lib.hid (kt.out.keep hbl)
          have zl : (Vt.alloc (.cells #[.int .i64 lx, .int .i64 ly] 23)).heap.size = Vt.heap.size + 1 := by simp
          replace HB := Lib.hid (HB.out.trans (hbl.mono HB.out.size))
          have kl := Lib.hid (Lok.new Vt 23 #[.int .i64 lx, .int .i64 ly])
          clear hbl
          generalize Vt.alloc (.cells #[.int .i64 lx, .int .i64 ly] 23) = Vl at *
          clear zl
          clear t0 t1 t2 t3 t4 t5
          have t0 := kt.out.cell (i := 0) rfl
          have t1 := kt.out.cell (i := 1) rfl
          have t2 := kt.out.cell (i := 2) rfl
          have t3 := kt.out.cell (i := 3) rfl
          have t4 := kt.out.cell (i := 4) rfl
          have t5 := kt.out.cell (i := 5) rfl
          go_upto_region 3 with fail
          clear t0 t1 t2 t3 t4 t5
          have hbh := below_new1 Vl (.cells #[.int .i64 hx, .int .i64 hy] 23)
          replace kp := Lib.hid (kp.out.keep hbh)
          replace kq := Lib.hid (kq.out.keep hbh)
          replace kt := Lib.hid (kt.out.keep hbh)
          replace kl := Lib.hid (kl.out.keep hbh)
          have zh : (Vl.alloc (.cells #[.int .i64 hx, .int .i64 hy] 23)).heap.size = Vl.heap.size + 1 := by simp
          replace HB := Lib.hid (HB.out.trans (hbh.mono HB.out.size))
          have kh := Lib.hid (Lok.new Vl 23 #[.int .i64 hx, .int .i64 hy])
          clear hbh
          generalize Vl.alloc (.cells #[.int .i64 hx, .int .i64 hy] 23) = Vh at *
          clear zh
          have p0 := kp.out.cell (i := 0) rfl
          have p1 := kp.out.cell (i := 1) rfl
          have q0 := kq.out.cell (i := 0) rfl
          have q1 := kq.out.cell (i := 1) rfl
          have l0 := kl.out.cell (i := 0) rfl
          have l1 := kl.out.cell (i := 1) rfl
          have h0 := kh.out.cell (i := 0) rfl
          have h1 := kh.out.cell (i := 1) rfl
          go_wp2
          go_ret
          exact ⟨rfl, HB.out⟩
      · have d2 : decide (x ≤ hx) = false := decide_eq_false h2
        rw [show (decide (lx ≤ fx) && decide (ly ≤ fy) && decide (x ≤ hx) && decide (y ≤ hy)) = false from by rw [d2]; simp]
        go_enter Try.func25, Try.ntmps25
        go_upto_region 1 with fail
        have hbp := below_new1 w (.cells #[.int .i64 x, .int .i64 y] 23)
        have zp : (w.alloc (.cells #[.int .i64 x, .int .i64 y] 23)).heap.size = w.heap.size + 1 := by simp
        have HB := Lib.hid hbp
        have kp := Lib.hid (Lok.new w 23 #[.int .i64 x, .int .i64 y])
        clear hbp
        generalize w.alloc (.cells #[.int .i64 x, .int .i64 y] 23) = Vp at *
        have hbq := below_new1 Vp (.cells #[.int .i64 fx, .int .i64 fy] 23)
        replace kp := Lib.hid (kp.out.keep hbq)
        have zq : (Vp.alloc (.cells #[.int .i64 fx, .int .i64 fy] 23)).heap.size = Vp.heap.size + 1 := by simp
        replace HB := Lib.hid (HB.out.trans (hbq.mono HB.out.size))
        have kq := Lib.hid (Lok.new Vp 23 #[.int .i64 fx, .int .i64 fy])
        clear hbq
        generalize Vp.alloc (.cells #[.int .i64 fx, .int .i64 fy] 23) = Vq at *
        rw [zp] at kq zq
        have hbt := below_new1 Vq (.cells #[.int .i64 a1, .int .i64 a2, .int .i64 b1, .int .i64 b2, .int .i64 c1, .int .i64 c2] 24)
        replace kp := Lib.hid (kp.out.keep hbt)
        replace kq := Lib.hid (kq.out.keep hbt)
        have zt : (Vq.alloc (.cells #[.int .i64 a1, .int .i64 a2, .int .i64 b1, .int .i64 b2, .int .i64 c1, .int .i64 c2] 24)).heap.size = Vq.heap.size + 1 := by simp
        replace HB := Lib.hid (HB.out.trans (hbt.mono HB.out.size))
        have kt := Lib.hid (Lok.new Vq 24 #[.int .i64 a1, .int .i64 a2, .int .i64 b1, .int .i64 b2, .int .i64 c1, .int .i64 c2])
        clear hbt
        generalize Vq.alloc (.cells #[.int .i64 a1, .int .i64 a2, .int .i64 b1, .int .i64 b2, .int .i64 c1, .int .i64 c2] 24) = Vt at *
        rw [zq] at kt
        clear zp zq zt
        have t0 := kt.out.cell (i := 0) rfl
        have t1 := kt.out.cell (i := 1) rfl
        have t2 := kt.out.cell (i := 2) rfl
        have t3 := kt.out.cell (i := 3) rfl
        have t4 := kt.out.cell (i := 4) rfl
        have t5 := kt.out.cell (i := 5) rfl
        go_upto_region 2 with fail
        have hbl := below_new1 Vt (.cells #[.int .i64 lx, .int .i64 ly] 23)
        replace kp := Lib.hid (kp.out.keep hbl)
        replace kq := Lib.hid (kq.out.keep hbl)
        replace kt := Lib.hid (kt.out.keep hbl)
        have zl : (Vt.alloc (.cells #[.int .i64 lx, .int .i64 ly] 23)).heap.size = Vt.heap.size + 1 := by simp
        replace HB := Lib.hid (HB.out.trans (hbl.mono HB.out.size))
        have kl := Lib.hid (Lok.new Vt 23 #[.int .i64 lx, .int .i64 ly])
        clear hbl
        generalize Vt.alloc (.cells #[.int .i64 lx, .int .i64 ly] 23) = Vl at *
        clear zl
        clear t0 t1 t2 t3 t4 t5
        have t0 := kt.out.cell (i := 0) rfl
        have t1 := kt.out.cell (i := 1) rfl
        have t2 := kt.out.cell (i := 2) rfl
        have t3 := kt.out.cell (i := 3) rfl
        have t4 := kt.out.cell (i := 4) rfl
        have t5 := kt.out.cell (i := 5) rfl
        go_upto_region 3 with fail
        clear t0 t1 t2 t3 t4 t5
        have hbh := below_new1 Vl (.cells #[.int .i64 hx, .int .i64 hy] 23)
        replace kp := Lib.hid (kp.out.keep hbh)
        replace kq := Lib.hid (kq.out.keep hbh)
        replace kt := Lib.hid (kt.out.keep hbh)
        replace kl := Lib.hid (kl.out.keep hbh)
        have zh : (Vl.alloc (.cells #[.int .i64 hx, .int .i64 hy] 23)).heap.size = Vl.heap.size + 1 := by simp
        replace HB := Lib.hid (HB.out.trans (hbh.mono HB.out.size))
        have kh := Lib.hid (Lok.new Vl 23 #[.int .i64 hx, .int .i64 hy])
        clear hbh
        generalize Vl.alloc (.cells #[.int .i64 hx, .int .i64 hy] 23) = Vh at *
        clear zh
        have p0 := kp.out.cell (i := 0) rfl
        have p1 := kp.out.cell (i := 1) rfl
        have q0 := kq.out.cell (i := 0) rfl
        have q1 := kq.out.cell (i := 1) rfl
        have l0 := kl.out.cell (i := 0) rfl
        have l1 := kl.out.cell (i := 1) rfl
        have h0 := kh.out.cell (i := 0) rfl
        have h1 := kh.out.cell (i := 1) rfl
        go_wp2
        go_ret
        exact ⟨rfl, HB.out⟩
    · have d1 : decide (ly ≤ fy) = false := decide_eq_false h1
      rw [show (decide (lx ≤ fx) && decide (ly ≤ fy) && decide (x ≤ hx) && decide (y ≤ hy)) = false from by rw [d1]; simp]
      go_enter Try.func25, Try.ntmps25
      go_upto_region 1 with fail
      have hbp := below_new1 w (.cells #[.int .i64 x, .int .i64 y] 23)
      have zp : (w.alloc (.cells #[.int .i64 x, .int .i64 y] 23)).heap.size = w.heap.size + 1 := by simp
      have HB := Lib.hid hbp
      have kp := Lib.hid (Lok.new w 23 #[.int .i64 x, .int .i64 y])
      clear hbp
      generalize w.alloc (.cells #[.int .i64 x, .int .i64 y] 23) = Vp at *
      have hbq := below_new1 Vp (.cells #[.int .i64 fx, .int .i64 fy] 23)
      replace kp := Lib.hid (kp.out.keep hbq)
      have zq : (Vp.alloc (.cells #[.int .i64 fx, .int .i64 fy] 23)).heap.size = Vp.heap.size + 1 := by simp
      replace HB := Lib.hid (HB.out.trans (hbq.mono HB.out.size))
      have kq := Lib.hid (Lok.new Vp 23 #[.int .i64 fx, .int .i64 fy])
      clear hbq
      generalize Vp.alloc (.cells #[.int .i64 fx, .int .i64 fy] 23) = Vq at *
      rw [zp] at kq zq
      have hbt := below_new1 Vq (.cells #[.int .i64 a1, .int .i64 a2, .int .i64 b1, .int .i64 b2, .int .i64 c1, .int .i64 c2] 24)
      replace kp := Lib.hid (kp.out.keep hbt)
      replace kq := Lib.hid (kq.out.keep hbt)
      have zt : (Vq.alloc (.cells #[.int .i64 a1, .int .i64 a2, .int .i64 b1, .int .i64 b2, .int .i64 c1, .int .i64 c2] 24)).heap.size = Vq.heap.size + 1 := by simp
      replace HB := Lib.hid (HB.out.trans (hbt.mono HB.out.size))
      have kt := Lib.hid (Lok.new Vq 24 #[.int .i64 a1, .int .i64 a2, .int .i64 b1, .int .i64 b2, .int .i64 c1, .int .i64 c2])
      clear hbt
      generalize Vq.alloc (.cells #[.int .i64 a1, .int .i64 a2, .int .i64 b1, .int .i64 b2, .int .i64 c1, .int .i64 c2] 24) = Vt at *
      rw [zq] at kt
      clear zp zq zt
      have t0 := kt.out.cell (i := 0) rfl
      have t1 := kt.out.cell (i := 1) rfl
      have t2 := kt.out.cell (i := 2) rfl
      have t3 := kt.out.cell (i := 3) rfl
      have t4 := kt.out.cell (i := 4) rfl
      have t5 := kt.out.cell (i := 5) rfl
      go_upto_region 2 with fail
      have hbl := below_new1 Vt (.cells #[.int .i64 lx, .int .i64 ly] 23)
      replace kp := Lib.hid (kp.out.keep hbl)
      replace kq := Lib.hid (kq.out.keep hbl)
      replace kt := Lib.hid (kt.out.keep hbl)
      have zl : (Vt.alloc (.cells #[.int .i64 lx, .int .i64 ly] 23)).heap.size = Vt.heap.size + 1 := by simp
      replace HB := Lib.hid (HB.out.trans (hbl.mono HB.out.size))
      have kl := Lib.hid (Lok.new Vt 23 #[.int .i64 lx, .int .i64 ly])
      clear hbl
      generalize Vt.alloc (.cells #[.int .i64 lx, .int .i64 ly] 23) = Vl at *
      clear zl
      clear t0 t1 t2 t3 t4 t5
      have t0 := kt.out.cell (i := 0) rfl
      have t1 := kt.out.cell (i := 1) rfl
      have t2 := kt.out.cell (i := 2) rfl
      have t3 := kt.out.cell (i := 3) rfl
      have t4 := kt.out.cell (i := 4) rfl
      have t5 := kt.out.cell (i := 5) rfl
      go_upto_region 3 with fail
      clear t0 t1 t2 t3 t4 t5
      have hbh := below_new1 Vl (.cells #[.int .i64 hx, .int .i64 hy] 23)
      replace kp := Lib.hid (kp.out.keep hbh)
      replace kq := Lib.hid (kq.out.keep hbh)
      replace kt := Lib.hid (kt.out.keep hbh)
      replace kl := Lib.hid (kl.out.keep hbh)
      have zh : (Vl.alloc (.cells #[.int .i64 hx, .int .i64 hy] 23)).heap.size = Vl.heap.size + 1 := by simp
      replace HB := Lib.hid (HB.out.trans (hbh.mono HB.out.size))
      have kh := Lib.hid (Lok.new Vl 23 #[.int .i64 hx, .int .i64 hy])
      clear hbh
      generalize Vl.alloc (.cells #[.int .i64 hx, .int .i64 hy] 23) = Vh at *
      clear zh
      have p0 := kp.out.cell (i := 0) rfl
      have p1 := kp.out.cell (i := 1) rfl
      have q0 := kq.out.cell (i := 0) rfl
      have q1 := kq.out.cell (i := 1) rfl
      have l0 := kl.out.cell (i := 0) rfl
      have l1 := kl.out.cell (i := 1) rfl
      have h0 := kh.out.cell (i := 0) rfl
      have h1 := kh.out.cell (i := 1) rfl
      go_wp2
      go_ret
      exact ⟨rfl, HB.out⟩
  · have d0 : decide (lx ≤ fx) = false := decide_eq_false h0
    rw [show (decide (lx ≤ fx) && decide (ly ≤ fy) && decide (x ≤ hx) && decide (y ≤ hy)) = false from by rw [d0]; simp]
    go_enter Try.func25, Try.ntmps25
    go_upto_region 1 with fail
    have hbp := below_new1 w (.cells #[.int .i64 x, .int .i64 y] 23)
    have zp : (w.alloc (.cells #[.int .i64 x, .int .i64 y] 23)).heap.size = w.heap.size + 1 := by simp
    have HB := Lib.hid hbp
    have kp := Lib.hid (Lok.new w 23 #[.int .i64 x, .int .i64 y])
    clear hbp
    generalize w.alloc (.cells #[.int .i64 x, .int .i64 y] 23) = Vp at *
    have hbq := below_new1 Vp (.cells #[.int .i64 fx, .int .i64 fy] 23)
    replace kp := Lib.hid (kp.out.keep hbq)
    have zq : (Vp.alloc (.cells #[.int .i64 fx, .int .i64 fy] 23)).heap.size = Vp.heap.size + 1 := by simp
    replace HB := Lib.hid (HB.out.trans (hbq.mono HB.out.size))
    have kq := Lib.hid (Lok.new Vp 23 #[.int .i64 fx, .int .i64 fy])
    clear hbq
    generalize Vp.alloc (.cells #[.int .i64 fx, .int .i64 fy] 23) = Vq at *
    rw [zp] at kq zq
    have hbt := below_new1 Vq (.cells #[.int .i64 a1, .int .i64 a2, .int .i64 b1, .int .i64 b2, .int .i64 c1, .int .i64 c2] 24)
    replace kp := Lib.hid (kp.out.keep hbt)
    replace kq := Lib.hid (kq.out.keep hbt)
    have zt : (Vq.alloc (.cells #[.int .i64 a1, .int .i64 a2, .int .i64 b1, .int .i64 b2, .int .i64 c1, .int .i64 c2] 24)).heap.size = Vq.heap.size + 1 := by simp
    replace HB := Lib.hid (HB.out.trans (hbt.mono HB.out.size))
    have kt := Lib.hid (Lok.new Vq 24 #[.int .i64 a1, .int .i64 a2, .int .i64 b1, .int .i64 b2, .int .i64 c1, .int .i64 c2])
    clear hbt
    generalize Vq.alloc (.cells #[.int .i64 a1, .int .i64 a2, .int .i64 b1, .int .i64 b2, .int .i64 c1, .int .i64 c2] 24) = Vt at *
    rw [zq] at kt
    clear zp zq zt
    have t0 := kt.out.cell (i := 0) rfl
    have t1 := kt.out.cell (i := 1) rfl
    have t2 := kt.out.cell (i := 2) rfl
    have t3 := kt.out.cell (i := 3) rfl
    have t4 := kt.out.cell (i := 4) rfl
    have t5 := kt.out.cell (i := 5) rfl
    go_upto_region 2 with fail
    have hbl := below_new1 Vt (.cells #[.int .i64 lx, .int .i64 ly] 23)
    replace kp := Lib.hid (kp.out.keep hbl)
    replace kq := Lib.hid (kq.out.keep hbl)
    replace kt := Lib.hid (kt.out.keep hbl)
    have zl : (Vt.alloc (.cells #[.int .i64 lx, .int .i64 ly] 23)).heap.size = Vt.heap.size + 1 := by simp
    replace HB := Lib.hid (HB.out.trans (hbl.mono HB.out.size))
    have kl := Lib.hid (Lok.new Vt 23 #[.int .i64 lx, .int .i64 ly])
    clear hbl
    generalize Vt.alloc (.cells #[.int .i64 lx, .int .i64 ly] 23) = Vl at *
    clear zl
    clear t0 t1 t2 t3 t4 t5
    have t0 := kt.out.cell (i := 0) rfl
    have t1 := kt.out.cell (i := 1) rfl
    have t2 := kt.out.cell (i := 2) rfl
    have t3 := kt.out.cell (i := 3) rfl
    have t4 := kt.out.cell (i := 4) rfl
    have t5 := kt.out.cell (i := 5) rfl
    go_upto_region 3 with fail
    clear t0 t1 t2 t3 t4 t5
    have hbh := below_new1 Vl (.cells #[.int .i64 hx, .int .i64 hy] 23)
    replace kp := Lib.hid (kp.out.keep hbh)
    replace kq := Lib.hid (kq.out.keep hbh)
    replace kt := Lib.hid (kt.out.keep hbh)
    replace kl := Lib.hid (kl.out.keep hbh)
    have zh : (Vl.alloc (.cells #[.int .i64 hx, .int .i64 hy] 23)).heap.size = Vl.heap.size + 1 := by simp
    replace HB := Lib.hid (HB.out.trans (hbh.mono HB.out.size))
    have kh := Lib.hid (Lok.new Vl 23 #[.int .i64 hx, .int .i64 hy])
    clear hbh
    generalize Vl.alloc (.cells #[.int .i64 hx, .int .i64 hy] 23) = Vh at *
    clear zh
    have p0 := kp.out.cell (i := 0) rfl
    have p1 := kp.out.cell (i := 1) rfl
    have q0 := kq.out.cell (i := 0) rfl
    have q1 := kq.out.cell (i := 1) rfl
    have l0 := kl.out.cell (i := 0) rfl
    have l1 := kl.out.cell (i := 1) rfl
    have h0 := kh.out.cell (i := 0) rfl
    have h1 := kh.out.cell (i := 1) rfl
    go_wp2
    go_ret
    exact ⟨rfl, HB.out⟩
end Go.Proofs.Ythdcldbocakbpaa
