/-
  Package face: sure; row's deferred closure, in a frame that panics and in one that returns.
-/
import Derived.Test.YtlpfijdjkaijeaaDoorFcC
import Derived.Test.YtlpfijdjkaijeaaDoorFcH
import Derived.Defers
import Derived.Recover
namespace Go.Proofs.YtlpfijdjkaijeaaDoor
open Go.RowKit

/-- The panic of an error's number. -/
def thrown (x : Int) : List PanicEntry := [{ v := .iface 27 (.int .i64 x), recovered := false }]
theorem ta_hit (x : Int) (xT : TypeId) (W : World) : (Instr.typeAssert (.iface 27 (.int .i64 x)) xT 27 true).run Tryd.prog W = .ok (.tuple #[.int .i64 x, .bool true]) W := by
  simp [Instr.typeAssert, run_underlying Tryd.underlying27, go_sem]
theorem ta_miss (xT : TypeId) (W : World) : (Instr.typeAssert .nilIface xT 27 true).run Tryd.prog W = .ok (.tuple #[.int .i64 0, .bool false]) W := by
  simp [Instr.typeAssert, run_underlying Tryd.underlying27, go_sem]
set_option maxHeartbeats 1000000 in
theorem sure_ok (p q r : Int) (w : World) :
    Calls Tryd.prog 37 #[.agg #[.int .i64 p, .int .i64 q, .int .i64 r], .int .i64 0] w fun e w' => e = .returned (.agg #[.int .i64 p, .int .i64 q, .int .i64 r]) ∧ Below w.heap.size w w' := by
  go_enter Tryd.func37, Tryd.ntmps37
  go_upto_region 1 with fail
  have hbx := below_new1 w (.cells #[.int .i64 p, .int .i64 q, .int .i64 r] 23)
  have zx : (w.alloc (.cells #[.int .i64 p, .int .i64 q, .int .i64 r] 23)).heap.size = w.heap.size + 1 := by simp
  have HB := Lib.hid hbx
  have kx := Lib.hid (Lok.new w 23 #[.int .i64 p, .int .i64 q, .int .i64 r])
  clear hbx
  generalize w.alloc (.cells #[.int .i64 p, .int .i64 q, .int .i64 r] 23) = Vx at *
  have hbr := below_new1 Vx (.cells #[.int .i64 0, .int .i64 0, .int .i64 0] 23)
  replace kx := Lib.hid (kx.out.keep hbr)
  have zr : (Vx.alloc (.cells #[.int .i64 0, .int .i64 0, .int .i64 0] 23)).heap.size = Vx.heap.size + 1 := by simp
  replace HB := Lib.hid (HB.out.trans (hbr.mono HB.out.size))
  have kr := Lib.hid (Lok.new Vx 23 #[.int .i64 0, .int .i64 0, .int .i64 0])
  clear hbr
  generalize Vx.alloc (.cells #[.int .i64 0, .int .i64 0, .int .i64 0] 23) = Vr at *
  rw [zx] at kr
  clear zx zr
  have x0 := kx.out.cell (i := 0) rfl
  have x1 := kx.out.cell (i := 1) rfl
  have x2 := kx.out.cell (i := 2) rfl
  have z0 := kr.out.cell (i := 0) rfl
  have z1 := kr.out.cell (i := 1) rfl
  have z2 := kr.out.cell (i := 2) rfl
  have f0 := kr.out.frozen 0
  have f1 := kr.out.frozen 1
  have f2 := kr.out.frozen 2
  go_wp2_with fail
  exact bodyPost_ret (v := .agg #[.int .i64 p, .int .i64 q, .int .i64 r]) (by simp [results, Tryd.results37, go_sem, z0, z1, z2]) rfl ⟨rfl, ((HB.out.setCell (by simp) _).setCell (by simp) _).setCell (by simp) _⟩
set_option maxHeartbeats 1000000 in
theorem sure_bad (p q r x : Int) (hx : ¬ x = 0) (w : World) :
    Calls Tryd.prog 37 #[.agg #[.int .i64 p, .int .i64 q, .int .i64 r], .int .i64 x] w fun e w' => e = .panicked (thrown x) ∧ Below w.heap.size w w' := by
  have x1 : (x != 0) = true := by simp [hx]
  go_enter Tryd.func37, Tryd.ntmps37
  go_wp2_with fail
  exact ⟨rfl, rfl, by (repeat (first | exact Below.refl _ _ | assumption | refine Below.drew ?_ | refine below_drewN ?_ _ | refine Below.setCell ?_ (by first | omega | (simp; done) | (simp; omega)) _ | refine Below.alloc ?_ (by first | omega | (simp; done) | (simp; omega)) _))⟩
set_option maxHeartbeats 4000000 in
theorem catch_thrown (g h : Nat) (v : Value) (y x : Int) (older : List PanicEntry) (w : World) (hg : Lok w g 25 #[v]) (hh : Lok w h 27 #[.int .i64 y]) (hn : g ≠ h) :
    CallsD Tryd.prog 36 #[.pointer (some ⟨g, 0, none⟩), .pointer (some ⟨h, 0, none⟩)] (.panicking ({ v := .iface 27 (.int .i64 x), recovered := false } :: older)) w fun e u' w' =>
      e = .returned (.tuple #[]) ∧ u' = .panicking ({ v := .iface 27 (.int .i64 x), recovered := true } :: older) ∧ w' = (w.setCell ⟨g, 0, none⟩ (.slice none 0 0)).setCell ⟨h, 0, none⟩ (.int .i64 x) := by
  have ta := ta_hit x
  have c0 : w.cell? ⟨g, 0, none⟩ = some v := hg.cell (i := 0) rfl
  have c1 : (w.setCell ⟨g, 0, none⟩ (.slice none 0 0)).cell? ⟨h, 0, none⟩ = some (.int .i64 y) := (hh.far (i := 0) (v := .slice none 0 0) (Ne.symm hn)).cell (i := 0) rfl
  have f0 := hg.frozen 0
  have f1 : (w.setCell ⟨g, 0, none⟩ (.slice none 0 0)).frozen? ⟨h, 0, none⟩ = false := (hh.far (i := 0) (v := .slice none 0 0) (Ne.symm hn)).frozen 0
  refine callsD_of_wpS Tryd.func36 rfl fun c₀ cs hu => ?_
  apply wpS_seq
  apply wpS_region
  simp [wpOpsS, go_sem, recoverD, hu, Tryd.ntmps36, Exit.thenS, ta]
  apply wpS_seq
  apply wpS_region
  simp [wpOpsS, go_sem, Exit.thenS]
  refine wpS_cond (t := true) (by simp [Act.eval, Array.replicate]) ?_
  simp only [if_true]
  apply wpS_region
  simp [wpOpsS, go_sem, c0, c1, f0, f1, bodyPostS, results, Tryd.results36]
set_option maxHeartbeats 4000000 in
theorem catch_idle (g h : Nat) (w : World) :
    CallsD Tryd.prog 36 #[.pointer (some ⟨g, 0, none⟩), .pointer (some ⟨h, 0, none⟩)] .returning w fun e u' w' => e = .returned (.tuple #[]) ∧ u' = .returning ∧ w' = w := by
  have ta := ta_miss
  refine callsD_of_wpS Tryd.func36 rfl fun c₀ cs hu => ?_
  apply wpS_seq
  apply wpS_region
  simp [wpOpsS, go_sem, recoverD, hu, Tryd.ntmps36, Exit.thenS, ta]
  apply wpS_seq
  apply wpS_region
  simp [wpOpsS, go_sem, Exit.thenS]
  refine wpS_cond (t := false) (by simp [Act.eval, Array.replicate]) ?_
  simp only [Bool.false_eq_true, if_false]
  refine wpS_of_wp (wp_skip ?_)
  cases c₀
  simp_all [bodyPostS, results, Tryd.results36]
end Go.Proofs.YtlpfijdjkaijeaaDoor
