/-
  The program's package edge: clone (slices.Clone of a row of ints), cmp.Or of two ints.
-/
import Derived.Test.YtkheomaihhcokaaGaD
namespace Go.Proofs.Ytkheomaihhcokaa
open Go.RowKit

set_option maxRecDepth 100000 in
set_option maxHeartbeats 4000000 in
theorem clones_list (a : Option Addr) (n c : Nat) (L : List Int) (w : World) (hl : RowI w a n L) (ha : a = none → n = 0 ∧ c = 0) (hn : n ≤ 1000000) :
    Calls Try.prog 60 #[.slice a n c] w fun e w' => (∃ v, e = .returned v ∧ OwnI w' w.heap.size v L) ∧ Below w.heap.size w w' := by
  obtain ⟨i0, hi, hz0, hz1, hz2⟩ := info_parts infoI
  rcases a with _ | ad
  · obtain ⟨rfl, rfl⟩ := ha rfl
    have e : L = [] := List.eq_nil_of_length_eq_zero hl.1
    subst e
    clear ha hn hl
    have q0 : ∀ W, Sem.run Try.prog (binOp .eql 34 (.slice none 0 0) (.slice none 0 0)) W = .ok (.bool true) W := fun W => by kernel_rfl
    go_enter Try.func60, Try.ntmps60
    go_wp2
    go_ret
    exact ⟨⟨_, rfl, OwnI.nil _ _⟩, Below.refl _ _⟩
  · have HL := Lib.hid hl
    have hln := hl.1
    have HA := Lib.hid ha
    clear hl ha
    have hr2 := Lib.hid (HL.out.2.keep ((Below.refl w.heap.size w).alloc (Nat.le_refl _) (.cells #[] 3)))
    have q0 : ∀ W, Sem.run Try.prog (binOp .eql 34 (.slice (some ad) n c) (.slice none 0 0)) W = .ok (.bool false) W := fun W => by kernel_rfl
    have own0 : (w.alloc (.cells #[] 3)).ownsRow w.heap.size 3 1 (.slice (some ⟨w.heap.size, 0, none⟩) 0 0) 0 [] := ⟨rfl, .inr ⟨w.heap.size, 0, #[], rfl, Nat.le_refl _, (MapKept.heap_alloc w _).1, Nat.le_refl _, Nat.zero_le _, rfl, rfl⟩⟩
    go_enter Try.func60, Try.ntmps60
    go_wp2_with (at_builtin; refine wpList_append_catk rfl _ _ 34 rfl w.heap.size 3 i0 (.int .i64 0) 1 8 Try.underlying34 hi hz0 hz1 hz2 rfl (by decide) (.slice (some ⟨w.heap.size, 0, none⟩) 0 0) 0 (fun _ _ => 0) rfl own0 (some ad) n c (fun i _ => L.getD i 0) rfl HA.out hr2.out (by unfold maxLen; omega) (by omega) (by simp) ?_)
    intro v1 w1 own1 hb1
    have O : Hid (OwnI w1 w.heap.size v1 L) := Lib.hid (by
      unfold OwnI
      rw [map_vals, hln]
      rw [valsK_congr (G := fun i _ => L.getD i 0) (fun i hi j _ => by rw [catK_hi _ _ _ (Nat.zero_le _), Nat.sub_zero, List.getD_eq_getElem?_getD])] at own1
      exact own1)
    have HB := Lib.hid (((Below.refl w.heap.size w).alloc (Nat.le_refl _) (.cells #[] 3)).trans hb1)
    clear own1 hb1
    go_wp2
    go_ret
    exact ⟨⟨_, rfl, O.out⟩, HB.out⟩
set_option maxRecDepth 100000 in
set_option maxHeartbeats 8000000 in
theorem clone_any (x y : Int) (t : Option Addr) (m c : Nat) (l : List Int) (w : World) (hl : RowI w t m l) (ht : t = none → m = 0 ∧ c = 0) (hm : m ≤ 1000000) :
    Calls Try.prog 41 #[.agg #[.int .i64 x, .int .i64 y, .slice t m c]] w fun e w' => (∃ v, e = .returned (.agg #[.int .i64 x, .int .i64 y, v]) ∧ OwnI w' w.heap.size v l) ∧ Below w.heap.size w w' := by
  have HB := Lib.hid (Below.refl w.heap.size w)
  have R := Lib.hid hl
  clear hl
  go_enter Try.func41, Try.ntmps41
  go_upto_region 1 with fail
  have hbe := below_new1 w (.cells #[.int .i64 x, .int .i64 y, .slice t m c] 39)
  have ze : (w.alloc (.cells #[.int .i64 x, .int .i64 y, .slice t m c] 39)).heap.size = w.heap.size + 1 := by simp
  have HB := Lib.hid hbe
  have ke := Lib.hid (Lok.new w 39 #[.int .i64 x, .int .i64 y, .slice t m c])
  clear hbe
  generalize w.alloc (.cells #[.int .i64 x, .int .i64 y, .slice t m c] 39) = Ve at *
  have hbf := below_new1 Ve (.cells #[.int .i64 0, .int .i64 0, .slice none 0 0] 39)
  replace ke := Lib.hid (ke.out.keep hbf)
  have zf : (Ve.alloc (.cells #[.int .i64 0, .int .i64 0, .slice none 0 0] 39)).heap.size = Ve.heap.size + 1 := by simp
  replace HB := Lib.hid (HB.out.trans (hbf.mono HB.out.size))
  have kf := Lib.hid (Lok.new Ve 39 #[.int .i64 0, .int .i64 0, .slice none 0 0])
  clear hbf
  generalize Ve.alloc (.cells #[.int .i64 0, .int .i64 0, .slice none 0 0] 39) = Vf at *
  rw [ze] at kf zf
  have hbound : w.heap.size + 2 = Vf.heap.size := by rw [zf]
  clear ze zf
  have e0 := ke.out.cell (i := 0) rfl
  have e1 := ke.out.cell (i := 1) rfl
  have e2 := ke.out.cell (i := 2) rfl
  go_wp2_with fail
  ((with_reducible refine (clones_list t m c l Vf (R.out.keep HB.out) ht hm).mono ?_); rintro e w5 ⟨⟨v5, rfl, hO5⟩, hb5⟩)
  replace HB := Lib.hid (HB.out.trans (hb5.mono HB.out.size))
  replace ke := Lib.hid (ke.out.keep hb5)
  replace kf := Lib.hid (kf.out.keep hb5)
  obtain ⟨aQ, nQ, cQ, rfl⟩ := ownI_slice hO5
  have hlt := kf.out.lt
  have O6 := Lib.hid (ownI_mono (base' := w.heap.size) (ownI_set (g := w.heap.size + 1) (i := 2) (x := .slice aQ nQ cQ) (ownI_set (g := w.heap.size + 1) (i := 1) (x := .int .i64 y) (ownI_set (g := w.heap.size + 1) (i := 0) (x := .int .i64 x) (ownI_set (g := w.heap.size) (i := 2) (x := .slice aQ nQ cQ) hO5 (by omega)) (by omega)) (by omega)) (by omega)) (by omega))
  clear hb5 hO5 e0 e1 e2
  have e0 := ke.out.cell (i := 0) rfl
  have e1 := ke.out.cell (i := 1) rfl
  have e2 := ke.out.cell (i := 2) rfl
  have g2 := ke.out.frozen 2
  have y0 := kf.out.cell (i := 0) rfl
  have y1 := kf.out.cell (i := 1) rfl
  have y2 := kf.out.cell (i := 2) rfl
  have f0 := kf.out.frozen 0
  have f1 := kf.out.frozen 1
  have f2 := kf.out.frozen 2
  have hBF := Lib.hid ((((HB.out.setCell (p := ⟨w.heap.size, 2, none⟩) (by simp) (.slice aQ nQ cQ)).setCell (p := ⟨w.heap.size + 1, 0, none⟩) (by simp) (.int .i64 x)).setCell (p := ⟨w.heap.size + 1, 1, none⟩) (by simp) (.int .i64 y)).setCell (p := ⟨w.heap.size + 1, 2, none⟩) (by simp) (.slice aQ nQ cQ))
  go_wp2_with fail
  exact bodyPost_ret (v := .agg #[.int .i64 x, .int .i64 y, .slice aQ nQ cQ]) (by simp [results, Try.results41, go_sem, y0, y1, y2]) rfl ⟨⟨_, rfl, O6.out⟩, hBF.out⟩
end Go.Proofs.Ytkheomaihhcokaa
