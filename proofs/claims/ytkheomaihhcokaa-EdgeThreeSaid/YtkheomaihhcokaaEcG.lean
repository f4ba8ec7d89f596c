/-
  The library's DeleteFunc with the closure that tells the triangle itself.
-/
import Derived.Test.YtkheomaihhcokaaEcF
import Derived.Lib.SliceRun
namespace Go.Proofs.Ytkheomaihhcokaa
open Go.RowKit Go.Sort

set_option maxRecDepth 100000 in
set_option maxHeartbeats 4000000 in
theorem self_gives (i k : Int) (gi : Nat) (W : World) (hc : W.cell? ⟨gi, 0, none⟩ = some (.int .i64 i)) : FnGives Try.prog 58 #[.pointer (some ⟨gi, 0, none⟩)] #[.int .i64 k] (.bool (k == i)) W := by
  show Calls Try.prog 58 #[.int .i64 k, .pointer (some ⟨gi, 0, none⟩)] W _
  go_enter Try.func58, Try.ntmps58
  go_wp2
  go_ret
  exact ⟨rfl, 0, rfl⟩
theorem eg_self : ∀ args w, (callFunc 58 args).run Try.prog w = .ok (.enter 58 args) w := enters_of Try.func58 (by kernel_rfl) rfl
set_option maxRecDepth 100000 in
set_option maxHeartbeats 4000000 in
theorem delete_own (base : Nat) (v : Value) (L : List Int) (gi : Nat) (i : Int) (w : World) (h : OwnI w base v L) (hl : L.length ≤ 1000000) (hc : w.cell? ⟨gi, 0, none⟩ = some (.int .i64 i)) (hgi : gi < w.heap.size) (hne : ∀ g, v.ownBlock = some g → gi ≠ g) :
    Calls Try.prog 57 #[v, .func (.func 58) #[] #[.pointer (some ⟨gi, 0, none⟩)]] w fun e w' => ∃ v', e = .returned v' ∧ OwnI w' base v' (L.filter fun k => !(k == i)) ∧ w.grownBy w' v.ownBlock := by
  rcases ownI_nil_or h with ⟨rfl, rfl⟩ | ⟨g, cap, rfl, hg, hlt, hn⟩
  · have IX := Lib.hid (fun W => Try.slices_IndexFunc_empty (α := Int) none 0 (.func (.func 58) #[] #[.pointer (some ⟨gi, 0, none⟩)]) W)
    clear hl hc hgi hne h
    go_enter Try.func57, Try.ntmps57
    go_wp2_with fail
    (refine (IX.out _).mono ?_; rintro e' w5 ⟨rfl, rfl⟩)
    go_wp2
    go_ret
    exact ⟨_, rfl, OwnI.nil _ _, World.grownBy.refl _ _⟩
  · have hpo : PredOver Try.prog 58 #[.pointer (some ⟨gi, 0, none⟩)] (Value.int .i64) (fun k => k == i) g 0 L.toArray.size w :=
      fun n os dk x _ => self_gives i x gi _ (by
        unfold sortWorld
        rw [cell?_grow _ _ _ (by show gi < (putRow _ _ _ _ _).heap.size; rw [size_putRow]; exact hgi), cell?_putRow_other _ _ g 0 _ _ (Or.inl (hne g rfl))]
        exact hc)
    have hp : PredAt Try.prog 58 #[.pointer (some ⟨gi, 0, none⟩)] (Value.int .i64) (fun k => k == i) w := fun W x hb => self_gives i x gi W ((hb.cell (p := ⟨gi, 0, none⟩) hgi).trans hc)
    have z := Try.slices_DeleteFunc (Value.int .i64) (fun _ => rfl) (fun k => k == i) 58 #[.pointer (some ⟨gi, 0, none⟩)] eg_self 0 (fun W => by kernel_rfl) g 0 cap L.toArray w hp hpo (ownI_holds h) (by simp; omega) (by simp; omega)
    rw [show L.toArray.size = L.length from by simp, show L.toArray.toList = L from rfl] at z
    refine z.mono ?_
    rintro e w' ⟨rfl, n, rfl⟩
    have hc2 := List.length_filter_le (fun k => !(k == i)) L
    have z := ownI_put (n := n) (os := #[]) (M := (L.filter fun k => !(k == i)) ++ List.replicate (L.length - (L.filter fun k => !(k == i)).length) 0) (k := (L.filter fun k => !(k == i)).length) h (by rw [List.length_append, List.length_replicate]; omega) (by rw [List.length_append]; omega)
    have g := grown_put (w := w) (g := g) (n := n) (os := #[]) ((L.filter fun k => !(k == i)) ++ List.replicate (L.length - (L.filter fun k => !(k == i)).length) 0).toArray
    rw [grow_empty] at z g
    rw [List.take_left] at z
    exact ⟨_, rfl, z, g⟩
end Go.Proofs.Ytkheomaihhcokaa
