/-
  smudge (limewashlaw14) once more: nothing that was made behind the row is reached either.
-/
import Derived.Test.YtkheomaihhcokaaGaD
import Derived.Test.YtkheomaihhcokaaEcU
namespace Go.Proofs.Ytkheomaihhcokaa
open Go.RowKit

/-- A row of edges whose rows may be written over, below T. -/
def SmT (T : Nat) (W : World) (B b n : Nat) : Prop := ∀ i, i < n → ∃ t m c, W.cell? ⟨b, i * 3 + 2, none⟩ = some (.slice t m c) ∧ m ≤ c ∧ c ≤ 9223372036854775807 ∧ (m = 0 ∨ ∃ g, t = some ⟨g, 0, none⟩ ∧ B ≤ g ∧ g < T ∧ ¬ g = b ∧ ∀ j, j < m → (∃ x, W.cell? ⟨g, j, none⟩ = some (.int .i64 x)) ∧ W.frozen? ⟨g, j, none⟩ = false)
theorem SmT.set {T : Nat} {W : World} {B b n g : Nat} (h : SmT T W B b n) (hg : ¬ g = b) (q : Nat) (x : Int) : SmT T (W.setCell ⟨g, q, none⟩ (.int .i64 x)) B b n := by
  intro i hi
  obtain ⟨t, m, c, h1, h2, h3, h4⟩ := h i hi
  refine ⟨t, m, c, ?_, h2, h3, ?_⟩
  · rw [World.cell?_setCell_other _ _ _ _ (by intro e; cases e; exact hg rfl)]
    exact h1
  · rcases h4 with z | ⟨g', e, e1, eT, e2, e3⟩
    · exact .inl z
    · exact .inr ⟨g', e, e1, eT, e2, fun j hj => ⟨someInt_setCell (e3 j hj).1 _ _, by rw [World.frozen?_setCell]; exact (e3 j hj).2⟩⟩
theorem smT_of_own {w : World} {base T : Nat} {v : Value} {Z : List EdZ} (h : OwnE w base v Z) (hT : ∀ z ∈ Z, ∀ g, z.2.2.2.ownBlock = some g → g < T) : (∃ c, v = .slice none 0 c ∧ Z.length = 0) ∨ ∃ b c, v = .slice (some ⟨b, 0, none⟩) Z.length c ∧ Z.length ≤ c ∧ c ≤ 9223372036854775807 ∧ b < w.heap.size ∧ SmT T w base b Z.length := by
  obtain ⟨hr, hz⟩ := h
  have hl := hr.lt
  have hc := fun (g : Nat) (hg : v.ownBlock = some g) => hr.cells hg
  obtain ⟨h1, ⟨rfl, h0⟩ | ⟨g, cap, cur, rfl, hb, hh, hk, hm, _, _⟩⟩ := hr
  · exact .inl ⟨0, rfl, h0⟩
  · refine .inr ⟨g, cap, rfl, hk, by unfold maxLen at hm; omega, (hl g rfl).2, fun i hi' => ?_⟩
    obtain ⟨p, q, r⟩ := cellsE_at Z i hi'
    have r' := hc g rfl (i * 3 + 2) _ r
    simp only [Go.WideShapes.add_plain] at r'
    have zi := hz Z[i] (List.getElem_mem hi')
    obtain ⟨z1, z2⟩ := zi
    rcases Nat.eq_zero_or_pos Z[i].2.2.1.length with e0 | e0
    · obtain ⟨a, c, e, f1, f2, f3, f4⟩ := rowI_of_own z1
      rw [e, e0] at r'
      exact ⟨a, 0, c, by simpa using r', Nat.zero_le _, f3, .inl rfl⟩
    · obtain ⟨g', cap', cur', hv, hg, hn, hh', ht, hs⟩ := z1.open e0
      have z3 := z1
      rw [hv] at r' z3
      have zc := fun j (hj : j < Z[i].2.2.1.length) => OwnI.cells z3 hj
      obtain ⟨a, c, e, f1, f2, f3, f4⟩ := rowI_of_own z3
      cases e
      exact ⟨_, _, _, by simpa using r', f2, f3, .inr ⟨g', rfl, hg, hT _ (List.getElem_mem hi') g' (by rw [hv]; rfl), (fun q => z2 g' (by rw [hv]; rfl) (by rw [q]; rfl)), fun j hj => ⟨⟨_, (zc j hj).1⟩, (zc j hj).2⟩⟩⟩
set_option maxRecDepth 100000 in
set_option maxHeartbeats 4000000 in
theorem lsmudge_mid (v : Value) (Z : List EdZ) (B T : Nat) (w : World) (h : OwnE w B v Z) (hT : ∀ z ∈ Z, ∀ g, z.2.2.2.ownBlock = some g → g < T) : Calls Try.prog 23 #[v] w fun e w' => e = .returned (.tuple #[]) ∧ Below B w w' ∧ AbP T w w' := by
  have HB := Lib.hid (And.intro (Below.refl B w) (AbP.refl T w))
  rcases smT_of_own h hT with ⟨c, rfl, hz⟩ | ⟨b, c, rfl, hnc, hc, hb, hs⟩
  · clear h hT
    go_enter Try.func23, Try.ntmps23
    go_wp2_with fail
    go_loopw [2] (fun x wr => x = .int .i64 0 ∧ Below B w wr ∧ AbP T w wr) (fun _ _ => 0)
    case atStart => exact ⟨rfl, HB.out⟩
    case round =>
      obtain ⟨rfl, hB⟩ := hrel
      go_wp2
      exact bodyPost_end (v := .tuple #[]) (by simp [results, Try.results23, go_sem]) rfl ⟨rfl, hB⟩
  · clear h hT
    generalize Z.length = n at *
    go_enter Try.func23, Try.ntmps23
    go_wp2_with fail
    go_loopw [2] (fun x wr => ∃ k : Nat, x = .int .i64 k ∧ k ≤ n ∧ SmT T wr B b n ∧ Below B w wr ∧ AbP T w wr) (fun x _ => n - (intOf x).toNat)
    case atStart => exact ⟨0, rfl, Nat.zero_le _, hs, HB.out⟩
    case round =>
      clear HB hs
      obtain ⟨k, rfl, hk, hS, hB⟩ := hrel
      have HB := Lib.hid hB
      have S := Lib.hid hS
      clear hB hS
      by_cases hlt : k < n
      · have i0 : (0 : Int) ≤ (k : Int) := by omega
        have i1 : (k : Int) < (n : Int) := by omega
        have i2 : ((k : Int)).toNat = k := by omega
        obtain ⟨t, m, ct, q1, q2, q3, -⟩ := S.out k hlt
        have hw0 := Lib.hid q1
        clear q1
        go_wp2_with fail
        go_loopw [3] (fun x wv => ∃ j : Nat, x = .int .i64 j ∧ j ≤ m ∧ SmT T wv B b n ∧ (Below B w wv ∧ AbP T w wv) ∧ wv.cell? ⟨b, k * 3 + 2, none⟩ = some (.slice t m ct)) (fun x _ => m - (intOf x).toNat)
        case atStart => exact ⟨0, rfl, Nat.zero_le _, S.out, HB.out, hw0.out⟩
        case round =>
          clear HB S hw0
          obtain ⟨j, rfl, hj, hS, hB, q1⟩ := hrel
          have HB := Lib.hid hB
          have S := Lib.hid hS
          clear hB hS
          by_cases hjm : j < m
          · obtain ⟨t', m', ct', p1, p2, p3, p4⟩ := S.out k hlt
            rw [q1] at p1
            cases p1
            rcases p4 with z | ⟨g, rfl, e1, eT, e2, e3⟩
            · exact absurd z (by omega)
            · obtain ⟨⟨x, x1⟩, x2⟩ := e3 j hjm
              clear e3
              have S2 := Lib.hid (S.out.set e2 j 77)
              have B2 := Lib.hid (And.intro (HB.out.1.setCell (p := ⟨g, j, none⟩) e1 (.int .i64 77)) (HB.out.2.set (i := j) eT (.int .i64 77)))
              have q5 := Lib.hid ((World.cell?_setCell_other wr ⟨g, j, none⟩ ⟨b, k * 3 + 2, none⟩ (.int .i64 77) (by intro e; cases e; exact e2 rfl)).trans q1)
              have j0 : (0 : Int) ≤ (j : Int) := by omega
              have j1 : (j : Int) < (m : Int) := by omega
              have j2 : ((j : Int)).toNat = j := by omega
              clear S HB
              go_wp2
              go_roundw
              case rel => exact ⟨j + 1, by go_num, hjm, S2.out, B2.out, q5.out⟩
              case measure => simp [intOf]; omega
          · obtain rfl : j = m := by omega
            go_wp2
            go_roundw
            case rel => exact ⟨k + 1, by go_num, hlt, S.out, HB.out⟩
            case measure => simp [intOf]; omega
      · obtain rfl : k = n := by omega
        go_wp2
        exact bodyPost_end (v := .tuple #[]) (by simp [results, Try.results23, go_sem]) rfl ⟨rfl, HB.out⟩
end Go.Proofs.Ytkheomaihhcokaa
