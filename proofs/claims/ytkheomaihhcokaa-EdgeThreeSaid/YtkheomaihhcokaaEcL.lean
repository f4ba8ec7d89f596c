/-
  A map gone through: what is left to come; rows of edges as the library sorts them.
-/
import Derived.Test.YtkheomaihhcokaaEcK
import Derived.Test.YtkheomaihhcokaaEcI
namespace Go.Proofs.Ytkheomaihhcokaa
open Go.RowKit Go.Sort

theorem born_perm {e : MapEntry} : ∀ {l : List MapEntry}, (l.map (·.born)).Nodup → e ∈ l → l.Perm (e :: l.filter fun x => !(x.born == e.born))
  | [], _, h => absurd h (by simp)
  | a :: l, hn, h => by
    simp only [List.map_cons, List.nodup_cons] at hn
    rcases List.mem_cons.1 h with rfl | h
    · have z : l.filter (fun x => !(x.born == e.born)) = l := List.filter_eq_self.2 fun x hx => by
        have : x.born ≠ e.born := fun q => hn.1 (List.mem_map.2 ⟨x, hx, q⟩)
        simpa using this
      rw [List.filter_cons_of_neg (by simp), z]
    · have na : a.born ≠ e.born := fun q => hn.1 (List.mem_map.2 ⟨e, h, q.symm⟩)
      rw [List.filter_cons_of_pos (by simpa using na)]
      exact ((born_perm hn.2 h).cons a).trans (List.Perm.swap _ _ _)
theorem left_perm {es : Array MapEntry} {seen : Array Nat} {e : MapEntry} (hn : (es.toList.map (·.born)).Nodup) (he : e ∈ (leftOf es seen).toList) : (leftOf es seen).toList.Perm (e :: (leftOf es (seen.push e.born)).toList) := by
  have l1 : ∀ s : Array Nat, (leftOf es s).toList = es.toList.filter fun x => !s.contains x.born := fun s => by unfold leftOf; simp
  have hn2 : (((leftOf es seen).toList).map (·.born)).Nodup := by
    rw [l1]
    exact hn.sublist (List.Sublist.map _ List.filter_sublist)
  have z := born_perm hn2 he
  rw [show (leftOf es (seen.push e.born)).toList = (leftOf es seen).toList.filter fun x => !(x.born == e.born) from ?_]
  · exact z
  · rw [l1, l1, List.filter_filter]
    congr 1
    funext x
    rw [contains_push]
    cases seen.contains x.born <;> cases (x.born == e.born) <;> rfl
/-- An iterator over a map under way. -/
def ItrG (W : World) (r b : Nat) (es : Array MapEntry) (seen : Array Nat) : Prop :=
  ∃ clock since c0, W.heap[r]? = some (.mapIter (some b) since seen c0) ∧ W.heap[b]? = some (.map es clock) ∧ (∀ x ∈ es.toList, x.born < since) ∧ since ≤ c0 ∧ since ≤ clock ∧ (es.toList.map (·.born)).Nodup ∧ r ≠ b
theorem ItrG.lt {W : World} {r b : Nat} {es : Array MapEntry} {seen : Array Nat} (h : ItrG W r b es seen) : r < W.heap.size ∧ b < W.heap.size := by
  obtain ⟨clock, since, c0, h1, h2, _⟩ := h
  exact ⟨(Array.getElem?_eq_some_iff.1 h1).1, (Array.getElem?_eq_some_iff.1 h2).1⟩
theorem ItrG.keepB {W W' : World} {n r b : Nat} {es : Array MapEntry} {seen : Array Nat} (h : ItrG W r b es seen) (hb : Below n W W') (hr : r < n) (hm : b < n) : ItrG W' r b es seen := by
  obtain ⟨clock, since, c0, h1, h2, h3⟩ := h
  exact ⟨clock, since, c0, (hb.block r hr).trans h1, (hb.block b hm).trans h2, h3⟩
def seenN (W : World) (r : Nat) (es : Array MapEntry) : Nat := (leftOf es (W.iterSeen r)).size
theorem ItrG.count {W : World} {r b : Nat} {es : Array MapEntry} {seen : Array Nat} (h : ItrG W r b es seen) : seenN W r es = (leftOf es seen).size := by
  obtain ⟨clock, since, c0, h1, _⟩ := h
  unfold seenN World.iterSeen
  rw [h1]
section
variable {w : World} {ops : Array Oper} {rest : List Oper} {o : Oper} {a : Act} {Q : Exit → Act → World → Prop}
theorem wpList_rangeG (hg : o.guard = none) (m : Operand) (hop : o.op = Op.range 55 m) {b : Nat} {es : Array MapEntry} {clock : Nat} (hm : a.eval m = .map (some b)) (h : w.heap[b]? = some (.map es clock)) (hs : MapKept.Stamped es clock)
    (hK : ∀ w', ItrG w' w.heap.size b es #[] → Below w.heap.size w w' → w'.heap.size = w.heap.size + 1 → wpList Try.prog ops Q rest (a.put o.dst (.pointer (some ⟨w.heap.size, 0, none⟩))) w') : wpList Try.prog ops Q (o :: rest) a w := by
  refine wpList_plain hg fun K' hK' => ?_
  have hrun := run_range_map (P := Try.prog) w 55 _ _ b es clock Try.underlying55 h
  have hlt := (Array.getElem?_eq_some_iff.1 h).1
  unfold Oper.wp
  simp [execOp, hop, hm, hrun, Result.andThen]
  exact hK' _ _ (hK _ ⟨clock, clock, clock, (MapKept.heap_alloc w _).1, ((MapKept.heap_alloc w _).2 b hlt).trans h, hs.1, Nat.le_refl _, Nat.le_refl _, hs.2.1, by omega⟩ ((Below.refl _ _).alloc (Nat.le_refl _) _) (by simp))
theorem wpList_nextG (hg : o.guard = none) (it : Operand) (hop : o.op = Op.next it false) {r b : Nat} {es : Array MapEntry} {seen : Array Nat} (hit : a.eval it = .pointer (some ⟨r, 0, none⟩)) (h : ItrG w r b es seen)
    (hDone : (leftOf es seen).size = 0 → wpList Try.prog ops Q rest (a.put o.dst (.tuple #[.bool false])) w)
    (hMore : ∀ e w', e ∈ (leftOf es seen).toList → ItrG w' r b es (seen.push e.born) → w.grownBy w' (some r) → (Instr.entry (.pointer (some ⟨r, 0, none⟩))).run Try.prog w' = .ok (.tuple #[e.key, e.val]) w' → wpList Try.prog ops Q rest (a.put o.dst (.tuple #[.bool true, e.key, e.val])) w') : wpList Try.prog ops Q (o :: rest) a w := by
  refine wpList_plain hg fun K' hK' => ?_
  have hl := h.lt
  obtain ⟨clock, since, c0, h1, h2, h3, h4, h7, h5, h6⟩ := h
  unfold Oper.wp
  rcases run_next_at (P := Try.prog) w o.type r b since c0 seen es clock h1 h2 h3 h4 with ⟨h0, hrun⟩ | ⟨e, he, w1, hal, hrun⟩
  · simp [execOp, hop, hit, hrun, Result.andThen]
    exact hK' _ _ (hDone h0)
  · have hw1 : w1.heap = w.heap := by rcases hal with rfl | rfl <;> rfl
    have hr1 : w1.heap[r]? = some (.mapIter (some b) since seen c0) := by rw [hw1]; exact h1
    have g1 : w.grownBy (ChangeMaps.setBlock w1 r (.mapIter (some b) since (seen.push e.born) clock)) (some r) := by
      refine ⟨?_, ?_, ?_, by simp [ChangeMaps.setBlock, hw1], fun i _ hi => ?_⟩
      · rcases hal with rfl | rfl <;> rfl
      · rcases hal with rfl | rfl <;> rfl
      · rcases hal with rfl | rfl <;> rfl
      · have hne : r ≠ i := fun q => hi (by rw [q])
        simp [ChangeMaps.setBlock, hw1, hne]
    have e1 : (ChangeMaps.setBlock w1 r (.mapIter (some b) since (seen.push e.born) clock)).heap[r]? = some (.mapIter (some b) since (seen.push e.born) clock) := by
      simp [ChangeMaps.setBlock, hw1, hl.1]
    have e2 : (ChangeMaps.setBlock w1 r (.mapIter (some b) since (seen.push e.born) clock)).heap[b]? = some (.map es clock) := by
      simp [ChangeMaps.setBlock, hw1, h6]
      exact h2
    have hmem := (mem_left he).1
    have hen := run_entry_at (P := Try.prog) (ChangeMaps.setBlock w1 r (.mapIter (some b) since (seen.push e.born) clock)) r b since seen es clock e e1 e2 hmem h5
    have hI : ItrG (ChangeMaps.setBlock w1 r (.mapIter (some b) since (seen.push e.born) clock)) r b es (seen.push e.born) := ⟨clock, since, clock, e1, e2, h3, h7, h7, h5, h6⟩
    simp [execOp, hop, hit, hrun, Result.andThen]
    exact hK' _ _ (hMore e _ he hI g1 hen)
end
end Go.Proofs.Ytkheomaihhcokaa
