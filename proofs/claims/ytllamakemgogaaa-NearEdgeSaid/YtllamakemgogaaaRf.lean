/-
  A range over a function, where what a round is handed is told of the very world in which it is handed over (the iterator makes that memory itself). All at the wide fence.
-/
import Derived.Test.YtllamakemgogaaaRel
import Derived.RangeFuncNested
import Derived.RangeFuncBound
import Derived.RangeFuncCalls
import Derived.RangeFuncLeaves
import Derived.Shelf.Abstract
import Derived.Shelf.RegionOpen
import Derived.WalkKit
import Derived.OwnWalkIn
import Derived.TacticsInMore
import Derived.LoopNIn
import Derived.LoopIn
namespace Go.Proofs.Ytllamakemgogaaa
open Go.RowKit Go.Shelf

/-- Steps that turn nothing that was there are abided. -/
def Abided (J : World → Prop) : Prop := ∀ W W', J W → Below W.heap.size W W' → J W'
/-- Turns of the loop's own two blocks (at or behind block B) are abided. -/
def Booked (B : Nat) (J : World → Prop) : Prop := ∀ (W : World) (l : Nat) (o o' : Obj), J W → B ≤ l → W.heap[l]? = some o → o.isCells = false → o.isWalk = false → J (W.putObj l o')

theorem Booked.and {B : Nat} {J K : World → Prop} (h : Booked B J) (k : Booked B K) : Booked B (fun W => J W ∧ K W) := fun W l o o' hj hl ho h1 h2 => ⟨h W l o o' hj.1 hl ho h1 h2, k W l o o' hj.2 hl ho h1 h2⟩
theorem Abided.and {J K : World → Prop} (h : Abided J) (k : Abided K) : Abided (fun W => J W ∧ K W) := fun W W' hj hb => ⟨h W W' hj.1 hb, k W W' hj.2 hb⟩
theorem lok_abided (g : Nat) (t : TypeId) (cs : Array Value) : Abided (fun W => Lok W g t cs) := fun _ _ h hb => h.keep hb
theorem lok_booked (B g : Nat) (t : TypeId) (cs : Array Value) : Booked B (fun W => Lok W g t cs) := fun W l o o' h _ ho h1 _ => by
  have hne : g ≠ l := fun e => by
    subst e
    rw [show W.heap[g]? = _ from h] at ho
    cases ho
    cases h1
  exact (World.putObj_heap_other hne).trans h
theorem below_put {B : Nat} {V W : World} {l : Nat} {o' : Obj} (h : Below B V W) (hl : B ≤ l) : Below B V (W.putObj l o') :=
  ⟨h.os, h.tape, h.output, by rw [World.putObj_size]; exact h.size, fun k hk => (World.putObj_heap_other (by omega)).trans (h.block k hk)⟩
theorem below_booked {B n : Nat} (V : World) (hn : n ≤ B) : Booked B (fun W => Below n V W) := fun _ _ _ _ h hl _ _ _ => below_put h (by omega)
theorem below_abided (n : Nat) (V : World) (hn : n ≤ V.heap.size) : Abided (fun W => Below n V W) := fun _ _ h hb => h.trans (hb.mono (Nat.le_trans hn h.size))

/-- An iterator that hands over N elements, one behind the other: Px k v W: what holds of element k, the value v, in the world in which it is handed over; Kc: what the iterator wants of the world between two rounds. -/
def Gives (P : Program) (gf : Nat) (lb : Array Value) (N : Nat) (Kc : World → Prop) (Px : Nat → Value → World → Prop) : Prop :=
  ∀ (n l : Nat) (J : Nat → World → Prop) (Jx : World → Prop), (∀ k, Abided (J k)) → (∀ k W, J k W → Kc W) →
    (∀ k v W, k < N → J k W → Px k v W → YieldAt Fence.wide n P l #[v] W fun e W' => (e = .returned (.bool true) ∧ J (k + 1) W') ∨ (e = .returned (.bool false) ∧ Jx W')) →
    ∀ W, J 0 W → Calls P gf (#[.func (.yield l) #[] #[]] ++ lb) W fun e W' => (∃ v, e = .returned v) ∧ (J N W' ∨ Jx W')

/-- How a round may be left: it goes on, or by the break 'id'. -/
def roundOut (J : Nat → World → Prop) (Jx : World → Prop) (k id : Nat) (W : World) : Exit → Act → World → Prop
  | .normal, _, W' => KeepsOthers W W' ∧ J (k + 1) W'
  | .exit i, _, W' => i = id ∧ KeepsOthers W W' ∧ Jx W'
  | _, _, _ => False

theorem wp_range {P : Program} {g : Operand} {p : Tmp} {assign body : Code} {Q : Exit → Act → World → Prop} {a : Act} {w : World} {gf : Nat} {lb : Array Value}
    (hg : a.eval g = .func (.func gf) #[] lb) (eg : ∀ args w, (callFunc gf args).run P w = .ok (.enter gf args) w)
    {N : Nat} {Kc : World → Prop} {Px : Nat → Value → World → Prop} (hit : Gives P gf lb N Kc Px)
    (J : Nat → World → Prop) (Jx : World → Prop) (id : Nat) (hJ : ∀ k, Abided (J k)) (hK : ∀ k W, J k W → Kc W) (hJb : ∀ k, Booked w.heap.size (J k)) (hXb : Booked w.heap.size Jx) (hPb : ∀ k v, Booked w.heap.size (Px k v))
    (h0 : J 0 w) (a₁ : Value → Act)
    (hassign : ∀ (l : Nat) (v : Value) (W : World) (K : Act → World → Prop), K (a₁ v) W →
      assign.wpIn (Fence.wide.inRound l) 3 P (Exit.then K (fun _ _ _ => False)) { tmps := a.tmps.setIfInBounds p v, defers := [] } W)
    (hbody : ∀ (l k : Nat) (v : Value) (W : World), k < N → J k W → Px k v W → body.wpIn (Fence.wide.inRound l) 3 P (roundOut J Jx k id W) (a₁ v) W)
    (hdone : ∀ (D : Nat) (W : World), w.heap.size ≤ D → J N W → W.heap[D]? = some (.deferred (some [])) → Q .normal { a with defers := { target := .collected D, args := #[] } :: a.defers } W)
    (hstop : ∀ (D : Nat) (W : World), w.heap.size ≤ D → Jx W → W.heap[D]? = some (.deferred (some [])) → (Code.exit id).wp P Q { a with defers := { target := .collected D, args := #[] } :: a.defers } W) :
    (Code.rangeFunc g #[p] assign body).wp P Q a w := by
  refine wpIn_wide (n := 4).1 (wpIn_rangeFunc fun fn _ => ?_)
  obtain ⟨rc, hrc⟩ : ∃ rc : LoopState → Option Code → Loop, rc = fun st pe => { state := st, pending := pe, fn, tmps := a.tmps, params := #[p], assign, body, defers := w.heap.size } := ⟨_, rfl⟩
  obtain ⟨V, hV⟩ : ∃ V, (w.alloc (.deferred (some []))).alloc (.loop (rc .ready none)) = V := ⟨_, rfl⟩
  have hbV : Below w.heap.size w V := by rw [← hV]; exact ((Below.refl _ w).alloc (Nat.le_refl _) _).alloc (by simp) _
  have hV1 : V.heap[w.heap.size + 1]? = some (.loop (rc .ready none)) := by
    rw [← hV]; have := World.alloc_heap_new (w.alloc (.deferred (some []))) (.loop (rc .ready none)); rwa [World.size_alloc] at this
  have hV0 : V.heap[w.heap.size]? = some (.deferred (some [])) := by
    rw [← hV]; exact (Below.heap_alloc _ _ _ (by simp)).trans (World.alloc_heap_new w _)
  refine ⟨w.heap.size + 1, [{ target := .collected w.heap.size, args := #[] }], V, { target := .fn (.func gf) lb, args := #[.func (.yield (w.heap.size + 1)) #[] #[]] }, V, gf,
    #[.func (.yield (w.heap.size + 1)) #[] #[]] ++ lb, V, ?_, ?_, fun _ _ => trivial, ?_, (fun _ => by omega), ?_⟩
  · rw [← hV, hrc]; exact run_enterLoop_outer _ _ _ _ _
  · simp only [resolve, hg]
    simp [go_sem]
  · simp [invoke, go_sem, eg]
  · -- the record's two states between two rounds, beside the caller's own condition
    refine callsIn_wide.2 ((hit 3 (w.heap.size + 1)
      (fun k W => J k W ∧ W.heap[w.heap.size + 1]? = some (.loop (rc .ready none)) ∧ W.heap[w.heap.size]? = some (.deferred (some [])))
      (fun W => Jx W ∧ W.heap[w.heap.size + 1]? = some (.loop (rc .done (some (.exit id)))) ∧ W.heap[w.heap.size]? = some (.deferred (some [])))
      (fun k W W' h hb => ⟨hJ k W W' h.1 hb, (hb.block _ (Array.getElem?_eq_some_iff.1 h.2.1).1).trans h.2.1, (hb.block _ (Array.getElem?_eq_some_iff.1 h.2.2).1).trans h.2.2⟩)
      (fun k W h => hK k W h.1) ?_ V ⟨hJ 0 _ _ h0 hbV, hV1, hV0⟩).mono ?_)
    · rintro k v W hk ⟨hj, hl, hd⟩ hp
      have hlt := (Array.getElem?_eq_some_iff.1 hl).1
      have hy := run_yield (P := P) (args := #[v]) hl (by rw [hrc]; rfl)
      refine ⟨fn, _, assign, body, by rw [hrc] at hy; simp at hy; exact hy, roundIn_of_wpIn trivial (hassign _ v W _ ⟨_, run_beginRound hl (by rw [hrc]), ?_⟩)⟩
      obtain ⟨U, hU⟩ : ∃ U, W.putObj (w.heap.size + 1) (.loop { rc .ready none with state := .busy }) = U := ⟨_, rfl⟩
      have hU1 : U.heap[w.heap.size + 1]? = some (.loop (rc .busy none)) := by rw [← hU, World.putObj_heap_same hlt]; rw [hrc]
      have hU0 : U.heap[w.heap.size]? = some (.deferred (some [])) := by rw [← hU]; exact (World.putObj_heap_other (by omega)).trans hd
      have hjU : J k U := by rw [← hU]; exact hJb k _ _ _ _ hj (by omega) hl rfl rfl
      have hpU : Px k v U := by rw [← hU]; exact hPb k v _ _ _ _ hp (by omega) hl rfl rfl
      rw [hU]
      refine wpIn_mono (hbody _ k v U hk hjU hpU) ?_
      rintro e a3 W3 ho
      have fin : ∀ (jump : Option Code), KeepsOthers U W3 → (Instr.endRound (w.heap.size + 1) jump).run P W3 = .ok (.bool jump.isNone) (W3.putObj (w.heap.size + 1) (.loop (rc (if jump.isNone then .ready else .done) jump))) ∧
          W3.heap[w.heap.size + 1]? = some (.loop (rc .busy none)) ∧ w.heap.size + 1 < W3.heap.size ∧ W3.heap[w.heap.size]? = some (.deferred (some [])) := fun jump hk => by
        have hl3 := hk.same _ _ hU1 rfl
        have hr := run_endRound (P := P) jump hl3
        exact ⟨by rw [hr, hrc], hl3, (Array.getElem?_eq_some_iff.1 hl3).1, hk.same _ _ hU0 rfl⟩
      cases e with
      | normal =>
        obtain ⟨hk3, hj3⟩ := ho
        obtain ⟨hr, h1, h2, h3⟩ := fin none hk3
        exact ⟨_, _, hr, .inl ⟨rfl, hJb _ _ _ _ _ hj3 (by omega) h1 rfl rfl, World.putObj_heap_same h2, (World.putObj_heap_other (by omega)).trans h3⟩⟩
      | exit i =>
        obtain ⟨rfl, hk3, hj3⟩ := ho
        obtain ⟨hr, h1, h2, h3⟩ := fin (some (.exit i)) hk3
        exact ⟨_, _, hr, .inr ⟨rfl, hXb _ _ _ _ hj3 (by omega) h1 rfl rfl, World.putObj_heap_same h2, (World.putObj_heap_other (by omega)).trans h3⟩⟩
      | ret => exact ho.elim
      | goto t => exact ho.elim
      | panic c => exact ho.elim
      | outgrown => exact ho.elim
    · rintro e W2 ⟨⟨v, rfl⟩, ⟨hj, hl, hd⟩ | ⟨hj, hl, hd⟩⟩
      · refine ⟨none, _, by rw [run_endLoop (P := P) hl (by rw [hrc]; simp), hrc], hdone _ _ (Nat.le_refl _) (hJb _ _ _ _ _ hj (by omega) hl rfl rfl) ((World.putObj_heap_other (by omega)).trans hd)⟩
      · refine ⟨some (.exit id), _, by rw [run_endLoop (P := P) hl (by rw [hrc]; simp), hrc], wpIn_wide.2 (hstop _ _ (Nat.le_refl _) (hXb _ _ _ _ hj (by omega) hl rfl rfl) ((World.putObj_heap_other (by omega)).trans hd))⟩
end Go.Proofs.Ytllamakemgogaaa
