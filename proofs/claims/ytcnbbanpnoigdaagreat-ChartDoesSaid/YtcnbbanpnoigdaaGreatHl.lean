import Derived.Test.YtcnbbanpnoigdaaGreatHh
import Derived.Maps.OwnOps
import Derived.Maps.RangeWalk
import Derived.DeepKeys4
import Derived.Test.YtcnbbanpnoigdaaGreatHi
import Derived.Test.YtcnbbanpnoigdaaGreatHk
import Derived.Laws.MakeOwn
import Derived.Laws.IdiomCopy
namespace Go.Proofs.YtcnbbanpnoigdaaGreat
open Go.RowKit Go.MapKept Go.ChangeMaps

def keyV (a c : Int) : Value := .agg #[.int .i64 a, .int .i64 c]
theorem keyV_inj {a c x y : Int} (h : keyV a c = keyV x y) : a = x ∧ c = y := by
 unfold keyV at h
 simp only [Value.agg.injEq, Array.mk.injEq, List.cons.injEq, Value.int.injEq, true_and, and_true] at h
 exact h
def okK (a c : Int) : Prop := (0 ≤ a ∧ a < 2000) ∧ 0 ≤ c ∧ c < 2000
set_option maxRecDepth 100000 in
theorem keyLaw : WideMaps.KeyLaw Tryz.prog 121 := deep_law_laid (m := 4) (by kernel_rfl) (by decide) (of_decide_eq_true (show decide (121 < Tryz.prog.types.size) = true by kernel_rfl)) (by kernel_rfl) (by kernel_rfl)
set_option maxRecDepth 100000 in
theorem key_pair {a c : Int} (w1 : (Lit.int .i64 a).wf = true) (w2 : (Lit.int .i64 c).wf = true) (d : Nat) : Tryz.prog.keyLits (d + 2) 121 [.int .i64 a, .int .i64 c] = some [.int .i64 a, .int .i64 c] := by
 have c1 : Tryz.prog.cellsOf 121 = 2 := by kernel_rfl
 have c2 : Tryz.prog.cellsOf 3 = 1 := by kernel_rfl
 have e : ∀ x, (Lit.int .i64 x).wf = true → Tryz.prog.keyLits (d + 1) 3 [.int .i64 x] = some [.int .i64 x] := fun x hx => by
  unfold Program.keyLits;rw [Tryz.underlying3]
  simp only [hx, and_self, if_true]
 unfold Program.keyLits;rw [Tryz.underlying121]
 simp only [c1, c2, List.length_cons, List.length_nil, Nat.zero_add, Nat.reduceAdd, if_true]
 rw [show List.range 2 = [0, 1] from rfl]
 simp only [List.mapM_cons, List.mapM_nil, Nat.zero_mul, Nat.one_mul, List.drop_zero, List.take_succ_cons, List.take_zero, List.drop_succ_cons, e a w1, e c w2]
 rfl
set_option maxRecDepth 100000 in
theorem key_lit {a c : Int} (h : okK a c) : ∃ l, keyOf Tryz.prog 121 (keyV a c) = some l := by
 obtain ⟨⟨h1, h2⟩, h3, h4⟩ := h;have w1 : (Lit.int .i64 a).wf = true := WalkArith.wf_i64 (by omega);have w2 : (Lit.int .i64 c).wf = true := WalkArith.wf_i64 (by omega)
 have hs : decide (0 < Tryz.prog.types.size) = true := by kernel_rfl
 have hs := of_decide_eq_true hs
 have k1 : Tryz.prog.keyType 121 = true := by kernel_rfl
 have c1 : Tryz.prog.cellsOf 121 = 2 := by kernel_rfl
 have k2 : (keyV a c).formed Tryz.prog 121 = true := by
  unfold keyV Value.formed
  rw [Tryz.underlying121, c1]; rfl
 refine ⟨.string (keyBytes [.int .i64 a, .int .i64 c]), ?_⟩
 unfold keyOf;rw [Tryz.underlying121]
 simp only [k1, k2, Bool.and_self, if_true]
 rw [show Tryz.prog.types.size + 1 = (Tryz.prog.types.size - 1) + 2 from by omega, show (keyV a c).cells.toList = [.int .i64 a, .int .i64 c] from rfl, key_pair w1 w2]
 rfl
theorem finds_born {l : List MapEntry} (hn : (l.map (·.born)).Nodup) {j : Nat} {e0 : MapEntry} (h : l[j]? = some e0) : l.findIdx? (fun e => ((e.born : Nat) : Int) == ((e0.born : Nat) : Int)) = some j := by
 induction l generalizing j with
 | nil => simp at h
 | cons a r ih =>
  simp only [List.map_cons, List.nodup_cons] at hn
  cases j with
  | zero =>
   simp only [List.getElem?_cons_zero, Option.some.injEq] at h
   subst h
   simp [List.findIdx?_cons]
  | succ j =>
   simp only [List.getElem?_cons_succ] at h
   have hne : a.born ≠ e0.born := fun e1 => hn.1 (List.mem_map.2 ⟨e0, List.mem_of_getElem? h, e1.symm⟩)
   have hb : (((a.born : Nat) : Int) == ((e0.born : Nat) : Int)) = false := by
    simp only [beq_eq_false_iff_ne, ne_eq, Int.natCast_inj]
    exact hne
   rw [List.findIdx?_cons, hb]
   simp [ih hn.2 h]
theorem finds_arr (xs : Array MapEntry) (p : MapEntry → Bool) : xs.findIdx? p = xs.toList.findIdx? p := by
 cases xs
 simp
theorem sets_last {α : Type} (f : α → α) (a : α) : ∀ l : List α, (l ++ [a]).modify l.length f = l ++ [f a]
 | [] => rfl
 | b :: r => by simp [List.modify_succ_cons, sets_last f a r]
theorem sets_self {α : Type} : ∀ (l : List α) (j : Nat) (a : α), l[j]? = some a → l.set j a = l
 | [], _, _, h => by simp at h
 | b :: r, 0, a, h => by simp at h; simp [h]
 | b :: r, j + 1, a, h => by simp at h; simp [sets_self r j a h]
def MapG (W : World) (base b : Nat) (N : Nat → Prop) (S : Int → Int → List Int) : Prop :=
 ∃ es clock, W.heap[b]? = some (.map es clock) ∧ Stamped es clock ∧ b < base ∧
  (∀ e ∈ es.toList, ∃ a c : Int, e.key = keyV a c ∧ okK a c ∧ S a c ≠ [] ∧ OwnI W base e.val (S a c)) ∧
  (∀ a c, S a c ≠ [] → ∃ e ∈ es.toList, e.key = keyV a c) ∧
  (∀ x ∈ es.toList, ∀ y ∈ es.toList, x.key ≠ y.key → ∀ g, x.val.ownBlock = some g → y.val.ownBlock ≠ some g) ∧ ∀ x ∈ es.toList, ∀ g, x.val.ownBlock = some g → ¬ N g
theorem MapG.ban {W : World} {base b : Nat} {N N' : Nat → Prop} {S : Int → Int → List Int} (h : MapG W base b N S) (k : ∀ g, N' g → W.heap.size ≤ g) : MapG W base b N' S := by
 obtain ⟨es, clock, h1, h2, h3, h4, h5, h6, _⟩ := h
 refine ⟨es, clock, h1, h2, h3, h4, h5, h6, fun x hx g hg hn => ?_⟩
 obtain ⟨_, _, _, _, _, o⟩ := h4 x hx;have := (World.ownsRow.lt o _ hg).2;have := k g hn
 omega
theorem MapG.free {W : World} {base b : Nat} {N : Nat → Prop} {S : Int → Int → List Int} (h : MapG W base b N S) : MapG W base b (fun _ => False) S := h.ban (fun _ q => q.elim)
theorem MapG.lt {W : World} {base b : Nat} {N : Nat → Prop} {S : Int → Int → List Int} (h : MapG W base b N S) : b < W.heap.size ∧ b < base := by
 obtain ⟨es, clock, h1, _, h3, _⟩ := h
 exact ⟨(Array.getElem?_eq_some_iff.1 h1).1, h3⟩
theorem MapG.keep {W W' : World} {base b : Nat} {N : Nat → Prop} {S : Int → Int → List Int} (h : MapG W base b N S) (hb : Below W.heap.size W W') : MapG W' base b N S := by
 obtain ⟨es, clock, h1, h2, h3, h4, h5, h6, h7⟩ := h
 refine ⟨es, clock, (hb.block b (Array.getElem?_eq_some_iff.1 h1).1).trans h1, h2, h3, fun e he => ?_, h5, h6, h7⟩
 obtain ⟨a, c, q1, q2, q3, q4⟩ := h4 e he
 exact ⟨a, c, q1, q2, q3, q4.keep hb⟩
theorem MapG.made (W : World) : MapG (W.alloc (.map #[] 0)) (W.heap.size + 1) W.heap.size (fun _ => False) (fun _ _ => []) :=
 ⟨#[], 0, (heap_alloc W _).1, stamped_empty 0, Nat.lt_succ_self _, by simp, by simp, by simp, by simp⟩
def upS (S : Int → Int → List Int) (a c : Int) (L : List Int) : Int → Int → List Int := fun x y => if x = a ∧ y = c then L else S x y
theorem upS_same (S : Int → Int → List Int) (a c : Int) (L : List Int) : upS S a c L a c = L := by unfold upS; rw [if_pos ⟨rfl, rfl⟩]
theorem upS_other {S : Int → Int → List Int} {a c x y : Int} {L : List Int} (h : ¬ (x = a ∧ y = c)) : upS S a c L x y = S x y := by unfold upS; rw [if_neg h]
theorem setB_grown {W : World} {b : Nat} {es : Array MapEntry} {clock : Nat} (h : W.heap[b]? = some (.map es clock)) (es' : Array MapEntry) (clock' : Nat) : W.grownBy (setBlock W b (.map es' clock')) (some b) :=
 ⟨rfl, rfl, rfl, by simp [setBlock], fun i _ hi => heap_setBlock_other h _ (fun e => hi (by rw [e]))⟩
theorem ownI_grown {W W' : World} {base : Nat} {row : Option Nat} {v : Value} {L : List Int} (h : OwnI W base v L) (hg : W.grownBy W' row) (hne : ∀ g, v.ownBlock = some g → row ≠ some g) : OwnI W' base v L :=
 World.ownsRow.kept h hg (by
  cases e : v.ownBlock with
  | none => exact .inl rfl
  | some g => exact .inr (fun q => hne g e q.symm))
theorem MapG.entry {W : World} {base b : Nat} {N : Nat → Prop} {S : Int → Int → List Int} {a c : Int} (h : MapG W base b N S) (k : okK a c) (hN : ∀ g, N g → g < W.heap.size) :
  ∃ v st W1, (Instr.mapEntry 118 (.map (some b)) (keyV a c)).run Tryz.prog W = .ok (.tuple #[v, .int .i64 st]) W1 ∧ OwnI W1 base v (S a c) ∧ W.grownBy W1 (some b) ∧ W1.heap.size = W.heap.size ∧ (∀ g, v.ownBlock = some g → ¬ N g) ∧
   ∀ (W2 : World) (v' : Value) (L : List Int), W1.grownBy W2 v.ownBlock → OwnI W2 base v' L → L ≠ [] → (v'.ownBlock = v.ownBlock ∨ ∃ g, v'.ownBlock = some g ∧ W1.heap.size ≤ g) →
    ∃ W3, (Instr.entryStore 118 (.map (some b)) (.int .i64 st) v').run Tryz.prog W2 = .ok () W3 ∧ MapG W3 base b N (upS S a c L) ∧ W2.grownBy W3 (some b) := by
 obtain ⟨es, clock, h1, ⟨s1, s2, s3⟩, h3, h4, h5, h6, h7⟩ := h;obtain ⟨l, hl⟩ := key_lit k
 have hk : ∀ e ∈ es.toList, ∃ l, keyOf Tryz.prog 121 e.key = some l := fun e he => by
  obtain ⟨x, y, q1, q2, _⟩ := h4 e he
  rw [q1]; exact key_lit q2
 have hblt : b < W.heap.size := (Array.getElem?_eq_some_iff.1 h1).1
 have hz : ∀ w : World, (zeroValue 27).run Tryz.prog w = .ok (.slice none 0 0) w := fun w => by kernel_rfl
 have own_ne : ∀ {w : World} {u : Value} {ys : List Int}, OwnI w base u ys → ∀ g, u.ownBlock = some g → some b ≠ some g := fun {w u ys} ho g hg e => by
  have := (World.ownsRow.lt ho g hg).1
  cases e; omega
 rcases keyLaw.find W hl es.toList hk with ⟨f1, f2⟩ | ⟨j, e0, f1, f2, f3⟩
 ·have hS : S a c = [] := by
   apply Classical.byContradiction
   intro ne
   obtain ⟨e, he, ek⟩ := h5 a c ne
   exact f2 e he ek
  refine ⟨.slice none 0 0, clock, setBlock W b (.map (es.push ⟨keyV a c, .slice none 0 0, clock⟩) (clock + 1)), ?_, by rw [hS]; exact OwnI.nil _ _, setB_grown h1 _ _, by simp [setBlock], (fun g hg => by cases hg), ?_⟩
  ·simp [Instr.mapEntry, run_underlying Tryz.underlying118, MapKept.run_getObj_map h1, keyLaw.check W false hl, f1, hz, MapKept.run_setObj_map _ h1, Result.andThen, setBlock, goInt]
  ·intro W2 v' L hg ho hL hloc
   have g1 := setB_grown h1 (es.push ⟨keyV a c, .slice none 0 0, clock⟩) (clock + 1);have hb2 : W2.heap[b]? = some (.map (es.push ⟨keyV a c, .slice none 0 0, clock⟩) (clock + 1)) := (hg.block b (Nat.lt_of_lt_of_le hblt g1.size) (by intro e; cases e)).trans (heap_setBlock_same h1 _)
   have hidx : (es.push ⟨keyV a c, .slice none 0 0, clock⟩).findIdx? (fun e => ((e.born : Nat) : Int) == ((clock : Nat) : Int)) = some es.size := by
    rw [finds_arr]
    have := finds_born (l := (es.push ⟨keyV a c, .slice none 0 0, clock⟩).toList) (j := es.size) (e0 := ⟨keyV a c, .slice none 0 0, clock⟩) (by
     simp only [Array.toList_push, List.map_append, List.map_cons, List.map_nil]
     refine List.nodup_append.2 ⟨s2, by simp, fun x hx y hy e1 => ?_⟩
     simp only [List.mem_singleton] at hy
     obtain ⟨z, hz, rfl⟩ := List.mem_map.1 hx;have := s1 z hz
     omega) (by simp)
    exact this
   have hmod : (es.push ⟨keyV a c, .slice none 0 0, clock⟩).modify es.size (fun e => { e with val := v' }) = es.push ⟨keyV a c, v', clock⟩ := by
    apply Array.ext'
    rw [Array.toList_modify, Array.toList_push, Array.toList_push, ← Array.length_toList, sets_last]
   have g3 := setB_grown hb2 (es.push ⟨keyV a c, v', clock⟩) (clock + 1)
   refine ⟨setBlock W2 b (.map (es.push ⟨keyV a c, v', clock⟩) (clock + 1)), ?_, ?_, g3⟩
   ·simp [Instr.entryStore, MapKept.run_getObj_map hb2, asInt, asIntOf, hidx, hmod, MapKept.run_setObj_map _ hb2, Result.andThen, setBlock]
   ·have keeps : ∀ {u : Value} {ys : List Int}, OwnI W base u ys → OwnI (setBlock W2 b (.map (es.push ⟨keyV a c, v', clock⟩) (clock + 1))) base u ys := fun {u ys} q =>
     ownI_grown (ownI_grown (ownI_grown q g1 (own_ne q)) hg (fun g _ e => by cases e)) g3 (own_ne q)
    have apart : ∀ x ∈ es.toList, ∀ g, x.val.ownBlock = some g → v'.ownBlock ≠ some g := fun x hx g hxg e => by
     rcases hloc with z | ⟨q, z1, z2⟩
     ·rw [z] at e; cases e
     ·rw [z1] at e; cases e
      obtain ⟨_, _, _, _, _, o⟩ := h4 x hx;have := (World.ownsRow.lt o _ hxg).2
      simp [setBlock] at z2
      omega
    have nv : ∀ g, v'.ownBlock = some g → ¬ N g := fun g e hn => by
     rcases hloc with z | ⟨q, z1, z2⟩
     ·rw [z] at e; cases e
     ·rw [z1] at e; cases e
      have := hN _ hn
      simp [setBlock] at z2
      omega
    refine ⟨es.push ⟨keyV a c, v', clock⟩, clock + 1, heap_setBlock_same hb2 _, stamped_push ⟨s1, s2, s3⟩ (fun x hx => f2 x hx), h3, ?_, ?_, ?_, ?_⟩
    ·intro e he
     rw [Array.toList_push, List.mem_append, List.mem_singleton] at he
     rcases he with he | rfl
     ·obtain ⟨x, y, q1, q2, q3, q4⟩ := h4 e he
      have ne : ¬ (x = a ∧ y = c) := fun q => f2 e he (by rw [q1, q.1, q.2])
      exact ⟨x, y, q1, q2, by rw [upS_other ne]; exact q3, by rw [upS_other ne]; exact keeps q4⟩
     ·exact ⟨a, c, rfl, k, by rw [upS_same]; exact hL, by rw [upS_same]; exact ownI_grown ho g3 (own_ne ho)⟩
    ·intro x y ne
     by_cases q : x = a ∧ y = c
     ·exact ⟨⟨keyV a c, v', clock⟩, by simp, by rw [q.1, q.2]⟩
     ·rw [upS_other q] at ne
      obtain ⟨e, he, ek⟩ := h5 x y ne
      exact ⟨e, by simp only [Array.toList_push, List.mem_append]; exact .inl he, ek⟩
    ·intro x hx y hy ne g hxg
     rw [Array.toList_push, List.mem_append, List.mem_singleton] at hx hy
     rcases hx with hx | rfl <;> rcases hy with hy | rfl
     ·exact h6 x hx y hy ne g hxg
     ·exact apart x hx g hxg
     ·exact fun e => apart y hy g e hxg
     ·exact absurd rfl ne
    ·intro x hx
     rw [Array.toList_push, List.mem_append, List.mem_singleton] at hx
     rcases hx with hx | rfl
     ·exact h7 x hx
     ·exact nv
 ·have he0 := List.mem_of_getElem? f2
  obtain ⟨x0, y0, p1, p2, p3, p4⟩ := h4 e0 he0;obtain ⟨rfl, rfl⟩ := keyV_inj (p1.symm.trans f3)
  have hj : es[j]? = some e0 := by simpa using f2
  have hsame : es.modify j (fun e => { e with key := keyV x0 y0 }) = es := by
   apply Array.ext'
   rw [Array.toList_modify, modify_eq_set _ _ _ _ f2]
   have : ({ e0 with key := keyV x0 y0 } : MapEntry) = e0 := by rw [← f3]
   rw [this]
   exact sets_self _ _ _ f2
  have g1 := setB_grown h1 es clock
  refine ⟨e0.val, e0.born, setBlock W b (.map es clock), ?_, ownI_grown p4 g1 (own_ne p4), g1, by simp [setBlock], h7 e0 he0, ?_⟩
  ·simp [Instr.mapEntry, run_underlying Tryz.underlying118, MapKept.run_getObj_map h1, keyLaw.check W false hl, f1, hj, f3, keyLaw.stays W hl, hsame, MapKept.run_setObj_map _ h1, Result.andThen, setBlock, goInt]
  ·intro W2 v' L hg ho hL hloc
   have hb2 : W2.heap[b]? = some (.map es clock) := (hg.block b (Nat.lt_of_lt_of_le hblt g1.size) (fun e => own_ne p4 b e.symm rfl)).trans (heap_setBlock_same h1 _)
   have hidx : es.findIdx? (fun e => ((e.born : Nat) : Int) == ((e0.born : Nat) : Int)) = some j := by
    rw [finds_arr]
    exact finds_born s2 f2
   have hmod : (es.modify j (fun e => { e with val := v' })).toList = es.toList.set j { e0 with val := v' } := by
    rw [Array.toList_modify, modify_eq_set _ _ _ _ f2]
   have g3 := setB_grown hb2 (es.modify j (fun e => { e with val := v' })) clock
   refine ⟨setBlock W2 b (.map (es.modify j (fun e => { e with val := v' })) clock), ?_, ?_, g3⟩
   ·simp [Instr.entryStore, MapKept.run_getObj_map hb2, asInt, asIntOf, hidx, MapKept.run_setObj_map _ hb2, Result.andThen, setBlock]
   ·have one : ∀ x ∈ es.toList, x.key = keyV x0 y0 → x = e0 := fun x hx ek => entry_eq_of_key ((stamped_iff es clock).1 ⟨s1, s2, s3⟩).2.2 hx he0 (ek.trans f3.symm)
    have parts : ∀ x ∈ (es.modify j (fun e => { e with val := v' })).toList, x = { e0 with val := v' } ∨ x ∈ es.toList ∧ x.key ≠ keyV x0 y0 := fun x hx => by
     rw [hmod] at hx;obtain ⟨i, hi, rfl⟩ := List.mem_iff_getElem.1 hx
     by_cases q : j = i
     ·left; subst q; simp
     ·right
      have hi' : i < es.toList.length := by simpa using hi
      have e1 : (es.toList.set j { e0 with val := v' })[i] = es.toList[i] := by rw [List.getElem_set_ne q]
      rw [e1]
      refine ⟨List.getElem_mem _, fun ek => q ?_⟩
      obtain ⟨hj', ej⟩ := List.getElem?_eq_some_iff.1 f2;have : es.toList[i] = es.toList[j] := (one _ (List.getElem_mem _) ek).trans ej.symm
      have b1 : (es.toList.map (·.born))[i]'(by simpa using hi') = (es.toList.map (·.born))[j]'(by simpa using hj') := by simp [this]
      exact ((List.getElem_inj s2).1 b1).symm
    have keeps : ∀ x ∈ es.toList, x.key ≠ keyV x0 y0 → ∀ {ys : List Int}, OwnI W base x.val ys → OwnI (setBlock W2 b (.map (es.modify j (fun e => { e with val := v' })) clock)) base x.val ys := fun x hx ne {ys} q =>
     ownI_grown (ownI_grown (ownI_grown q g1 (own_ne q)) hg (fun g hxg => h6 x hx e0 he0 (by rw [f3]; exact ne) g hxg)) g3 (own_ne q)
    have apart : ∀ x ∈ es.toList, x.key ≠ keyV x0 y0 → ∀ g, x.val.ownBlock = some g → v'.ownBlock ≠ some g := fun x hx ne g hxg e => by
     rcases hloc with z | ⟨q, z1, z2⟩
     ·rw [z] at e
      exact h6 x hx e0 he0 (by rw [f3]; exact ne) g hxg e
     ·rw [z1] at e; cases e
      obtain ⟨_, _, _, _, _, o⟩ := h4 x hx;have := (World.ownsRow.lt o _ hxg).2
      simp [setBlock] at z2
      omega
    have nv : ∀ g, v'.ownBlock = some g → ¬ N g := fun g e hn => by
     rcases hloc with z | ⟨q, z1, z2⟩
     ·rw [z] at e; exact h7 e0 he0 g e hn
     ·rw [z1] at e; cases e
      have := hN _ hn
      simp [setBlock] at z2
      omega
    refine ⟨es.modify j (fun e => { e with val := v' }), clock, heap_setBlock_same hb2 _, stamped_modify ⟨s1, s2, s3⟩ j _ (fun _ _ => rfl) (fun _ _ _ => rfl), h3, ?_, ?_, ?_, ?_⟩
    ·intro e he
     rcases parts e he with rfl | ⟨he, ne⟩
     ·exact ⟨x0, y0, f3, k, by rw [upS_same]; exact hL, by rw [upS_same]; exact ownI_grown ho g3 (own_ne ho)⟩
     ·obtain ⟨x, y, q1, q2, q3, q4⟩ := h4 e he
      have ne' : ¬ (x = x0 ∧ y = y0) := fun q => ne (by rw [q1, q.1, q.2])
      exact ⟨x, y, q1, q2, by rw [upS_other ne']; exact q3, by rw [upS_other ne']; exact keeps e he ne q4⟩
    ·intro x y ne
     by_cases q : x = x0 ∧ y = y0
     ·refine ⟨{ e0 with val := v' }, ?_, by rw [q.1, q.2]; exact f3⟩
      rw [hmod];obtain ⟨hj', _⟩ := List.getElem?_eq_some_iff.1 f2
      exact List.mem_iff_getElem.2 ⟨j, by simpa using hj', by simp⟩
     ·rw [upS_other q] at ne
      obtain ⟨e, he, ek⟩ := h5 x y ne
      refine ⟨e, ?_, ek⟩
      rw [hmod];obtain ⟨i, hi, rfl⟩ := List.mem_iff_getElem.1 he
      refine List.mem_iff_getElem.2 ⟨i, by simpa using hi, ?_⟩
      rw [List.getElem_set_ne]
      rintro rfl
      obtain ⟨hj', ej⟩ := List.getElem?_eq_some_iff.1 f2;rw [ej, f3] at ek
      exact q (keyV_inj ek.symm)
    ·intro x hx y hy ne g hxg
     rcases parts x hx with rfl | ⟨hx, nx⟩ <;> rcases parts y hy with rfl | ⟨hy, ny⟩
     ·exact absurd rfl ne
     ·exact fun e => apart y hy ny g e hxg
     ·exact apart x hx nx g hxg
     ·exact h6 x hx y hy ne g hxg
    ·intro x hx
     rcases parts x hx with rfl | ⟨hx, nx⟩
     ·exact nv
     ·exact h7 x hx
def BackG (W1 : World) (base b : Nat) (N : Nat → Prop) (st : Int) (a c : Int) (S : Int → Int → List Int) (v : Value) : Prop :=
 ∀ (W2 : World) (v' : Value) (L : List Int), W1.grownBy W2 v.ownBlock → OwnI W2 base v' L → L ≠ [] → (v'.ownBlock = v.ownBlock ∨ ∃ g, v'.ownBlock = some g ∧ W1.heap.size ≤ g) →
  ∃ W3, (Instr.entryStore 118 (.map (some b)) (.int .i64 st) v').run Tryz.prog W2 = .ok () W3 ∧ MapG W3 base b N (upS S a c L) ∧ W2.grownBy W3 (some b)
section
variable {w : World} {ops : Array Oper} {rest : List Oper} {o : Oper} {a : Act} {Q : Exit → Act → World → Prop}
theorem wpList_entryG (hg : o.guard = none) (m x : Operand) (hop : o.op = Op.mapEntry 118 m x) {base b : Nat} {N : Nat → Prop} {S : Int → Int → List Int} {p q : Int} (hm : a.eval m = .map (some b)) (hx : a.eval x = keyV p q)
  (h : MapG w base b N S) (k : okK p q) (hN : ∀ g, N g → g < w.heap.size)
  (hK : ∀ v st w1, OwnI w1 base v (S p q) → w.grownBy w1 (some b) → w1.heap.size = w.heap.size → (∀ g, v.ownBlock = some g → ¬ N g) → BackG w1 base b N st p q S v → wpList Tryz.prog ops Q rest (a.put o.dst (.tuple #[v, .int .i64 st])) w1) : wpList Tryz.prog ops Q (o :: rest) a w := by
 refine wpList_plain hg fun K' hK' => ?_
 obtain ⟨v, st, w1, hrun, h1, h2, h3, h4, h5⟩ := h.entry k hN;unfold Oper.wp
 simp [execOp, hop, hm, hx, hrun, Result.andThen]
 exact hK' _ _ (hK v st w1 h1 h2 h3 h4 h5)
theorem wpList_storeG (hg : o.guard = none) (m s x : Operand) (hop : o.op = Op.entryStore 118 m s x) {base b : Nat} {N : Nat → Prop} {S : Int → Int → List Int} {p q st : Int} {v v' : Value} {L : List Int} {w1 : World} (hm : a.eval m = .map (some b)) (hs : a.eval s = .int .i64 st) (hx : a.eval x = v')
  (h : BackG w1 base b N st p q S v) (h1 : w1.grownBy w v.ownBlock) (h2 : OwnI w base v' L) (h3 : L ≠ []) (h4 : v'.ownBlock = v.ownBlock ∨ ∃ g, v'.ownBlock = some g ∧ w1.heap.size ≤ g)
  (hK : ∀ w3, MapG w3 base b N (upS S p q L) → w.grownBy w3 (some b) → wpList Tryz.prog ops Q rest (a.put o.dst undef) w3) : wpList Tryz.prog ops Q (o :: rest) a w := by
 refine wpList_plain hg fun K' hK' => ?_
 obtain ⟨w3, hrun, h5, h6⟩ := h w v' L h1 h2 h3 h4;unfold Oper.wp
 simp [execOp, hop, hm, hs, hx, hrun, Result.andThen]
 exact hK' _ _ (hK w3 h5 h6)
end
end Go.Proofs.YtcnbbanpnoigdaaGreat
namespace Go.Proofs.YtcnbbanpnoigdaaGreat
open Go.RowKit

theorem ownI_set {w : World} {base : Nat} {v : Value} {L : List Int} (h : OwnI w base v L) {g i : Nat} {x : Value} (hg : g < base) : OwnI (w.setCell ⟨g, i, none⟩ x) base v L := ownsRow_setCell_below h (a := ⟨g, i, none⟩) hg x
def EdU (W : World) (B : Nat) (x y : Int) (l : List Int) (u : Value) : Prop := ∃ v, u = .agg #[.int .i64 x, .int .i64 y, v] ∧ OwnI W B v l
def EdK (W : World) (g B : Nat) (x y : Int) (l : List Int) : Prop := ∃ v, Lok W g 100 #[.int .i64 x, .int .i64 y, v] ∧ OwnI W B v l
end Go.Proofs.YtcnbbanpnoigdaaGreat
namespace Go.Proofs.YtcnbbanpnoigdaaGreat
open Go.RowKit

def rwL (n : Nat) (f : Nat → Value) : Array Value := ((List.range n).map f).toArray
theorem rwL_size (n : Nat) (f : Nat → Value) : (rwL n f).size = n := by simp [rwL]
theorem rwL_at {n i : Nat} (f : Nat → Value) (h : i < n) : (rwL n f)[i]? = some (f i) := by
 unfold rwL;rw [List.getElem?_toArray, List.getElem?_map, List.getElem?_range h]
 rfl
theorem rwL_congr {n : Nat} {f f' : Nat → Value} (h : ∀ i, i < n → f i = f' i) : rwL n f = rwL n f' := by
 unfold rwL
 congr 1
 exact List.map_congr_left fun i hi => h i (List.mem_range.1 hi)
theorem arr_ext {a b : Array Value} (hs : a.size = b.size) (h : ∀ i, i < a.size → a[i]? = b[i]?) : a = b := by
 apply Array.ext hs
 intro i h1 h2
 have z := h i h1;rw [Array.getElem?_eq_getElem h1, Array.getElem?_eq_getElem h2] at z
 exact Option.some.inj z
theorem rwL_set {n i : Nat} (f : Nat → Value) (u : Value) (hi : i < n) : (rwL n f).setIfInBounds i u = rwL n fun j => if j = i then u else f j := by
 refine arr_ext (by simp [rwL_size]) fun j hj => ?_
 have hj : j < n := by simpa [rwL_size] using hj
 rw [rwL_at _ hj, Array.getElem?_setIfInBounds]
 by_cases e : i = j
 ·subst e
  rw [if_pos rfl, if_pos (by rw [rwL_size]; exact hi), if_pos rfl]
 ·rw [if_neg e, rwL_at _ hj, if_neg (fun q => e q.symm)]
theorem rwL_made (n : Nat) (z : Value) : madeCells #[z] n = rwL n fun _ => z := by
 refine arr_ext (by rw [size_madeCells, rwL_size]) fun j hj => ?_
 have hj : j < n := by rwa [size_madeCells] at hj
 rw [rwL_at _ hj];unfold madeCells
 simp [hj, Nat.mod_one]
theorem lok_fill {b : Nat} {t : TypeId} {z : Value} {n : Nat} : ∀ (m : Nat) (k : Nat) (f : Nat → Value) (W : World), k + m = n → Lok W b t (rwL n f) → Lok (W.setCells b k (List.replicate m z)) b t (rwL n fun j => if k ≤ j then z else f j)
 | 0, k, f, W, e, h => by
  have : rwL n f = rwL n fun j => if k ≤ j then z else f j := rwL_congr fun j hj => by rw [if_neg (by omega)]
  rw [← this]
  exact h
 | m + 1, k, f, W, e, h => by
  rw [List.replicate_succ]
  show Lok ((W.setCell ⟨b, k, none⟩ z).setCells b (k + 1) (List.replicate m z)) b t _
  have h1 := h.set (i := k) (v := z);rw [rwL_set f z (by omega)] at h1;have h2 := lok_fill (z := z) m (k + 1) _ _ (by omega) h1
  have : (rwL n fun j => if k ≤ j then z else f j) = rwL n fun j => if k + 1 ≤ j then z else (if j = k then z else f j) := rwL_congr fun j hj => by
   by_cases q : k + 1 ≤ j
   ·rw [if_pos q, if_pos (by omega)]
   ·rw [if_neg q]
    by_cases e2 : j = k
    ·rw [if_pos e2, if_pos (by omega)]
    ·rw [if_neg e2, if_neg (by omega)]
  rw [this]
  exact h2
theorem heap_setCells {b : Nat} : ∀ (vs : List Value) (o : Nat) (W : World) (k : Nat), k ≠ b → (W.setCells b o vs).heap[k]? = W.heap[k]?
 | [], _, _, _, _ => rfl
 | v :: r, o, W, k, h => by
  show ((W.setCell ⟨b, o, none⟩ v).setCells b (o + 1) r).heap[k]? = _
  rw [heap_setCells r (o + 1) _ k h]
  exact Below.heap_setCell W ⟨b, o, none⟩ v k h
theorem size_setCells {b : Nat} : ∀ (vs : List Value) (o : Nat) (W : World), (W.setCells b o vs).heap.size = W.heap.size
 | [], _, _ => rfl
 | v :: r, o, W => by
  show ((W.setCell ⟨b, o, none⟩ v).setCells b (o + 1) r).heap.size = _
  rw [size_setCells r]
  simp
theorem rest_setCells {b : Nat} : ∀ (vs : List Value) (o : Nat) (W : World), (W.setCells b o vs).os = W.os ∧ (W.setCells b o vs).tape = W.tape ∧ (W.setCells b o vs).output = W.output
 | [], _, _ => ⟨rfl, rfl, rfl⟩
 | v :: r, o, W => rest_setCells r (o + 1) (W.setCell ⟨b, o, none⟩ v)
def fcL (A S : Nat → Int) (K : Nat → Bool) : Nat → List Value
 | 0 => []
 | n + 1 => fcL A S K n ++ [.int .i64 (A n), .int .i64 (S n), .bool (K n)]
theorem fcL_len (A S : Nat → Int) (K : Nat → Bool) : ∀ n, (fcL A S K n).length = n * 3
 | 0 => rfl
 | n + 1 => by show (fcL A S K n ++ [_, _, _]).length = _; rw [List.length_append, fcL_len A S K n]; simp; omega
theorem fcL_at {A S : Nat → Int} {K : Nat → Bool} {i : Nat} : ∀ {n : Nat}, i < n → (fcL A S K n)[i * 3]? = some (.int .i64 (A i)) ∧ (fcL A S K n)[i * 3 + 1]? = some (.int .i64 (S i)) ∧ (fcL A S K n)[i * 3 + 2]? = some (.bool (K i))
 | 0, h => absurd h (by omega)
 | n + 1, h => by
  have hl := fcL_len A S K n
  rcases Nat.lt_or_ge i n with q | q
  ·obtain ⟨a, b, c⟩ := fcL_at (A := A) (S := S) (K := K) q
   refine ⟨?_, ?_, ?_⟩
   ·show (fcL A S K n ++ _)[_]? = _
    rw [List.getElem?_append_left (by omega)]; exact a
   ·show (fcL A S K n ++ _)[_]? = _
    rw [List.getElem?_append_left (by omega)]; exact b
   ·show (fcL A S K n ++ _)[_]? = _
    rw [List.getElem?_append_left (by omega)]; exact c
  ·obtain rfl : i = n := by omega
   refine ⟨?_, ?_, ?_⟩
   ·show (fcL A S K i ++ _)[_]? = _
    rw [List.getElem?_append_right (by omega), show i * 3 - (fcL A S K i).length = 0 by omega]; rfl
   ·show (fcL A S K i ++ _)[_]? = _
    rw [List.getElem?_append_right (by omega), show i * 3 + 1 - (fcL A S K i).length = 1 by omega]; rfl
   ·show (fcL A S K i ++ _)[_]? = _
    rw [List.getElem?_append_right (by omega), show i * 3 + 2 - (fcL A S K i).length = 2 by omega]; rfl
theorem ownR_block {w w' : World} {base : Nat} {e : TypeId} {k : Nat} {v : Value} {n : Nat} {xs : List Value} (h : w.ownsRow base e k v n xs) (q : ∀ g, v.ownBlock = some g → w'.heap[g]? = w.heap[g]?) : w'.ownsRow base e k v n xs := by
 obtain ⟨h1, h2 | ⟨g, cap, cur, hv, hg, hh, hrest⟩⟩ := h
 ·exact ⟨h1, .inl h2⟩
 ·exact ⟨h1, .inr ⟨g, cap, cur, hv, hg, by rw [q g (by rw [hv]; rfl)]; exact hh, hrest⟩⟩
structure GrC where
 lo : Nat
 hi : Nat
 g : Nat
 gl : Nat
 eb : Nat
 tb : Nat
 rb : Nat
 ob : Nat
 n : Nat
 N : Nat
 mc : Array Value
 fv : Value
 ec : Nat → Value
 A : Nat → Int
 S : Nat → Int
 K : Nat → Bool
 E : Nat → List Int
namespace GrC
variable (C : GrC)
def four (k : Nat) : Prop := k = C.g ∨ k = C.tb ∨ k = C.rb ∨ k = C.ob
def stat (k : Nat) : Prop := k = C.gl ∨ k = C.eb ∨ C.fv.ownBlock = some k ∨ ∃ i, i < C.n ∧ (C.ec i).ownBlock = some k
structure Sep : Prop where
 four : ∀ k, C.four k → C.lo ≤ k ∧ k < C.hi
 stat : ∀ k, C.stat k → C.lo ≤ k ∧ k < C.hi ∧ ¬ C.four k
 gt : C.g ≠ C.tb
 gr : C.g ≠ C.rb
 go : C.g ≠ C.ob
 tr : C.tb ≠ C.rb
 to : C.tb ≠ C.ob
 ro : C.rb ≠ C.ob
structure Stat (W : World) : Prop where
 land : Lok W C.gl 50 C.mc
 fac : W.ownsRow C.lo 53 3 C.fv C.n (fcL C.A C.S C.K C.n)
 edg : Lok W C.eb 27 (rwL C.n C.ec)
 own : ∀ i, i < C.n → OwnI W C.lo (C.ec i) (C.E i)
def cel (ax sd : Int) (v : Value) : Array Value := #[.pointer (some ⟨C.gl, 0, none⟩), C.fv, .slice (some ⟨C.eb, 0, none⟩) C.n C.n, .slice (some ⟨C.tb, 0, none⟩) C.n C.n, .int .i64 ax, .int .i64 sd, v, .slice (some ⟨C.rb, 0, none⟩) C.N C.N, .slice (some ⟨C.ob, 0, none⟩) C.n C.n]
structure St (W : World) (tk : Nat → Bool) (ax sd : Int) (v : Value) (rc : Nat → Bool) (op : Nat → Nat) : Prop where
 sep : C.Sep
 st : C.Stat W
 gro : Lok W C.g 74 (C.cel ax sd v)
 tak : Lok W C.tb 4 (rwL C.n fun i => .bool (tk i))
 rea : Lok W C.rb 4 (rwL C.N fun i => .bool (rc i))
 ope : Lok W C.ob 3 (rwL C.n fun i => .int .i64 (op i : Int))
variable {C}
theorem Stat.kept {W W' : World} (h : C.Stat W) (k : ∀ b, C.stat b → W'.heap[b]? = W.heap[b]?) : C.Stat W' :=
 ⟨(k _ (.inl rfl)).trans h.land, ownR_block h.fac fun g hg => k g (.inr (.inr (.inl hg))), (k _ (.inr (.inl rfl))).trans h.edg, fun i hi => ownI_block (h.own i hi) fun g hg => k g (.inr (.inr (.inr ⟨i, hi, hg⟩)))⟩
variable {W W' : World} {tk : Nat → Bool} {ax sd : Int} {v : Value} {rc : Nat → Bool} {op : Nat → Nat}
theorem St.keepB {B : Nat} (h : C.St W tk ax sd v rc op) (hb : Below B W W') (hB : C.hi ≤ B) : C.St W' tk ax sd v rc op := by
 have f := fun k (q : C.four k) => hb.block k (Nat.lt_of_lt_of_le (h.sep.four k q).2 hB)
 exact ⟨h.sep, h.st.kept fun b q => hb.block b (Nat.lt_of_lt_of_le (h.sep.stat b q).2.1 hB), (f _ (.inl rfl)).trans h.gro, (f _ (.inr (.inl rfl))).trans h.tak, (f _ (.inr (.inr (.inl rfl)))).trans h.rea, (f _ (.inr (.inr (.inr rfl)))).trans h.ope⟩
theorem St.four_lt (h : C.St W tk ax sd v rc op) (k : Nat) (q : C.four k) : k < W.heap.size := by
 rcases q with rfl | rfl | rfl | rfl
 ·exact h.gro.lt
 ·exact h.tak.lt
 ·exact h.rea.lt
 ·exact h.ope.lt
theorem St.stat_lt (h : C.St W tk ax sd v rc op) (k : Nat) (q : C.stat k) : k < W.heap.size := by
 rcases q with rfl | rfl | q | ⟨i, hi, q⟩
 ·exact h.st.land.lt
 ·exact h.st.edg.lt
 ·exact (World.ownsRow.lt h.st.fac k q).2
 ·exact (World.ownsRow.lt (h.st.own i hi) k q).2
theorem St.keep (h : C.St W tk ax sd v rc op) (hb : Below W.heap.size W W') : C.St W' tk ax sd v rc op := by
 have f := fun k (q : C.four k) => hb.block k (h.four_lt k q)
 exact ⟨h.sep, h.st.kept fun b q => hb.block b (h.stat_lt b q), (f _ (.inl rfl)).trans h.gro, (f _ (.inr (.inl rfl))).trans h.tak, (f _ (.inr (.inr (.inl rfl)))).trans h.rea, (f _ (.inr (.inr (.inr rfl)))).trans h.ope⟩
theorem Stat.set (h : C.Stat W) (hs : C.Sep) {b i : Nat} (hb : C.four b) (x : Value) : C.Stat (W.setCell ⟨b, i, none⟩ x) := h.kept fun k q => Below.heap_setCell W ⟨b, i, none⟩ x k (fun e => (hs.stat k q).2.2 (by rw [show k = b from e]; exact hb))
theorem St.setV (h : C.St W tk ax sd v rc op) (u : Value) : C.St (W.setCell ⟨C.g, 6, none⟩ u) tk ax sd u rc op :=
 ⟨h.sep, h.st.set h.sep (.inl rfl) u, h.gro.set (i := 6) (v := u), h.tak.far (fun e => h.sep.gt e.symm), h.rea.far (fun e => h.sep.gr e.symm), h.ope.far (fun e => h.sep.go e.symm)⟩
theorem St.setT (h : C.St W tk ax sd v rc op) {i : Nat} (hi : i < C.n) (b : Bool) : C.St (W.setCell ⟨C.tb, i, none⟩ (.bool b)) (fun j => if j = i then b else tk j) ax sd v rc op := by
 refine ⟨h.sep, h.st.set h.sep (.inr (.inl rfl)) _, h.gro.far h.sep.gt, ?_, h.rea.far (fun e => h.sep.tr e.symm), h.ope.far (fun e => h.sep.to e.symm)⟩
 have z := h.tak.set (i := i) (v := .bool b);rw [rwL_set _ _ hi] at z;rw [show (rwL C.n fun j => Value.bool (if j = i then b else tk j)) = rwL C.n fun j => if j = i then Value.bool b else Value.bool (tk j) from rwL_congr fun j _ => by split <;> rfl]
 exact z
theorem St.setR (h : C.St W tk ax sd v rc op) {i : Nat} (hi : i < C.N) (b : Bool) : C.St (W.setCell ⟨C.rb, i, none⟩ (.bool b)) tk ax sd v (fun j => if j = i then b else rc j) op := by
 refine ⟨h.sep, h.st.set h.sep (.inr (.inr (.inl rfl))) _, h.gro.far h.sep.gr, h.tak.far h.sep.tr, ?_, h.ope.far (fun e => h.sep.ro e.symm)⟩
 have z := h.rea.set (i := i) (v := .bool b);rw [rwL_set _ _ hi] at z;rw [show (rwL C.N fun j => Value.bool (if j = i then b else rc j)) = rwL C.N fun j => if j = i then Value.bool b else Value.bool (rc j) from rwL_congr fun j _ => by split <;> rfl]
 exact z
theorem St.setO (h : C.St W tk ax sd v rc op) {i : Nat} (hi : i < C.n) (x : Nat) : C.St (W.setCell ⟨C.ob, i, none⟩ (.int .i64 (x : Int))) tk ax sd v rc (fun j => if j = i then x else op j) := by
 refine ⟨h.sep, h.st.set h.sep (.inr (.inr (.inr rfl))) _, h.gro.far h.sep.go, h.tak.far h.sep.to, h.rea.far h.sep.ro, ?_⟩
 have z := h.ope.set (i := i) (v := .int .i64 (x : Int));rw [rwL_set _ _ hi] at z;rw [show (rwL C.n fun j => Value.int .i64 (((if j = i then x else op j : Nat)) : Int)) = rwL C.n fun j => if j = i then Value.int .i64 (x : Int) else Value.int .i64 (op j : Int) from rwL_congr fun j _ => by split <;> rfl]
 exact z
theorem St.same (h : C.St W tk ax sd v rc op) {tk' rc' : Nat → Bool} {op' : Nat → Nat} (ht : ∀ i, i < C.n → tk i = tk' i) (hr : ∀ i, i < C.N → rc i = rc' i) (ho : ∀ i, i < C.n → op i = op' i) : C.St W tk' ax sd v rc' op' := by
 refine ⟨h.sep, h.st, h.gro, ?_, ?_, ?_⟩
 ·rw [← show (rwL C.n fun j => Value.bool (tk j)) = rwL C.n fun j => Value.bool (tk' j) from rwL_congr fun j hj => by rw [ht j hj]]; exact h.tak
 ·rw [← show (rwL C.N fun j => Value.bool (rc j)) = rwL C.N fun j => Value.bool (rc' j) from rwL_congr fun j hj => by rw [hr j hj]]; exact h.rea
 ·rw [← show (rwL C.n fun j => Value.int .i64 (op j : Int)) = rwL C.n fun j => Value.int .i64 (op' j : Int) from rwL_congr fun j hj => by rw [ho j hj]]; exact h.ope
structure Exc (C : GrC) (B : Nat) (W W' : World) : Prop where
 os : W'.os = W.os
 tape : W'.tape = W.tape
 output : W'.output = W.output
 size : W.heap.size ≤ W'.heap.size
 block : ∀ k, k < B → ¬ C.four k → W'.heap[k]? = W.heap[k]?
theorem Exc.refl (C : GrC) (B : Nat) (W : World) : C.Exc B W W := ⟨rfl, rfl, rfl, Nat.le_refl _, fun _ _ _ => rfl⟩
theorem Exc.trans {B : Nat} {a b c : World} (h : C.Exc B a b) (k : C.Exc B b c) : C.Exc B a c :=
 ⟨k.os.trans h.os, k.tape.trans h.tape, k.output.trans h.output, Nat.le_trans h.size k.size, fun i hi q => (k.block i hi q).trans (h.block i hi q)⟩
theorem Exc.mono {B B' : Nat} (h : C.Exc B W W') (hB : B' ≤ B) : C.Exc B' W W' := ⟨h.os, h.tape, h.output, h.size, fun k hk => h.block k (Nat.lt_of_lt_of_le hk hB)⟩
theorem Exc.of {B : Nat} (h : Below B W W') : C.Exc B W W' := ⟨h.os, h.tape, h.output, h.size, fun k hk _ => h.block k hk⟩
theorem Exc.set {B b i : Nat} {V : World} (h : C.Exc B V W) (hb : C.four b) (x : Value) : C.Exc B V (W.setCell ⟨b, i, none⟩ x) :=
 h.trans ⟨rfl, rfl, rfl, by simp, fun k _ q => Below.heap_setCell W ⟨b, i, none⟩ x k (fun e => q (by rw [show k = b from e]; exact hb))⟩
theorem Exc.below {B : Nat} (h : C.Exc B W W') (hs : C.Sep) (hB : C.lo ≤ B) : Below C.lo W W' :=
 ⟨h.os, h.tape, h.output, h.size, fun k hk => h.block k (by omega) (fun q => by have := (hs.four k q).1; omega)⟩
theorem Exc.lok {B b : Nat} {t : TypeId} {cs : Array Value} (h : C.Exc B W W') (k : Lok W b t cs) (hb : b < B) (q : ¬ C.four b) : Lok W' b t cs := (h.block b hb q).trans k
end GrC
end Go.Proofs.YtcnbbanpnoigdaaGreat
