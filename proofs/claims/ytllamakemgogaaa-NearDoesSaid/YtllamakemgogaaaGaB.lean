/-
  Texts in one: Rel, OpenK, VcA, VcB, SgA, VcC, VcD, VcE, CmpI, WideR, VcG, VcR, SgB.
-/
import Derived.Test.YtllamakemgogaaaGaA
import Derived.Deep.RegionWith
import Derived.ProofKit
import Derived.OpenShut
import Derived.Deep.Slices
import Derived.Lib.SmallJoins
import Derived.Carry
import Derived.Lib.MinMax
import Derived.RegionTactic
import Derived.BigRegion
import Derived.Deep.Cut
import Derived.Deep.DrawnRows
/-
  A region that draws its order: one condition on what has come up so far, the values and the world, that each operation carries on. No order is walked.
-/
namespace Go.Proofs.Ytllamakemgogaaa
open Go.RowKit

def updL (L : Nat → Bool) (i : Nat) : Nat → Bool := fun j => if j = i then true else L j
def updv (u : Nat → Value) (s : Nat) (v : Value) : Nat → Value := fun j => if j = s then v else u j
theorem updL_same (L : Nat → Bool) (i : Nat) : updL L i i = true := if_pos rfl
theorem updL_other (L : Nat → Bool) {i j : Nat} (h : j ≠ i) : updL L i j = L j := if_neg h
theorem updv_same (u : Nat → Value) (i : Nat) (v : Value) : updv u i v i = v := if_pos rfl
theorem updv_other (u : Nat → Value) {i j : Nat} (v : Value) (h : j ≠ i) : updv u i v j = u j := if_neg h

/-- The slots of a region, whatever they hold. -/
def putAll (a : Act) (u : Nat → Value) : List Nat → Act
  | [] => a
  | s :: l => (putAll a u l).put (some s) (u s)
theorem putAll_size (a : Act) (u : Nat → Value) (l : List Nat) : (putAll a u l).tmps.size = a.tmps.size := by
  induction l with
  | nil => rfl
  | cons s l ih => simp [putAll, Act.put, ih]
theorem putAll_defers (a : Act) (u : Nat → Value) (l : List Nat) : (putAll a u l).defers = a.defers := by
  induction l with
  | nil => rfl
  | cons s l ih => simp [putAll, Act.put, ih]
theorem putAll_get (a : Act) (u : Nat → Value) (l : List Nat) (i : Nat) (hi : i < a.tmps.size) : (putAll a u l).tmps[i]'(by rw [putAll_size]; exact hi) = if i ∈ l then u i else a.tmps[i] := by
  induction l with
  | nil => simp [putAll]
  | cons s l ih =>
    simp only [putAll, Act.put]
    rw [Array.getElem_setIfInBounds (by rw [putAll_size]; exact hi)]
    by_cases h : s = i
    · subst h; simp
    · rw [if_neg h, ih]
      have : (i ∈ s :: l) ↔ (i ∈ l) := by simp [Ne.symm h]
      simp only [this]
theorem putAll_put (a : Act) (u : Nat → Value) (l : List Nat) (s : Nat) (v : Value) (hs : s ∈ l) : (putAll a u l).put (some s) v = putAll a (updv u s v) l := by
  have hd : ((putAll a u l).put (some s) v).defers = (putAll a (updv u s v) l).defers := by
    show (putAll a u l).defers = _
    rw [putAll_defers, putAll_defers]
  have ht : ((putAll a u l).put (some s) v).tmps = (putAll a (updv u s v) l).tmps := by
    apply Array.ext
    · simp [Act.put, putAll_size]
    · intro i h1 h2
      have hi : i < a.tmps.size := by rwa [putAll_size] at h2
      simp only [Act.put]
      rw [Array.getElem_setIfInBounds (by rw [putAll_size]; exact hi), putAll_get a u l i hi, putAll_get a _ l i hi]
      by_cases h : s = i
      · subst h; rw [if_pos rfl, if_pos hs, updv_same]
      · rw [if_neg h]
        by_cases k : i ∈ l
        · rw [if_pos k, if_pos k, updv_other _ _ (Ne.symm h)]
        · rw [if_neg k, if_neg k]
  cases h1 : (putAll a u l).put (some s) v
  cases h2 : putAll a (updv u s v) l
  rw [h1] at hd ht
  rw [h2] at hd ht
  cases hd
  cases ht
  rfl
theorem putAll_old (a : Act) (l : List Nat) : putAll a (fun s => a.tmps.getD s undef) l = a := by
  have hd := putAll_defers a (fun s => a.tmps.getD s undef) l
  have ht : (putAll a (fun s => a.tmps.getD s undef) l).tmps = a.tmps := by
    apply Array.ext
    · exact putAll_size _ _ _
    · intro i h1 h2
      rw [putAll_get a _ l i h2]
      by_cases k : i ∈ l
      · rw [if_pos k]; simp [Array.getD, h2]
      · rw [if_neg k]
  cases h : putAll a (fun s => a.tmps.getD s undef) l
  rw [h] at hd ht
  cases a
  cases hd
  cases ht
  rfl

section
variable {P : Program} {ops : Array Oper} {Q : Exit → Act → World → Prop} {md : Region.Mode}

theorem all_listed {listed : Array Bool} (hsz : listed.size = ops.size) (acyc : ∀ (i : Nat) (o : Oper), ops[i]? = some o → ∀ e ∈ o.after, Region.binds md e = true → e.on < i) (hr : Region.ready md ops listed = []) :
    ∀ i, i < ops.size → listed.getD i true = true := by
  intro i
  induction i using Nat.strongRecOn with
  | ind i ih =>
    intro hi
    cases hl : listed.getD i true with
    | true => rfl
    | false =>
      have : i ∈ Region.ready md ops listed := by
        refine mem_ready.2 ⟨hl, ops[i], Array.getElem?_eq_getElem hi, fun e he hb => ?_⟩
        have h1 := acyc i _ (Array.getElem?_eq_getElem hi) e he hb
        have h2 := ih e.on h1 (by omega)
        have h3 : e.on < listed.size := by omega
        simpa [h3] using h2
      rw [hr] at this
      cases this

theorem wpAny_rel (J : (Nat → Bool) → Act → World → Prop)
    (acyc : ∀ (i : Nat) (o : Oper), ops[i]? = some o → ∀ e ∈ o.after, Region.binds md e = true → e.on < i)
    (step : ∀ (i : Nat) (o : Oper), ops[i]? = some o → ∀ L a w, J L a w → L i = false → (∀ e ∈ o.after, Region.binds md e = true → L e.on = true) → wpOp P ops Q i (J (updL L i)) a w)
    (fin : ∀ L a w, (∀ i, i < ops.size → L i = true) → J L a w → Q .normal a w) :
    ∀ (fuel : Nat) (listed : Array Bool) (a : Act) (w : World), listed.size = ops.size → listed.toList.count false ≤ fuel → J (fun i => listed.getD i true) a w → wpAny P md ops Q fuel listed a w := by
  intro fuel
  induction fuel with
  | zero =>
    intro listed a w hsz hc hJ
    have hall : ∀ i, i < ops.size → listed.getD i true = true := by
      intro i hi
      have h0 := List.count_eq_zero.1 (Nat.le_zero.1 hc)
      have hi' : i < listed.size := by omega
      have : listed[i] ≠ false := fun h => h0 (by rw [← h]; exact Array.mem_toList_iff.2 (Array.getElem_mem hi'))
      simpa [hi'] using this
    refine ⟨?_, fin _ a w hall hJ⟩
    cases hr : Region.ready md ops listed with
    | nil => rfl
    | cons i l =>
      have h := (mem_ready.1 (show i ∈ Region.ready md ops listed by rw [hr]; exact List.mem_cons_self ..))
      obtain ⟨h1, o, ho, _⟩ := h
      have hi : i < ops.size := by
        rcases Nat.lt_or_ge i ops.size with q | q
        · exact q
        · rw [Array.getElem?_eq_none q] at ho; cases ho
      rw [hall i hi] at h1
      cases h1
  | succ fuel ih =>
    intro listed a w hsz hc hJ
    refine ⟨fun hr => fin _ a w (all_listed hsz acyc hr) hJ, fun i hi => ?_⟩
    obtain ⟨h1, o, ho, h2⟩ := mem_ready.1 hi
    have hlt : i < listed.size := by
      rcases Nat.lt_or_ge i listed.size with q | q
      · exact q
      · simp [Array.getElem?_eq_none q] at h1
    have hd : ∀ e ∈ o.after, Region.binds md e = true → listed.getD e.on true = true := fun e he hb => by
      have h3 := h2 e he hb
      have h4 := acyc i o ho e he hb
      have h5 : e.on < listed.size := by omega
      simpa [h5] using h3
    refine wpOp_mono (fun a' w' h => ih _ a' w' (by simpa using hsz) ?_ ?_) (step i o ho _ a w hJ h1 hd)
    · have hf : listed[i] = false := by simpa [hlt] using h1
      have : (listed.setIfInBounds i true).toList = listed.toList.set i true := by simp
      rw [this, List.count_set (by simpa using hlt)]
      simp [hf]
      simp at hc
      omega
    · have e : (fun j => (listed.setIfInBounds i true).getD j true) = updL (fun j => listed.getD j true) i := by
        funext j
        unfold updL
        by_cases hj : j = i
        · subst hj; simp
        · rw [if_neg hj]
          simp [Ne.symm hj]
      rw [e]
      exact h

/-- What one operation owes. -/
def RelStep (P : Program) (l : List Oper) (Q : Exit → Act → World → Prop) (F : (Nat → Value) → Act) (J : (Nat → Bool) → (Nat → Value) → World → Prop) (i : Nat) (o : Oper) : Prop :=
  ∀ L u W, J L u W → L i = false → (∀ e ∈ o.after, Region.binds .any e = true → L e.on = true) →
      ∀ K' : Act → World → Prop, (∀ v W', (∀ s, o.dst = some s → J (updL L i) (updv u s v) W') → (o.dst = none → J (updL L i) u W') → K' ((F u).put o.dst v) W') →
        if Region.wanted o (yielded l.toArray (F u).tmps) = true then Oper.wp P o (F u) W K' Q else K' ((F u).put o.dst undef) W
/-- THE RULE. 'slots': the slots that the region writes; 'F u': the frame where they hold u; J: what has come up (L), what the slots hold (u), the world. -/
theorem wp_region_rel {id : Nat} {a : Act} {w : World} {l : List Oper} (hm : P.follows .mixedOrders = true) (slots : List Nat) (F : (Nat → Value) → Act) (hF : ∀ u, putAll a u slots = F u)
    (J : (Nat → Bool) → (Nat → Value) → World → Prop)
    (acyc : (List.range l.length).all (fun i => ((l[i]?).map (fun o => o.after.all fun e => !Region.binds .any e || decide (e.on < i))).getD true) = true)
    (hdst : (List.range l.length).all (fun i => ((l[i]?).map (fun o => match o.dst with | some s => slots.contains s | none => true)).getD true) = true)
    (n : Nat) (hn : l.length = n)
    (h0 : ∀ L u, (∀ i, i < n → L i = false) → J L u w.drew)
    (step : ∀ (i : Nat) (o : Oper), l[i]? = some o → RelStep P l Q F J i o)
    (fin : ∀ L u W, (∀ i, i < n → L i = true) → J L u W → Q .normal (F u) W) : (Code.region id l.toArray true).wp P Q a w := by
  subst hn
  have hx : ∀ (i : Nat) (o : Oper), l[i]? = some o → i ∈ List.range l.length := fun i o ho => by
    refine List.mem_range.2 ?_
    rcases Nat.lt_or_ge i l.length with q | q
    · exact q
    · rw [List.getElem?_eq_none q] at ho; cases ho
  refine wp_region_any hm ?_
  refine wpAny_rel (J := fun L a' W => ∃ u, a' = F u ∧ J L u W) ?_ ?_ ?_ _ _ _ _ (by simp) (by simp) ⟨_, (putAll_old a slots).symm.trans (hF _), h0 _ _ fun i hi => by simp [hi]⟩
  · intro i o ho e he hb
    have ho' : l[i]? = some o := by simpa using ho
    have h := List.all_eq_true.1 acyc i (hx i o ho')
    rw [ho'] at h
    simp only [Option.map_some, Option.getD_some] at h
    have h2 := Array.all_eq_true_iff_forall_mem.1 h e he
    simpa [hb] using h2
  · rintro i o ho L a' W ⟨u, rfl, hJ⟩ hf hd
    have ho' : l[i]? = some o := by simpa using ho
    have h := List.all_eq_true.1 hdst i (hx i o ho')
    rw [ho'] at h
    simp only [Option.map_some, Option.getD_some] at h
    refine wpOp_step ho fun K' hK => step i o ho' L u W hJ hf hd K' fun v W' h1 h2 => hK _ _ ?_
    cases hds : o.dst with
    | none => exact ⟨u, rfl, h2 hds⟩
    | some s =>
      rw [hds] at h
      refine ⟨updv u s v, ?_, h1 s hds⟩
      rw [← hF u, ← hF]
      exact putAll_put a u slots s v (by simpa using h)
  · rintro L a' W hall ⟨u, rfl, hJ⟩
    exact fin L u W (fun i hi => hall i (by simpa using hi)) hJ
/-- The same, with what the slots hold ahead of the region. 'slots': the slots that the region writes; 'F u': the frame where they hold u; J: what has come up (L), what the slots hold (u), the world. -/
theorem wp_region_rel2 {id : Nat} {a : Act} {w : World} {l : List Oper} (hm : P.follows .mixedOrders = true) (slots : List Nat) (F : (Nat → Value) → Act) (hF : ∀ u, putAll a u slots = F u)
    (J : (Nat → Bool) → (Nat → Value) → World → Prop)
    (acyc : (List.range l.length).all (fun i => ((l[i]?).map (fun o => o.after.all fun e => !Region.binds .any e || decide (e.on < i))).getD true) = true)
    (hdst : (List.range l.length).all (fun i => ((l[i]?).map (fun o => match o.dst with | some s => slots.contains s | none => true)).getD true) = true)
    (n : Nat) (hn : l.length = n)
    (h0 : ∀ L, (∀ i, i < n → L i = false) → J L (fun s => a.tmps.getD s undef) w.drew)
    (step : ∀ (i : Nat) (o : Oper), l[i]? = some o → RelStep P l Q F J i o)
    (fin : ∀ L u W, (∀ i, i < n → L i = true) → J L u W → Q .normal (F u) W) : (Code.region id l.toArray true).wp P Q a w := by
  subst hn
  have hx : ∀ (i : Nat) (o : Oper), l[i]? = some o → i ∈ List.range l.length := fun i o ho => by
    refine List.mem_range.2 ?_
    rcases Nat.lt_or_ge i l.length with q | q
    · exact q
    · rw [List.getElem?_eq_none q] at ho; cases ho
  refine wp_region_any hm ?_
  refine wpAny_rel (J := fun L a' W => ∃ u, a' = F u ∧ J L u W) ?_ ?_ ?_ _ _ _ _ (by simp) (by simp) ⟨_, (putAll_old a slots).symm.trans (hF _), h0 _ fun i hi => by simp [hi]⟩
  · intro i o ho e he hb
    have ho' : l[i]? = some o := by simpa using ho
    have h := List.all_eq_true.1 acyc i (hx i o ho')
    rw [ho'] at h
    simp only [Option.map_some, Option.getD_some] at h
    have h2 := Array.all_eq_true_iff_forall_mem.1 h e he
    simpa [hb] using h2
  · rintro i o ho L a' W ⟨u, rfl, hJ⟩ hf hd
    have ho' : l[i]? = some o := by simpa using ho
    have h := List.all_eq_true.1 hdst i (hx i o ho')
    rw [ho'] at h
    simp only [Option.map_some, Option.getD_some] at h
    refine wpOp_step ho fun K' hK => step i o ho' L u W hJ hf hd K' fun v W' h1 h2 => hK _ _ ?_
    cases hds : o.dst with
    | none => exact ⟨u, rfl, h2 hds⟩
    | some s =>
      rw [hds] at h
      refine ⟨updv u s v, ?_, h1 s hds⟩
      rw [← hF u, ← hF]
      exact putAll_put a u slots s v (by simpa using h)
  · rintro L a' W hall ⟨u, rfl, hJ⟩
    exact fin L u W (fun i hi => hall i (by simpa using hi)) hJ
end
theorem ops_nil {R : Nat → Oper → Prop} {k : Nat} : ∀ (i : Nat) (o : Oper), ([] : List Oper)[i]? = some o → R (k + i) o := fun i o h => by simp at h
theorem ops_cons {R : Nat → Oper → Prop} {k : Nat} {o : Oper} {l : List Oper} (h0 : R k o) (h : ∀ (i : Nat) (o : Oper), l[i]? = some o → R (k + 1 + i) o) : ∀ (i : Nat) (o' : Oper), (o :: l)[i]? = some o' → R (k + i) o' := fun i o' hi => by
  rcases i with _ | i
  · simp at hi; subst hi; exact h0
  · rw [show k + (i + 1) = k + 1 + i from by omega]; exact h i o' (by simpa using hi)
theorem ops_all {R : Nat → Oper → Prop} {l : List Oper} (h : ∀ (i : Nat) (o : Oper), l[i]? = some o → R (0 + i) o) : ∀ (i : Nat) (o : Oper), l[i]? = some o → R i o := fun i o hi => by
  have := h i o hi; rwa [Nat.zero_add] at this

theorem below_new1 (W : World) (o : Obj) : Below W.heap.size W (W.alloc o) := (Below.refl _ W).alloc (Nat.le_refl _) o
/-- Block g is just the cells cs of type t, none frozen. -/
def Lok (W : World) (g : Nat) (t : TypeId) (cs : Array Value) : Prop := W.heap[g]? = some (.cells cs t (0, 0))
theorem Lok.lt {W : World} {g : Nat} {t : TypeId} {cs : Array Value} (h : Lok W g t cs) : g < W.heap.size := by
  rcases Nat.lt_or_ge g W.heap.size with q | q
  · exact q
  · unfold Lok at h; rw [Array.getElem?_eq_none q] at h; cases h
theorem Lok.keep {W W' : World} {g : Nat} {t : TypeId} {cs : Array Value} (h : Lok W g t cs) (hb : Below W.heap.size W W') : Lok W' g t cs := (hb.block g h.lt).trans h
theorem Lok.new (W : World) (t : TypeId) (cs : Array Value) : Lok (W.alloc (.cells cs t)) W.heap.size t cs := by unfold Lok World.alloc; simp
theorem Lok.cell {W : World} {g i : Nat} {t : TypeId} {cs : Array Value} {v : Value} (h : Lok W g t cs) (hv : cs[i]? = some v) : W.cell? ⟨g, i, none⟩ = some v := by
  unfold Lok at h; simp [World.cell?, h, hv]
theorem Lok.frozen {W : World} {g : Nat} {t : TypeId} {cs : Array Value} (h : Lok W g t cs) (i : Nat) : W.frozen? ⟨g, i, none⟩ = false := by
  unfold Lok at h; simp [World.frozen?, h]
theorem Lok.set {W : World} {g i : Nat} {t : TypeId} {cs : Array Value} {v : Value} (h : Lok W g t cs) : Lok (W.setCell ⟨g, i, none⟩ v) g t (cs.setIfInBounds i v) := by
  unfold Lok at h ⊢; simp [World.setCell, Array.getElem?_modify, h]
theorem Lok.far {W : World} {g g' i : Nat} {t : TypeId} {cs : Array Value} {v : Value} (h : Lok W g t cs) (hn : g ≠ g') : Lok (W.setCell ⟨g', i, none⟩ v) g t cs := (Below.heap_setCell W ⟨g', i, none⟩ v g hn).trans h
theorem Lok.keepB {V W : World} {n g : Nat} {t : TypeId} {cs : Array Value} (h : Lok V g t cs) (hb : Below n V W) (hg : g < n) : Lok W g t cs := (hb.block g hg).trans h
theorem Lok.drew {W : World} {g : Nat} {t : TypeId} {cs : Array Value} (h : Lok W g t cs) : Lok W.drew g t cs := h
theorem ptr_apart {u v : Value} {g g2 : Nat} (h : u ≠ v) (e : u = .pointer (some ⟨g, 0, none⟩)) (k : v = .pointer (some ⟨g2, 0, none⟩)) : g2 ≠ g := fun q => h (by rw [e, k, q])
theorem ptr_apart2 {u v : Value} {g g2 : Nat} (h : v ≠ u) (k : v = .pointer (some ⟨g2, 0, none⟩)) (e : u = .pointer (some ⟨g, 0, none⟩)) : g2 ≠ g := fun q => h (by rw [e, k, q])
theorem ptr_new {W : World} {u : Value} {g : Nat} {t : TypeId} {cs : Array Value} (k : u = .pointer (some ⟨g, 0, none⟩)) (l : Lok W g t cs) : Value.pointer (some ⟨W.heap.size, 0, none⟩) ≠ u := fun q => by
  rw [k] at q
  have h := l.lt
  simp only [Value.pointer.injEq, Option.some.injEq, Addr.mk.injEq] at q
  omega
theorem ptr_new2 {W : World} {u : Value} {g : Nat} {t : TypeId} {cs : Array Value} (k : u = .pointer (some ⟨g, 0, none⟩)) (l : Lok W g t cs) : u ≠ Value.pointer (some ⟨W.heap.size, 0, none⟩) := fun q => ptr_new k l q.symm
/-- A row of the call's own, just laid, in a slot. -/
def RowAt (W : World) (v : Value) (n : Nat) (T : TypeId) (cs : Array Value) : Prop := ∃ g, v = .slice (some ⟨g, 0, none⟩) n n ∧ Lok W g T cs
theorem RowAt.keep {W W' : World} {v : Value} {n : Nat} {T : TypeId} {cs : Array Value} (h : RowAt W v n T cs) (hb : Below W.heap.size W W') : RowAt W' v n T cs := by
  obtain ⟨g, e, l⟩ := h
  exact ⟨g, e, l.keep hb⟩
end Go.Proofs.Ytllamakemgogaaa
/-
  An argument that is a row of structs of k ints each, opened: what its cells hold.
-/
namespace Go.Proofs.Ytllamakemgogaaa
open Go.ChangeShapes Go.WideShapes Go.ChangeAt Go.RowKit Go.Joins Go.Deep

/-- The slice 'a, n' reads as n structs of k ints: F i j is field j of number i. -/
def RowK (W : World) (a : Option Addr) (n k : Nat) (F : Nat → Nat → Int) : Prop :=
  n = 0 ∨ ∃ b off, a = some ⟨b, off, none⟩ ∧ b < W.heap.size ∧ ∀ i, i < n → ∀ j, j < k → W.cell? ⟨b, off + (i * k + j), none⟩ = some (.int .i64 (F i j))
theorem RowK.keep {W W' : World} {a : Option Addr} {n k : Nat} {F : Nat → Nat → Int} (h : RowK W a n k F) (hb : Below W.heap.size W W') : RowK W' a n k F := by
  rcases h with h | ⟨b, off, ha, hl, h⟩
  · exact .inl h
  · exact .inr ⟨b, off, ha, Nat.lt_of_lt_of_le hl hb.size, fun i hi j hj => keepc hb (h i hi j hj)⟩
theorem RowK.at {W : World} {a : Option Addr} {n k : Nat} {F : Nat → Nat → Int} (h : RowK W a n k F) {i : Nat} (hi : i < n) : ∃ b off, a = some ⟨b, off, none⟩ ∧ b < W.heap.size ∧ ∀ i, i < n → ∀ j, j < k → W.cell? ⟨b, off + (i * k + j), none⟩ = some (.int .i64 (F i j)) := by
  rcases h with h | h
  · omega
  · exact h
/-- All fields are ints of 64 bits. -/
def AllK (n k : Nat) (F : Nat → Nat → Int) : Prop := ∀ i, i < n → ∀ j, j < k → -9223372036854775808 ≤ F i j ∧ F i j ≤ 9223372036854775807

set_option maxRecDepth 100000 in
theorem open_structs {H : Type} {enc : TypeId × Value → H} {W : World} {r : Reach} {base k : Nat} {t e : TypeId} {fs : Array Field} {v : Value} {d : DataW H} {ps : List MemPlace}
    (ht : Try.prog.underlying t = some (.slice e)) (he : Try.prog.underlying e = some (.struct fs)) (hone : oneCellFields Try.prog fs = true) (hk : fs.size = k) (h0 : 0 < k) (hC : Try.prog.cellsOf e = k)
    (hint : ∀ (j : Nat) (f : Field), fs[j]? = some f → Try.prog.underlying f.type = some (.int .i64))
    (hval : Value.okWide Try.prog W r base t v) (hd : DataW.Trod enc Try.prog W 0 (fun _ => true) true t v d ps) :
    ∃ (a : Option Addr) (n c : Nat) (F : Nat → Nat → Int), v = .slice a n c ∧ (a = none → n = 0 ∧ c = 0) ∧ n ≤ c ∧ c ≤ 9223372036854775807 ∧ RowK W a n k F ∧ AllK n k F := by
  obtain ⟨a, len, cap, rfl⟩ := okWide_slice ht hval
  obtain ⟨fuel, hf⟩ := hd
  rcases open_slice ht hf with ⟨hcs, hx⟩ | ⟨a', len', cap', m, n, D, Pl, hcs, _, hl, hm, hmm, hx, hi⟩
  · simp [Value.cells] at hcs
    obtain ⟨rfl, rfl, rfl⟩ := hcs
    exact ⟨none, 0, 0, fun _ _ => 0, rfl, fun _ => ⟨rfl, rfl⟩, Nat.le_refl _, by omega, .inl rfl, fun i h => by omega⟩
  · simp [Value.cells] at hcs
    obtain ⟨rfl, rfl, rfl⟩ := hcs
    simp only [if_true] at hmm
    subst hmm
    have hcell : ∀ i, i < len → ∀ j, j < k → ∃ x : Int, W.cell? (a'.add (i * k + j)) = some (.int .i64 x) ∧ -9223372036854775808 ≤ x ∧ x ≤ 9223372036854775807 := by
      intro i hil j hj
      obtain ⟨cs', hc, ht'⟩ := hi i (by omega)
      rw [hC] at hc
      obtain ⟨ys, n', _, _, hlen, hyl, hfl⟩ := DataW.trod_struct he ht'
      obtain ⟨_, hcl, hat⟩ := World.cells?_some hc
      have hjf : j < fs.size := by omega
      obtain ⟨ho, hkk⟩ := hone_of hone j fs[j] (Array.getElem?_eq_getElem hjf)
      have h1 := hfl j fs[j] (Array.getElem?_eq_getElem hjf)
      rw [ho, hkk] at h1
      have hjl : j < cs'.length := by omega
      have hone' : (cs'.drop j).take 1 = [cs'[j]] := by rw [List.drop_eq_getElem_cons hjl]; rfl
      rw [hone', List.getElem?_eq_getElem (show j < ys.length by omega)] at h1
      obtain ⟨x, hx1, _, hw⟩ := DataW.trod_int (hint j fs[j] (Array.getElem?_eq_getElem hjf)) h1
      refine ⟨x, ?_, ?_⟩
      · rw [← Go.Deep.add_add, hat j (by omega), List.getElem?_eq_getElem hjl]
        simp at hx1
        rw [hx1]
      · exact bounds_i64 hw
    obtain ⟨F, hF⟩ : ∃ F : Nat → Nat → Int, ∀ i, i < len → ∀ j, j < k → W.cell? (a'.add (i * k + j)) = some (.int .i64 (F i j)) ∧ -9223372036854775808 ≤ F i j ∧ F i j ≤ 9223372036854775807 :=
      ⟨fun i j => if h : i < len ∧ j < k then (hcell i h.1 j h.2).choose else 0, fun i hi' j hj => by
        simp only [dif_pos (And.intro hi' hj)]; exact (hcell i hi' j hj).choose_spec⟩
    refine ⟨some a', len, _, F, rfl, (fun h => by cases h), hl, by unfold maxLen at hm; omega, ?_, fun i hi' j hj => (hF i hi' j hj).2⟩
    rcases Nat.eq_zero_or_pos len with z | z
    · exact .inl z
    · have h00 := (hF 0 z 0 h0).1
      obtain ⟨b, off, spot⟩ := a'
      have hspot : spot = none := by simpa [Addr.add] using World.cell?_spot h00
      subst hspot
      refine .inr ⟨b, off, rfl, ?_, fun i hi' j hj => ?_⟩
      · have := cell_lt h00; rwa [Go.WideShapes.add_plain] at this
      · rw [← Go.WideShapes.add_plain]; exact (hF i hi' j hj).1
end Go.Proofs.Ytllamakemgogaaa
/-
  Contracts of package vec: isNear, Is2, Is3, parts, cross, below.
-/
namespace Go.Proofs.Ytllamakemgogaaa
open Go.RowKit

def ints (l : List Int) : Array Value := (l.map fun x => Value.int .i64 x).toArray
theorem ints_at {l : List Int} {k : Nat} (h : k < l.length) : (ints l)[k]? = some (.int .i64 (l.getD k 0)) := by
  unfold ints; simp [h]

set_option maxRecDepth 100000 in
set_option maxHeartbeats 1000000 in
theorem isNear_any (l : List Int) (g c : Nat) (T : TypeId) (w : World) (h : Lok w g T (ints l)) (hl : l.length ≤ 1000000) :
    Calls Try.prog 79 #[.slice (some ⟨g, 0, none⟩) l.length c] w fun e w' => e = .returned (.bool (l.all nB)) ∧ Below w.heap.size w w' := by
  have L := Lib.hid h
  clear h
  go_enter Try.func79, Try.ntmps79
  go_wp2_with fail
  go_loopw [7] (fun x wr => ∃ k : Nat, x = .int .i64 k ∧ k ≤ l.length ∧ (∀ j, j < k → nB (l.getD j 0) = true) ∧ Below w.heap.size w wr) (fun x _ => l.length - (intOf x).toNat)
  case atStart => exact ⟨0, rfl, Nat.zero_le _, fun j h => absurd h (by omega), by (repeat (first | exact Below.refl _ _ | assumption | refine Below.drew ?_ | refine below_drewN ?_ _ | refine Below.setCell ?_ (by first | omega | (simp; done) | (simp; omega)) _ | refine Below.alloc ?_ (by first | omega | (simp; done) | (simp; omega)) _))⟩
  case round =>
    obtain ⟨k, rfl, hk, hR, hB⟩ := hrel
    have HB := Lib.hid hB
    have HR := Lib.hid hR
    have c0 : k < l.length → wr.cell? ⟨g, k, none⟩ = some (.int .i64 (l.getD k 0)) := fun q => (L.out.keep hB).cell (ints_at q)
    clear hB hR
    by_cases hlt : k < l.length
    · replace c0 := c0 hlt
      have no : ¬ NR (l.getD k 0) → l.all nB = false := fun q => by
        rw [List.all_eq_false]
        refine ⟨l.getD k 0, ?_, ?_⟩
        · rw [show l.getD k 0 = l[k] from by simp [hlt]]; exact List.getElem_mem _
        · rw [nB_iff]; exact q
      have yes : NR (l.getD k 0) → ∀ j, j < k + 1 → nB (l.getD j 0) = true := fun q j hj => by
        by_cases e : j = k
        · rw [e]; exact nB_iff.2 q
        · exact HR.out j (by omega)
      unfold NR at no yes
      generalize l.getD k 0 = x at *
      have NO := Lib.hid no
      have YES := Lib.hid yes
      clear no yes
      rcases Int.lt_or_le x (-1048576) with h1 | h1
      · have E := NO.out (by omega)
        have d1 : decide (x < -1048576) = true := decide_eq_true h1
        clear NO YES
        go_wp2
        go_ret
        exact ⟨by rw [E]; rfl, HB.out⟩
      · have d1 : decide (x < -1048576) = false := decide_eq_false (by omega)
        rcases Int.lt_or_le 1048576 x with h2 | h2
        · have E := NO.out (by omega)
          have d2 : decide (1048576 < x) = true := decide_eq_true h2
          clear NO YES
          go_wp2
          go_ret
          exact ⟨by rw [E]; rfl, HB.out⟩
        · have E := YES.out ⟨h1, h2⟩
          have HE := Lib.hid E
          have d2 : decide (1048576 < x) = false := decide_eq_false (by omega)
          clear NO YES E
          go_wp2
          go_roundw
          case rel => exact ⟨k + 1, by go_num, hlt, HE.out, HB.out⟩
          case measure => simp [intOf]; omega
    · obtain rfl : k = l.length := by omega
      clear c0
      go_wp2
      go_ret
      refine ⟨?_, HB.out⟩
      have e : l.all nB = true := by
        rw [List.all_eq_true]
        intro x hx
        obtain ⟨i, hi, rfl⟩ := List.getElem_of_mem hx
        have := HR.out i hi
        rwa [show l.getD i 0 = l[i] from by simp [hi]] at this
      rw [e]; rfl
theorem isNear_2 (x y : Int) (g : Nat) (T : TypeId) (w : World) (h : Lok w g T #[.int .i64 x, .int .i64 y]) :
    Calls Try.prog 79 #[.slice (some ⟨g, 0, none⟩) 2 2] w fun e w' => e = .returned (.bool (n2 x y)) ∧ Below w.heap.size w w' := by
  have q := isNear_any [x, y] g 2 T w h (by simp)
  rw [show [x, y].all nB = n2 x y from by unfold n2; simp [List.all]] at q
  exact q
theorem isNear_3 (x y z : Int) (g : Nat) (T : TypeId) (w : World) (h : Lok w g T #[.int .i64 x, .int .i64 y, .int .i64 z]) :
    Calls Try.prog 79 #[.slice (some ⟨g, 0, none⟩) 3 3] w fun e w' => e = .returned (.bool (n3 x y z)) ∧ Below w.heap.size w w' := by
  have q := isNear_any [x, y, z] g 3 T w h (by simp)
  rw [show [x, y, z].all nB = n3 x y z from by unfold n3; simp [List.all, Bool.and_assoc]] at q
  exact q
end Go.Proofs.Ytllamakemgogaaa
/-
  Contracts of package vec: Is2, Is3.
-/
namespace Go.Proofs.Ytllamakemgogaaa
open Go.RowKit

set_option maxRecDepth 100000 in
set_option maxHeartbeats 1000000 in
theorem is2_any (A : Option Addr) (n c : Nat) (F : Nat → Nat → Int) (w : World) (hr : RowK w A n 2 F) (hn : n ≤ 9223372036854775807) :
    Calls Try.prog 65 #[.slice A n c] w fun e w' => e = .returned (.bool (a2 F n)) ∧ Below w.heap.size w w' := by
  have R := Lib.hid hr
  clear hr
  go_enter Try.func65, Try.ntmps65
  go_wp2_with fail
  go_loopw [7] (fun x wr => ∃ k : Nat, x = .int .i64 k ∧ k ≤ n ∧ (∀ j, j < k → n2 (F j 0) (F j 1) = true) ∧ Below w.heap.size w wr) (fun x _ => n - (intOf x).toNat)
  case atStart => exact ⟨0, rfl, Nat.zero_le _, fun j h => absurd h (by omega), by (repeat (first | exact Below.refl _ _ | assumption | refine Below.drew ?_ | refine below_drewN ?_ _ | refine Below.setCell ?_ (by first | omega | (simp; done) | (simp; omega)) _ | refine Below.alloc ?_ (by first | omega | (simp; done) | (simp; omega)) _))⟩
  case round =>
    obtain ⟨k, rfl, hk, hR, hB⟩ := hrel
    have HB := Lib.hid hB
    have HR := Lib.hid hR
    clear hB hR
    by_cases hlt : k < n
    · obtain ⟨b, o, rfl, hb, hc⟩ := (R.out.keep HB.out).at hlt
      have c0 := hc k hlt 0 (by omega)
      have c1 := hc k hlt 1 (by omega)
      rw [Nat.add_zero] at c0
      rw [← Nat.add_assoc] at c1
      have no : n2 (F k 0) (F k 1) = false → a2 F n = false := allB_no (P := fun i => n2 (F i 0) (F i 1)) hlt
      have yes : n2 (F k 0) (F k 1) = true → ∀ j, j < k + 1 → n2 (F j 0) (F j 1) = true := fun q j hj => by
        by_cases e : j = k
        · rw [e]; exact q
        · exact HR.out j (by omega)
      generalize F k 0 = x at *
      generalize F k 1 = y at *
      have NO := Lib.hid no
      have YES := Lib.hid yes
      clear no yes hc
      have i0 : (0 : Int) ≤ (k : Int) := by omega
      have i1 : (k : Int) < (n : Int) := by omega
      have i2 : ((k : Int)).toNat = k := by omega
      go_wp2_with fail
      have hbp := below_new1 wr (.cells #[.int .i64 x, .int .i64 y] 23)
      have zp : (wr.alloc (.cells #[.int .i64 x, .int .i64 y] 23)).heap.size = wr.heap.size + 1 := by simp
      replace HB := Lib.hid (HB.out.trans (hbp.mono HB.out.size))
      have kp := Lib.hid (Lok.new wr 23 #[.int .i64 x, .int .i64 y])
      clear hbp
      generalize wr.alloc (.cells #[.int .i64 x, .int .i64 y] 23) = Vp at *
      have hbq := below_new1 Vp (.cells #[.int .i64 x, .int .i64 y] 3)
      replace kp := Lib.hid (kp.out.keep hbq)
      have zq : (Vp.alloc (.cells #[.int .i64 x, .int .i64 y] 3)).heap.size = Vp.heap.size + 1 := by simp
      replace HB := Lib.hid (HB.out.trans (hbq.mono HB.out.size))
      have kq := Lib.hid (Lok.new Vp 3 #[.int .i64 x, .int .i64 y])
      clear hbq
      generalize Vp.alloc (.cells #[.int .i64 x, .int .i64 y] 3) = Vq at *
      rw [zp] at kq zq
      clear zp zq
      (((with_reducible refine (isNear_2 x y _ _ _ kq.out).mono ?_); rintro e w1 ⟨rfl, hb1⟩); replace HB := Lib.hid (HB.out.trans (hb1.mono HB.out.size)); clear hb1)
      cases hn2 : n2 x y with
      | false =>
        have E := Lib.hid (NO.out hn2)
        clear NO YES hn2 c0 c1
        go_wp2
        go_ret
        exact ⟨by rw [E.out]; rfl, HB.out⟩
      | true =>
        have E := Lib.hid (YES.out hn2)
        clear NO YES hn2 c0 c1
        go_wp2
        go_roundw
        case rel => exact ⟨k + 1, by go_num, hlt, E.out, HB.out⟩
        case measure => simp [intOf]; omega
    · obtain rfl : k = n := by omega
      go_wp2
      go_ret
      refine ⟨?_, HB.out⟩
      have e : a2 F k = true := allB_yes HR.out
      rw [e]; rfl
/-- A row of points that lies in a block of the call's own. -/
theorem rowK_ints {W : World} {g n k : Nat} {T : TypeId} (l : List Int) (h : Lok W g T (ints l)) (hl : l.length = n * k) : RowK W (some ⟨g, 0, none⟩) n k (rowOf k l) := by
  refine .inr ⟨g, 0, rfl, h.lt, fun i hi j hj => ?_⟩
  rw [Nat.zero_add]
  refine h.cell (ints_at ?_)
  rw [hl]
  calc i * k + j < i * k + k := by omega
    _ = (i + 1) * k := by rw [Nat.add_mul, Nat.one_mul]
    _ ≤ n * k := Nat.mul_le_mul_right _ hi
theorem is2_two (a b c d : Int) (g : Nat) (T : TypeId) (w : World) (h : Lok w g T #[.int .i64 a, .int .i64 b, .int .i64 c, .int .i64 d]) :
    Calls Try.prog 65 #[.slice (some ⟨g, 0, none⟩) 2 2] w fun e w' => e = .returned (.bool (n2 a b && n2 c d)) ∧ Below w.heap.size w w' := by
  have q := is2_any _ 2 2 _ w (rowK_ints (n := 2) (k := 2) [a, b, c, d] h rfl) (by omega)
  rw [show a2 (rowOf 2 [a, b, c, d]) 2 = (n2 a b && n2 c d) from by simp [a2, allB, rowOf]] at q
  exact q
theorem is2_one (a b : Int) (g : Nat) (T : TypeId) (w : World) (h : Lok w g T #[.int .i64 a, .int .i64 b]) :
    Calls Try.prog 65 #[.slice (some ⟨g, 0, none⟩) 1 1] w fun e w' => e = .returned (.bool (n2 a b)) ∧ Below w.heap.size w w' := by
  have q := is2_any _ 1 1 _ w (rowK_ints (n := 1) (k := 2) [a, b] h rfl) (by omega)
  rw [show a2 (rowOf 2 [a, b]) 1 = n2 a b from by simp [a2, allB, rowOf]] at q
  exact q
theorem is2_none (w : World) :
    Calls Try.prog 65 #[.slice none 0 0] w fun e w' => e = .returned (.bool true) ∧ Below w.heap.size w w' := is2_any none 0 0 (fun _ _ => 0) w (.inl rfl) (by omega)
end Go.Proofs.Ytllamakemgogaaa
/-
  Contracts of package sign: within, Small2, Small3. (gen/SgA.py)
-/
namespace Go.Proofs.Ytllamakemgogaaa
open Go.RowKit

set_option maxRecDepth 100000 in
set_option maxHeartbeats 1000000 in
theorem within_any (m : Int) (hm0 : 0 ≤ m) (hm1 : m ≤ 1000000) (l : List Int) (g c : Nat) (T : TypeId) (w : World) (h : Lok w g T (ints l)) (hl : l.length ≤ 1000000) :
    Calls Try.prog 36 #[.int .i64 m, .slice (some ⟨g, 0, none⟩) l.length c] w fun e w' => e = .returned (.bool (l.all (sB m))) ∧ Below w.heap.size w w' := by
  have L := Lib.hid h
  clear h
  have wm : IntKind.i64.wrap (-m) = -m := IntWalk.i64_in _ (by omega)
  go_enter Try.func36, Try.ntmps36
  go_wp2_with fail
  go_loopw [9] (fun x wr => ∃ k : Nat, x = .int .i64 k ∧ k ≤ l.length ∧ (∀ j, j < k → sB m (l.getD j 0) = true) ∧ Below w.heap.size w wr) (fun x _ => l.length - (intOf x).toNat)
  case atStart => exact ⟨0, rfl, Nat.zero_le _, fun j h => absurd h (by omega), by (repeat (first | exact Below.refl _ _ | assumption | refine Below.drew ?_ | refine below_drewN ?_ _ | refine Below.setCell ?_ (by first | omega | (simp; done) | (simp; omega)) _ | refine Below.alloc ?_ (by first | omega | (simp; done) | (simp; omega)) _))⟩
  case round =>
    obtain ⟨k, rfl, hk, hR, hB⟩ := hrel
    have HB := Lib.hid hB
    have HR := Lib.hid hR
    have c0 : k < l.length → wr.cell? ⟨g, k, none⟩ = some (.int .i64 (l.getD k 0)) := fun q => (L.out.keep hB).cell (ints_at q)
    clear hB hR
    by_cases hlt : k < l.length
    · replace c0 := c0 hlt
      have no : ¬ SM m (l.getD k 0) → l.all (sB m) = false := fun q => by
        rw [List.all_eq_false]
        refine ⟨l.getD k 0, ?_, ?_⟩
        · rw [show l.getD k 0 = l[k] from by simp [hlt]]; exact List.getElem_mem _
        · rw [sB_iff]; exact q
      have yes : SM m (l.getD k 0) → ∀ j, j < k + 1 → sB m (l.getD j 0) = true := fun q j hj => by
        by_cases e : j = k
        · rw [e]; exact sB_iff.2 q
        · exact HR.out j (by omega)
      unfold SM at no yes
      generalize l.getD k 0 = x at *
      have NO := Lib.hid no
      have YES := Lib.hid yes
      clear no yes
      rcases Int.lt_or_le x (-m) with h1 | h1
      · have E := NO.out (by omega)
        have d1 : decide (x < -m) = true := decide_eq_true h1
        clear NO YES
        go_wp2
        go_ret
        exact ⟨by rw [E]; rfl, HB.out⟩
      · have d1 : decide (x < -m) = false := decide_eq_false (by omega)
        rcases Int.lt_or_le m x with h2 | h2
        · have E := NO.out (by omega)
          have d2 : decide (m < x) = true := decide_eq_true h2
          clear NO YES
          go_wp2
          go_ret
          exact ⟨by rw [E]; rfl, HB.out⟩
        · have E := YES.out ⟨h1, h2⟩
          have HE := Lib.hid E
          have d2 : decide (m < x) = false := decide_eq_false (by omega)
          clear NO YES E
          go_wp2
          go_roundw
          case rel => exact ⟨k + 1, by go_num, hlt, HE.out, HB.out⟩
          case measure => simp [intOf]; omega
    · obtain rfl : k = l.length := by omega
      clear c0
      go_wp2
      go_ret
      refine ⟨?_, HB.out⟩
      have e : l.all (sB m) = true := by
        rw [List.all_eq_true]
        intro x hx
        obtain ⟨i, hi, rfl⟩ := List.getElem_of_mem hx
        have := HR.out i hi
        rwa [show l.getD i 0 = l[i] from by simp [hi]] at this
      rw [e]; rfl
theorem within_2 (m : Int) (hm0 : 0 ≤ m) (hm1 : m ≤ 1000000) (x y : Int) (g : Nat) (T : TypeId) (w : World) (h : Lok w g T #[.int .i64 x, .int .i64 y]) :
    Calls Try.prog 36 #[.int .i64 m, .slice (some ⟨g, 0, none⟩) 2 2] w fun e w' => e = .returned (.bool (sB m x && sB m y)) ∧ Below w.heap.size w w' := by
  have q := within_any m hm0 hm1 [x, y] g 2 T w h (by simp)
  rw [show [x, y].all (sB m) = (sB m x && sB m y) from by simp [List.all]] at q
  exact q
theorem within_3 (m : Int) (hm0 : 0 ≤ m) (hm1 : m ≤ 1000000) (x y z : Int) (g : Nat) (T : TypeId) (w : World) (h : Lok w g T #[.int .i64 x, .int .i64 y, .int .i64 z]) :
    Calls Try.prog 36 #[.int .i64 m, .slice (some ⟨g, 0, none⟩) 3 3] w fun e w' => e = .returned (.bool (sB m x && sB m y && sB m z)) ∧ Below w.heap.size w w' := by
  have q := within_any m hm0 hm1 [x, y, z] g 3 T w h (by simp)
  rw [show [x, y, z].all (sB m) = (sB m x && sB m y && sB m z) from by simp [List.all, Bool.and_assoc]] at q
  exact q
set_option maxRecDepth 100000 in
set_option maxHeartbeats 1000000 in
theorem small2_any (A : Option Addr) (n c : Nat) (F : Nat → Nat → Int) (w : World) (hr : RowK w A n 2 F) (hn : n ≤ 9223372036854775807) :
    Calls Try.prog 17 #[.slice A n c] w fun e w' => e = .returned (.bool (aS2 F n)) ∧ Below w.heap.size w w' := by
  have R := Lib.hid hr
  clear hr
  go_enter Try.func17, Try.ntmps17
  go_wp2_with fail
  go_loopw [7] (fun x wr => ∃ k : Nat, x = .int .i64 k ∧ k ≤ n ∧ (∀ j, j < k → s2 (F j 0) (F j 1) = true) ∧ Below w.heap.size w wr) (fun x _ => n - (intOf x).toNat)
  case atStart => exact ⟨0, rfl, Nat.zero_le _, fun j h => absurd h (by omega), by (repeat (first | exact Below.refl _ _ | assumption | refine Below.drew ?_ | refine below_drewN ?_ _ | refine Below.setCell ?_ (by first | omega | (simp; done) | (simp; omega)) _ | refine Below.alloc ?_ (by first | omega | (simp; done) | (simp; omega)) _))⟩
  case round =>
    obtain ⟨k, rfl, hk, hR, hB⟩ := hrel
    have HB := Lib.hid hB
    have HR := Lib.hid hR
    clear hB hR
    by_cases hlt : k < n
    · obtain ⟨b, o, rfl, hb, hc⟩ := (R.out.keep HB.out).at hlt
      have c0 := hc k hlt 0 (by omega)
      have c1 := hc k hlt 1 (by omega)
      rw [Nat.add_zero] at c0
      rw [← Nat.add_assoc] at c1
      have no : s2 (F k 0) (F k 1) = false → aS2 F n = false := allB_no (P := fun i => s2 (F i 0) (F i 1)) hlt
      have yes : s2 (F k 0) (F k 1) = true → ∀ j, j < k + 1 → s2 (F j 0) (F j 1) = true := fun q j hj => by
        by_cases e : j = k
        · rw [e]; exact q
        · exact HR.out j (by omega)
      generalize F k 0 = x at *
      generalize F k 1 = y at *
      have NO := Lib.hid no
      have YES := Lib.hid yes
      clear no yes hc
      have i0 : (0 : Int) ≤ (k : Int) := by omega
      have i1 : (k : Int) < (n : Int) := by omega
      have i2 : ((k : Int)).toNat = k := by omega
      go_wp2_with fail
      have hbp := below_new1 wr (.cells #[.int .i64 x, .int .i64 y] 23)
      have zp : (wr.alloc (.cells #[.int .i64 x, .int .i64 y] 23)).heap.size = wr.heap.size + 1 := by simp
      replace HB := Lib.hid (HB.out.trans (hbp.mono HB.out.size))
      have kp := Lib.hid (Lok.new wr 23 #[.int .i64 x, .int .i64 y])
      clear hbp
      generalize wr.alloc (.cells #[.int .i64 x, .int .i64 y] 23) = Vp at *
      have hbq := below_new1 Vp (.cells #[.int .i64 x, .int .i64 y] 3)
      replace kp := Lib.hid (kp.out.keep hbq)
      have zq : (Vp.alloc (.cells #[.int .i64 x, .int .i64 y] 3)).heap.size = Vp.heap.size + 1 := by simp
      replace HB := Lib.hid (HB.out.trans (hbq.mono HB.out.size))
      have kq := Lib.hid (Lok.new Vp 3 #[.int .i64 x, .int .i64 y])
      clear hbq
      generalize Vp.alloc (.cells #[.int .i64 x, .int .i64 y] 3) = Vq at *
      rw [zp] at kq zq
      clear zp zq
      (((with_reducible refine (within_2 4096 (by omega) (by omega) x y _ _ _ kq.out).mono ?_); rintro e w1 ⟨rfl, hb1⟩); replace HB := Lib.hid (HB.out.trans (hb1.mono HB.out.size)); clear hb1)
      rw [show (sB 4096 x && sB 4096 y) = s2 x y from rfl]
      cases hn2 : s2 x y with
      | false =>
        have E := Lib.hid (NO.out hn2)
        clear NO YES hn2 c0 c1
        go_wp2
        go_ret
        exact ⟨by rw [E.out]; rfl, HB.out⟩
      | true =>
        have E := Lib.hid (YES.out hn2)
        clear NO YES hn2 c0 c1
        go_wp2
        go_roundw
        case rel => exact ⟨k + 1, by go_num, hlt, E.out, HB.out⟩
        case measure => simp [intOf]; omega
    · obtain rfl : k = n := by omega
      go_wp2
      go_ret
      refine ⟨?_, HB.out⟩
      have e : aS2 F k = true := allB_yes HR.out
      rw [e]; rfl
set_option maxRecDepth 100000 in
set_option maxHeartbeats 1000000 in
theorem small3_any (A : Option Addr) (n c : Nat) (F : Nat → Nat → Int) (w : World) (hr : RowK w A n 3 F) (hn : n ≤ 9223372036854775807) :
    Calls Try.prog 32 #[.slice A n c] w fun e w' => e = .returned (.bool (aS3 F n)) ∧ Below w.heap.size w w' := by
  have R := Lib.hid hr
  clear hr
  go_enter Try.func32, Try.ntmps32
  go_wp2_with fail
  go_loopw [7] (fun x wr => ∃ k : Nat, x = .int .i64 k ∧ k ≤ n ∧ (∀ j, j < k → s3 (F j 0) (F j 1) (F j 2) = true) ∧ Below w.heap.size w wr) (fun x _ => n - (intOf x).toNat)
  case atStart => exact ⟨0, rfl, Nat.zero_le _, fun j h => absurd h (by omega), by (repeat (first | exact Below.refl _ _ | assumption | refine Below.drew ?_ | refine below_drewN ?_ _ | refine Below.setCell ?_ (by first | omega | (simp; done) | (simp; omega)) _ | refine Below.alloc ?_ (by first | omega | (simp; done) | (simp; omega)) _))⟩
  case round =>
    obtain ⟨k, rfl, hk, hR, hB⟩ := hrel
    have HB := Lib.hid hB
    have HR := Lib.hid hR
    clear hB hR
    by_cases hlt : k < n
    · obtain ⟨b, o, rfl, hb, hc⟩ := (R.out.keep HB.out).at hlt
      have c0 := hc k hlt 0 (by omega)
      have c1 := hc k hlt 1 (by omega)
      have c2 := hc k hlt 2 (by omega)
      rw [Nat.add_zero] at c0
      rw [← Nat.add_assoc] at c1 c2
      have no : s3 (F k 0) (F k 1) (F k 2) = false → aS3 F n = false := allB_no (P := fun i => s3 (F i 0) (F i 1) (F i 2)) hlt
      have yes : s3 (F k 0) (F k 1) (F k 2) = true → ∀ j, j < k + 1 → s3 (F j 0) (F j 1) (F j 2) = true := fun q j hj => by
        by_cases e : j = k
        · rw [e]; exact q
        · exact HR.out j (by omega)
      generalize F k 0 = x at *
      generalize F k 1 = y at *
      generalize F k 2 = z at *
      have NO := Lib.hid no
      have YES := Lib.hid yes
      clear no yes hc
      have i0 : (0 : Int) ≤ (k : Int) := by omega
      have i1 : (k : Int) < (n : Int) := by omega
      have i2 : ((k : Int)).toNat = k := by omega
      go_wp2_with fail
      have hbp := below_new1 wr (.cells #[.int .i64 x, .int .i64 y, .int .i64 z] 26)
      have zp : (wr.alloc (.cells #[.int .i64 x, .int .i64 y, .int .i64 z] 26)).heap.size = wr.heap.size + 1 := by simp
      replace HB := Lib.hid (HB.out.trans (hbp.mono HB.out.size))
      have kp := Lib.hid (Lok.new wr 26 #[.int .i64 x, .int .i64 y, .int .i64 z])
      clear hbp
      generalize wr.alloc (.cells #[.int .i64 x, .int .i64 y, .int .i64 z] 26) = Vp at *
      have hbq := below_new1 Vp (.cells #[.int .i64 x, .int .i64 y, .int .i64 z] 3)
      replace kp := Lib.hid (kp.out.keep hbq)
      have zq : (Vp.alloc (.cells #[.int .i64 x, .int .i64 y, .int .i64 z] 3)).heap.size = Vp.heap.size + 1 := by simp
      replace HB := Lib.hid (HB.out.trans (hbq.mono HB.out.size))
      have kq := Lib.hid (Lok.new Vp 3 #[.int .i64 x, .int .i64 y, .int .i64 z])
      clear hbq
      generalize Vp.alloc (.cells #[.int .i64 x, .int .i64 y, .int .i64 z] 3) = Vq at *
      rw [zp] at kq zq
      clear zp zq
      (((with_reducible refine (within_3 16384 (by omega) (by omega) x y z _ _ _ kq.out).mono ?_); rintro e w1 ⟨rfl, hb1⟩); replace HB := Lib.hid (HB.out.trans (hb1.mono HB.out.size)); clear hb1)
      rw [show (sB 16384 x && sB 16384 y && sB 16384 z) = s3 x y z from rfl]
      cases hn2 : s3 x y z with
      | false =>
        have E := Lib.hid (NO.out hn2)
        clear NO YES hn2 c0 c1
        go_wp2
        go_ret
        exact ⟨by rw [E.out]; rfl, HB.out⟩
      | true =>
        have E := Lib.hid (YES.out hn2)
        clear NO YES hn2 c0 c1
        go_wp2
        go_roundw
        case rel => exact ⟨k + 1, by go_num, hlt, E.out, HB.out⟩
        case measure => simp [intOf]; omega
    · obtain rfl : k = n := by omega
      go_wp2
      go_ret
      refine ⟨?_, HB.out⟩
      have e : aS3 F k = true := allB_yes HR.out
      rw [e]; rfl
theorem small2_1 (a1 a2 : Int) (u : Bool) (hu : (s2 a1 a2) = u) (g : Nat) (T : TypeId) (w : World) (h : Lok w g T #[.int .i64 a1, .int .i64 a2]) :
    Calls Try.prog 17 #[.slice (some ⟨g, 0, none⟩) 1 1] w fun e w' => e = .returned (.bool u) ∧ Below w.heap.size w w' := by
  have q := small2_any _ 1 1 _ w (rowK_ints (n := 1) (k := 2) [a1, a2] h rfl) (by omega)
  rw [show aS2 (rowOf 2 [a1, a2]) 1 = u from by rw [← hu]; simp [aS2, allB, rowOf]] at q
  exact q
theorem small2_2 (a1 a2 b1 b2 : Int) (u : Bool) (hu : (s2 a1 a2 && s2 b1 b2) = u) (g : Nat) (T : TypeId) (w : World) (h : Lok w g T #[.int .i64 a1, .int .i64 a2, .int .i64 b1, .int .i64 b2]) :
    Calls Try.prog 17 #[.slice (some ⟨g, 0, none⟩) 2 2] w fun e w' => e = .returned (.bool u) ∧ Below w.heap.size w w' := by
  have q := small2_any _ 2 2 _ w (rowK_ints (n := 2) (k := 2) [a1, a2, b1, b2] h rfl) (by omega)
  rw [show aS2 (rowOf 2 [a1, a2, b1, b2]) 2 = u from by rw [← hu]; simp [aS2, allB, rowOf]] at q
  exact q
theorem small2_3 (a1 a2 b1 b2 c1 c2 : Int) (u : Bool) (hu : (s2 a1 a2 && s2 b1 b2 && s2 c1 c2) = u) (g : Nat) (T : TypeId) (w : World) (h : Lok w g T #[.int .i64 a1, .int .i64 a2, .int .i64 b1, .int .i64 b2, .int .i64 c1, .int .i64 c2]) :
    Calls Try.prog 17 #[.slice (some ⟨g, 0, none⟩) 3 3] w fun e w' => e = .returned (.bool u) ∧ Below w.heap.size w w' := by
  have q := small2_any _ 3 3 _ w (rowK_ints (n := 3) (k := 2) [a1, a2, b1, b2, c1, c2] h rfl) (by omega)
  rw [show aS2 (rowOf 2 [a1, a2, b1, b2, c1, c2]) 3 = u from by rw [← hu]; simp [aS2, allB, rowOf]] at q
  exact q
theorem small2_4 (a1 a2 b1 b2 c1 c2 d1 d2 : Int) (u : Bool) (hu : (s2 a1 a2 && s2 b1 b2 && s2 c1 c2 && s2 d1 d2) = u) (g : Nat) (T : TypeId) (w : World) (h : Lok w g T #[.int .i64 a1, .int .i64 a2, .int .i64 b1, .int .i64 b2, .int .i64 c1, .int .i64 c2, .int .i64 d1, .int .i64 d2]) :
    Calls Try.prog 17 #[.slice (some ⟨g, 0, none⟩) 4 4] w fun e w' => e = .returned (.bool u) ∧ Below w.heap.size w w' := by
  have q := small2_any _ 4 4 _ w (rowK_ints (n := 4) (k := 2) [a1, a2, b1, b2, c1, c2, d1, d2] h rfl) (by omega)
  rw [show aS2 (rowOf 2 [a1, a2, b1, b2, c1, c2, d1, d2]) 4 = u from by rw [← hu]; simp [aS2, allB, rowOf]] at q
  exact q
theorem small2_5 (a1 a2 b1 b2 c1 c2 d1 d2 e1 e2 : Int) (u : Bool) (hu : (s2 a1 a2 && s2 b1 b2 && s2 c1 c2 && s2 d1 d2 && s2 e1 e2) = u) (g : Nat) (T : TypeId) (w : World) (h : Lok w g T #[.int .i64 a1, .int .i64 a2, .int .i64 b1, .int .i64 b2, .int .i64 c1, .int .i64 c2, .int .i64 d1, .int .i64 d2, .int .i64 e1, .int .i64 e2]) :
    Calls Try.prog 17 #[.slice (some ⟨g, 0, none⟩) 5 5] w fun e w' => e = .returned (.bool u) ∧ Below w.heap.size w w' := by
  have q := small2_any _ 5 5 _ w (rowK_ints (n := 5) (k := 2) [a1, a2, b1, b2, c1, c2, d1, d2, e1, e2] h rfl) (by omega)
  rw [show aS2 (rowOf 2 [a1, a2, b1, b2, c1, c2, d1, d2, e1, e2]) 5 = u from by rw [← hu]; simp [aS2, allB, rowOf]] at q
  exact q
theorem small3_1 (a1 a2 a3 : Int) (u : Bool) (hu : (s3 a1 a2 a3) = u) (g : Nat) (T : TypeId) (w : World) (h : Lok w g T #[.int .i64 a1, .int .i64 a2, .int .i64 a3]) :
    Calls Try.prog 32 #[.slice (some ⟨g, 0, none⟩) 1 1] w fun e w' => e = .returned (.bool u) ∧ Below w.heap.size w w' := by
  have q := small3_any _ 1 1 _ w (rowK_ints (n := 1) (k := 3) [a1, a2, a3] h rfl) (by omega)
  rw [show aS3 (rowOf 3 [a1, a2, a3]) 1 = u from by rw [← hu]; simp [aS3, allB, rowOf]] at q
  exact q
theorem small3_2 (a1 a2 a3 b1 b2 b3 : Int) (u : Bool) (hu : (s3 a1 a2 a3 && s3 b1 b2 b3) = u) (g : Nat) (T : TypeId) (w : World) (h : Lok w g T #[.int .i64 a1, .int .i64 a2, .int .i64 a3, .int .i64 b1, .int .i64 b2, .int .i64 b3]) :
    Calls Try.prog 32 #[.slice (some ⟨g, 0, none⟩) 2 2] w fun e w' => e = .returned (.bool u) ∧ Below w.heap.size w w' := by
  have q := small3_any _ 2 2 _ w (rowK_ints (n := 2) (k := 3) [a1, a2, a3, b1, b2, b3] h rfl) (by omega)
  rw [show aS3 (rowOf 3 [a1, a2, a3, b1, b2, b3]) 2 = u from by rw [← hu]; simp [aS3, allB, rowOf]] at q
  exact q
theorem small3_3 (a1 a2 a3 b1 b2 b3 c1 c2 c3 : Int) (u : Bool) (hu : (s3 a1 a2 a3 && s3 b1 b2 b3 && s3 c1 c2 c3) = u) (g : Nat) (T : TypeId) (w : World) (h : Lok w g T #[.int .i64 a1, .int .i64 a2, .int .i64 a3, .int .i64 b1, .int .i64 b2, .int .i64 b3, .int .i64 c1, .int .i64 c2, .int .i64 c3]) :
    Calls Try.prog 32 #[.slice (some ⟨g, 0, none⟩) 3 3] w fun e w' => e = .returned (.bool u) ∧ Below w.heap.size w w' := by
  have q := small3_any _ 3 3 _ w (rowK_ints (n := 3) (k := 3) [a1, a2, a3, b1, b2, b3, c1, c2, c3] h rfl) (by omega)
  rw [show aS3 (rowOf 3 [a1, a2, a3, b1, b2, b3, c1, c2, c3]) 3 = u from by rw [← hu]; simp [aS3, allB, rowOf]] at q
  exact q
theorem small3_4 (a1 a2 a3 b1 b2 b3 c1 c2 c3 d1 d2 d3 : Int) (u : Bool) (hu : (s3 a1 a2 a3 && s3 b1 b2 b3 && s3 c1 c2 c3 && s3 d1 d2 d3) = u) (g : Nat) (T : TypeId) (w : World) (h : Lok w g T #[.int .i64 a1, .int .i64 a2, .int .i64 a3, .int .i64 b1, .int .i64 b2, .int .i64 b3, .int .i64 c1, .int .i64 c2, .int .i64 c3, .int .i64 d1, .int .i64 d2, .int .i64 d3]) :
    Calls Try.prog 32 #[.slice (some ⟨g, 0, none⟩) 4 4] w fun e w' => e = .returned (.bool u) ∧ Below w.heap.size w w' := by
  have q := small3_any _ 4 4 _ w (rowK_ints (n := 4) (k := 3) [a1, a2, a3, b1, b2, b3, c1, c2, c3, d1, d2, d3] h rfl) (by omega)
  rw [show aS3 (rowOf 3 [a1, a2, a3, b1, b2, b3, c1, c2, c3, d1, d2, d3]) 4 = u from by rw [← hu]; simp [aS3, allB, rowOf]] at q
  exact q
theorem small3_5 (a1 a2 a3 b1 b2 b3 c1 c2 c3 d1 d2 d3 e1 e2 e3 : Int) (u : Bool) (hu : (s3 a1 a2 a3 && s3 b1 b2 b3 && s3 c1 c2 c3 && s3 d1 d2 d3 && s3 e1 e2 e3) = u) (g : Nat) (T : TypeId) (w : World) (h : Lok w g T #[.int .i64 a1, .int .i64 a2, .int .i64 a3, .int .i64 b1, .int .i64 b2, .int .i64 b3, .int .i64 c1, .int .i64 c2, .int .i64 c3, .int .i64 d1, .int .i64 d2, .int .i64 d3, .int .i64 e1, .int .i64 e2, .int .i64 e3]) :
    Calls Try.prog 32 #[.slice (some ⟨g, 0, none⟩) 5 5] w fun e w' => e = .returned (.bool u) ∧ Below w.heap.size w w' := by
  have q := small3_any _ 5 5 _ w (rowK_ints (n := 5) (k := 3) [a1, a2, a3, b1, b2, b3, c1, c2, c3, d1, d2, d3, e1, e2, e3] h rfl) (by omega)
  rw [show aS3 (rowOf 3 [a1, a2, a3, b1, b2, b3, c1, c2, c3, d1, d2, d3, e1, e2, e3]) 5 = u from by rw [← hu]; simp [aS3, allB, rowOf]] at q
  exact q
theorem small2_none (w : World) :
    Calls Try.prog 17 #[.slice none 0 0] w fun e w' => e = .returned (.bool true) ∧ Below w.heap.size w w' := small2_any none 0 0 (fun _ _ => 0) w (.inl rfl) (by omega)
end Go.Proofs.Ytllamakemgogaaa
/-
  Contracts of package vec: parts, cross, drop, below.
-/
namespace Go.Proofs.Ytllamakemgogaaa
open Go.RowKit

/-- A cross product's parts stay within 64 bits. -/
theorem cross_wraps {a b c d : Int} (ha : NR a) (hb : NR b) (hc : NR c) (hd : NR d) :
    IntKind.i64.wrap (a * d) = a * d ∧ IntKind.i64.wrap (b * c) = b * c ∧ IntKind.i64.wrap (a * d - b * c) = a * d - b * c := by
  have p := near_prod ha hd
  have q := near_prod hb hc
  exact ⟨IntWalk.i64_in _ (by omega), IntWalk.i64_in _ (by omega), IntWalk.i64_in _ (by omega)⟩

set_option maxRecDepth 100000 in
set_option maxHeartbeats 1000000 in
theorem cross_any (a b c d : Int) (w : World) (h : n2 a b = true) (k : n2 c d = true) :
    Calls Try.prog 85 #[.agg #[.int .i64 a, .int .i64 b], .agg #[.int .i64 c, .int .i64 d]] w fun e w' => e = .returned (.int .i64 (a * d - b * c)) ∧ Below w.heap.size w w' := by
  obtain ⟨ha, hb⟩ := n2_iff.1 h
  obtain ⟨hc, hd⟩ := n2_iff.1 k
  obtain ⟨e1, e2, e3⟩ := cross_wraps ha hb hc hd
  clear h k ha hb hc hd
  go_enter Try.func85, Try.ntmps85
  go_wp2
  go_ret
  exact ⟨rfl, by (repeat (first | exact Below.refl _ _ | assumption | refine Below.drew ?_ | refine below_drewN ?_ _ | refine Below.setCell ?_ (by first | omega | (simp; done) | (simp; omega)) _ | refine Below.alloc ?_ (by first | omega | (simp; done) | (simp; omega)) _))⟩

/-- A part by its axis. -/
def pt (x y z : Int) (k : Nat) : Int := if k = 0 then x else if k = 1 then y else z
def dX (x y z : Int) (k : Nat) : Int := pt x y z ((k + 1) % 3)
def dY (x y z : Int) (k : Nat) : Int := pt x y z ((k + 2) % 3)

theorem below_wrap {n : Int} (h : -9223372036854775808 ≤ n) (k : n ≤ 9223372036854775807) : (n = -9223372036854775808 ∧ IntKind.i64.wrap (-n) = n) ∨ IntKind.i64.wrap (-n) = -n := by
  by_cases e : n = -9223372036854775808
  · exact .inl ⟨e, by rw [e]; decide⟩
  · exact .inr (IntWalk.i64_in _ (by omega))
end Go.Proofs.Ytllamakemgogaaa
/-
  Contracts of package vec: Sub2, Sub3, Cross2, Drop.
-/
namespace Go.Proofs.Ytllamakemgogaaa
open Go.RowKit

/-- A difference, where both are near. -/
def sF (b : Bool) (x y : Int) : Int := if b = true then x - y else 0
/-- The error where one is not near. -/
def rE (b : Bool) : Int := if b = true then 0 else 5
theorem sub_wrap {x y : Int} (h : NR x) (k : NR y) : IntKind.i64.wrap (x - y) = x - y := IntWalk.i64_in _ (by unfold NR at h k; omega)
theorem is2_b (a b c d : Int) (t : Bool) (ht : (n2 a b && n2 c d) = t) (g : Nat) (T : TypeId) (w : World) (h : Lok w g T #[.int .i64 a, .int .i64 b, .int .i64 c, .int .i64 d]) :
    Calls Try.prog 65 #[.slice (some ⟨g, 0, none⟩) 2 2] w fun e w' => e = .returned (.bool t) ∧ Below w.heap.size w w' := by
  rw [← ht]; exact is2_two a b c d g T w h
set_option maxRecDepth 100000 in
set_option maxHeartbeats 1000000 in
theorem sub2_any (a b c d : Int) (w : World) :
    Calls Try.prog 43 #[.agg #[.int .i64 a, .int .i64 b], .agg #[.int .i64 c, .int .i64 d]] w fun e w' => e = .returned (.agg #[.int .i64 (sF (n2 a b && n2 c d) a c), .int .i64 (sF (n2 a b && n2 c d) b d)]) ∧ Below w.heap.size w w' := by
  have HB := Lib.hid (Below.refl w.heap.size w)
  cases ht : n2 a b && n2 c d with
  | false =>
    have I := Lib.hid (fun g T W h => is2_b a b c d false ht g T W h)
    rw [show sF false a c = 0 from rfl, show sF false b d = 0 from rfl]
    clear ht
    go_enter Try.func43, Try.ntmps43
    go_upto_region 1 with fail
    have hbx := below_new1 w (.cells #[.int .i64 a, .int .i64 b] 23)
    have zx : (w.alloc (.cells #[.int .i64 a, .int .i64 b] 23)).heap.size = w.heap.size + 1 := by simp
    have HB := Lib.hid hbx
    have kx := Lib.hid (Lok.new w 23 #[.int .i64 a, .int .i64 b])
    clear hbx
    generalize w.alloc (.cells #[.int .i64 a, .int .i64 b] 23) = Vx at *
    have hby := below_new1 Vx (.cells #[.int .i64 c, .int .i64 d] 23)
    replace kx := Lib.hid (kx.out.keep hby)
    have zy : (Vx.alloc (.cells #[.int .i64 c, .int .i64 d] 23)).heap.size = Vx.heap.size + 1 := by simp
    replace HB := Lib.hid (HB.out.trans (hby.mono HB.out.size))
    have ky := Lib.hid (Lok.new Vx 23 #[.int .i64 c, .int .i64 d])
    clear hby
    generalize Vx.alloc (.cells #[.int .i64 c, .int .i64 d] 23) = Vy at *
    rw [zx] at ky zy
    have hbz := below_new1 Vy (.cells #[.int .i64 0, .int .i64 0] 23)
    replace kx := Lib.hid (kx.out.keep hbz)
    replace ky := Lib.hid (ky.out.keep hbz)
    have zz : (Vy.alloc (.cells #[.int .i64 0, .int .i64 0] 23)).heap.size = Vy.heap.size + 1 := by simp
    replace HB := Lib.hid (HB.out.trans (hbz.mono HB.out.size))
    have kz := Lib.hid (Lok.new Vy 23 #[.int .i64 0, .int .i64 0])
    clear hbz
    generalize Vy.alloc (.cells #[.int .i64 0, .int .i64 0] 23) = Vz at *
    rw [zy] at kz
    clear zx zy zz
    have x0 := kx.out.cell (i := 0) rfl
    have x1 := kx.out.cell (i := 1) rfl
    have y0 := ky.out.cell (i := 0) rfl
    have y1 := ky.out.cell (i := 1) rfl
    go_wp2_with fail
    clear x0 x1 y0 y1
    have hbr := below_new1 Vz (.cells #[.int .i64 a, .int .i64 b, .int .i64 c, .int .i64 d] 23)
    replace kz := Lib.hid (kz.out.keep hbr)
    have zr : (Vz.alloc (.cells #[.int .i64 a, .int .i64 b, .int .i64 c, .int .i64 d] 23)).heap.size = Vz.heap.size + 1 := by simp
    replace HB := Lib.hid (HB.out.trans (hbr.mono HB.out.size))
    have kr := Lib.hid (Lok.new Vz 23 #[.int .i64 a, .int .i64 b, .int .i64 c, .int .i64 d])
    clear hbr
    generalize Vz.alloc (.cells #[.int .i64 a, .int .i64 b, .int .i64 c, .int .i64 d] 23) = Vr at *
    clear zr
    generalize Vz.heap.size = gr at *
    (((with_reducible refine (I.out _ _ _ kr.out).mono ?_); rintro e w1 ⟨rfl, hb1⟩); replace HB := Lib.hid (HB.out.trans (hb1.mono HB.out.size)); replace kz := Lib.hid (kz.out.keep hb1); clear hb1)
    have z0 := kz.out.cell (i := 0) rfl
    have z1 := kz.out.cell (i := 1) rfl
    have f0 := kz.out.frozen 0
    have f1 := kz.out.frozen 1
    go_wp2_with fail
    exact bodyPost_ret (v := .agg #[.int .i64 0, .int .i64 0]) (by simp [results, Try.results43, go_sem, z0, z1]) rfl ⟨rfl, (HB.out.setCell (by simp <;> omega) _).setCell (by simp <;> omega) _⟩
  | true =>
    have I := Lib.hid (fun g T W h => is2_b a b c d true ht g T W h)
    rw [show sF true a c = a - c from rfl, show sF true b d = b - d from rfl]
    rw [Bool.and_eq_true, n2_iff, n2_iff] at ht
    have e1 := sub_wrap ht.1.1 ht.2.1
    have e2 := sub_wrap ht.1.2 ht.2.2
    clear ht
    go_enter Try.func43, Try.ntmps43
    go_upto_region 1 with fail
    have hbx := below_new1 w (.cells #[.int .i64 a, .int .i64 b] 23)
    have zx : (w.alloc (.cells #[.int .i64 a, .int .i64 b] 23)).heap.size = w.heap.size + 1 := by simp
    have HB := Lib.hid hbx
    have kx := Lib.hid (Lok.new w 23 #[.int .i64 a, .int .i64 b])
    clear hbx
    generalize w.alloc (.cells #[.int .i64 a, .int .i64 b] 23) = Vx at *
    have hby := below_new1 Vx (.cells #[.int .i64 c, .int .i64 d] 23)
    replace kx := Lib.hid (kx.out.keep hby)
    have zy : (Vx.alloc (.cells #[.int .i64 c, .int .i64 d] 23)).heap.size = Vx.heap.size + 1 := by simp
    replace HB := Lib.hid (HB.out.trans (hby.mono HB.out.size))
    have ky := Lib.hid (Lok.new Vx 23 #[.int .i64 c, .int .i64 d])
    clear hby
    generalize Vx.alloc (.cells #[.int .i64 c, .int .i64 d] 23) = Vy at *
    rw [zx] at ky zy
    have hbz := below_new1 Vy (.cells #[.int .i64 0, .int .i64 0] 23)
    replace kx := Lib.hid (kx.out.keep hbz)
    replace ky := Lib.hid (ky.out.keep hbz)
    have zz : (Vy.alloc (.cells #[.int .i64 0, .int .i64 0] 23)).heap.size = Vy.heap.size + 1 := by simp
    replace HB := Lib.hid (HB.out.trans (hbz.mono HB.out.size))
    have kz := Lib.hid (Lok.new Vy 23 #[.int .i64 0, .int .i64 0])
    clear hbz
    generalize Vy.alloc (.cells #[.int .i64 0, .int .i64 0] 23) = Vz at *
    rw [zy] at kz
    clear zx zy zz
    have x0 := kx.out.cell (i := 0) rfl
    have x1 := kx.out.cell (i := 1) rfl
    have y0 := ky.out.cell (i := 0) rfl
    have y1 := ky.out.cell (i := 1) rfl
    go_wp2_with fail
    clear x0 x1 y0 y1
    have hbr := below_new1 Vz (.cells #[.int .i64 a, .int .i64 b, .int .i64 c, .int .i64 d] 23)
    replace kx := Lib.hid (kx.out.keep hbr)
    replace ky := Lib.hid (ky.out.keep hbr)
    replace kz := Lib.hid (kz.out.keep hbr)
    have zr : (Vz.alloc (.cells #[.int .i64 a, .int .i64 b, .int .i64 c, .int .i64 d] 23)).heap.size = Vz.heap.size + 1 := by simp
    replace HB := Lib.hid (HB.out.trans (hbr.mono HB.out.size))
    have kr := Lib.hid (Lok.new Vz 23 #[.int .i64 a, .int .i64 b, .int .i64 c, .int .i64 d])
    clear hbr
    generalize Vz.alloc (.cells #[.int .i64 a, .int .i64 b, .int .i64 c, .int .i64 d] 23) = Vr at *
    clear zr
    generalize Vz.heap.size = gr at *
    (((with_reducible refine (I.out _ _ _ kr.out).mono ?_); rintro e w1 ⟨rfl, hb1⟩); replace HB := Lib.hid (HB.out.trans (hb1.mono HB.out.size)); replace kx := Lib.hid (kx.out.keep hb1); replace ky := Lib.hid (ky.out.keep hb1); replace kz := Lib.hid (kz.out.keep hb1); clear hb1)
    have x0 := kx.out.cell (i := 0) rfl
    have x1 := kx.out.cell (i := 1) rfl
    have y0 := ky.out.cell (i := 0) rfl
    have y1 := ky.out.cell (i := 1) rfl
    have z0 := kz.out.cell (i := 0) rfl
    have z1 := kz.out.cell (i := 1) rfl
    have f0 := kz.out.frozen 0
    have f1 := kz.out.frozen 1
    go_wp2_with fail
    exact bodyPost_ret (v := .agg #[.int .i64 (a - c), .int .i64 (b - d)]) (by simp [results, Try.results43, go_sem, z0, z1]) rfl ⟨rfl, (HB.out.setCell (by simp <;> omega) _).setCell (by simp <;> omega) _⟩

/-- A cross product, where both are near. -/
def xF (t : Bool) (a b c d : Int) : Int := if t = true then a * d - b * c else 0
set_option maxRecDepth 100000 in
set_option maxHeartbeats 1000000 in
theorem cross2_any (a b c d : Int) (w : World) :
    Calls Try.prog 71 #[.agg #[.int .i64 a, .int .i64 b], .agg #[.int .i64 c, .int .i64 d]] w fun e w' => e = .returned (.tuple #[.int .i64 (xF (n2 a b && n2 c d) a b c d), .int .i64 (rE (n2 a b && n2 c d))]) ∧ Below w.heap.size w w' := by
  have HB := Lib.hid (Below.refl w.heap.size w)
  cases ht : n2 a b && n2 c d with
  | false =>
    have I := Lib.hid (fun g T W h => is2_b a b c d false ht g T W h)
    rw [show xF false a b c d = 0 from rfl, show rE false = 5 from rfl]
    clear ht
    go_enter Try.func71, Try.ntmps71
    go_upto_region 1 with fail
    have hbx := below_new1 w (.cells #[.int .i64 a, .int .i64 b] 23)
    have zx : (w.alloc (.cells #[.int .i64 a, .int .i64 b] 23)).heap.size = w.heap.size + 1 := by simp
    have HB := Lib.hid hbx
    have kx := Lib.hid (Lok.new w 23 #[.int .i64 a, .int .i64 b])
    clear hbx
    generalize w.alloc (.cells #[.int .i64 a, .int .i64 b] 23) = Vx at *
    have hby := below_new1 Vx (.cells #[.int .i64 c, .int .i64 d] 23)
    replace kx := Lib.hid (kx.out.keep hby)
    have zy : (Vx.alloc (.cells #[.int .i64 c, .int .i64 d] 23)).heap.size = Vx.heap.size + 1 := by simp
    replace HB := Lib.hid (HB.out.trans (hby.mono HB.out.size))
    have ky := Lib.hid (Lok.new Vx 23 #[.int .i64 c, .int .i64 d])
    clear hby
    generalize Vx.alloc (.cells #[.int .i64 c, .int .i64 d] 23) = Vy at *
    rw [zx] at ky
    clear zx zy
    have x0 := kx.out.cell (i := 0) rfl
    have x1 := kx.out.cell (i := 1) rfl
    have y0 := ky.out.cell (i := 0) rfl
    have y1 := ky.out.cell (i := 1) rfl
    go_wp2_with fail
    clear x0 x1 y0 y1
    have hbr := below_new1 Vy (.cells #[.int .i64 a, .int .i64 b, .int .i64 c, .int .i64 d] 23)
    have zr : (Vy.alloc (.cells #[.int .i64 a, .int .i64 b, .int .i64 c, .int .i64 d] 23)).heap.size = Vy.heap.size + 1 := by simp
    replace HB := Lib.hid (HB.out.trans (hbr.mono HB.out.size))
    have kr := Lib.hid (Lok.new Vy 23 #[.int .i64 a, .int .i64 b, .int .i64 c, .int .i64 d])
    clear hbr
    generalize Vy.alloc (.cells #[.int .i64 a, .int .i64 b, .int .i64 c, .int .i64 d] 23) = Vr at *
    clear zr
    generalize Vy.heap.size = gr at *
    (((with_reducible refine (I.out _ _ _ kr.out).mono ?_); rintro e w1 ⟨rfl, hb1⟩); replace HB := Lib.hid (HB.out.trans (hb1.mono HB.out.size)); clear hb1)
    go_wp2
    go_ret2
    exact ⟨rfl, HB.out⟩
  | true =>
    have I := Lib.hid (fun g T W h => is2_b a b c d true ht g T W h)
    rw [Bool.and_eq_true] at ht
    have C := Lib.hid (fun W => cross_any a b c d W ht.1 ht.2)
    rw [show xF true a b c d = a * d - b * c from rfl, show rE true = 0 from rfl]
    clear ht
    generalize a * d - b * c = X at *
    go_enter Try.func71, Try.ntmps71
    go_upto_region 1 with fail
    have hbx := below_new1 w (.cells #[.int .i64 a, .int .i64 b] 23)
    have zx : (w.alloc (.cells #[.int .i64 a, .int .i64 b] 23)).heap.size = w.heap.size + 1 := by simp
    have HB := Lib.hid hbx
    have kx := Lib.hid (Lok.new w 23 #[.int .i64 a, .int .i64 b])
    clear hbx
    generalize w.alloc (.cells #[.int .i64 a, .int .i64 b] 23) = Vx at *
    have hby := below_new1 Vx (.cells #[.int .i64 c, .int .i64 d] 23)
    replace kx := Lib.hid (kx.out.keep hby)
    have zy : (Vx.alloc (.cells #[.int .i64 c, .int .i64 d] 23)).heap.size = Vx.heap.size + 1 := by simp
    replace HB := Lib.hid (HB.out.trans (hby.mono HB.out.size))
    have ky := Lib.hid (Lok.new Vx 23 #[.int .i64 c, .int .i64 d])
    clear hby
    generalize Vx.alloc (.cells #[.int .i64 c, .int .i64 d] 23) = Vy at *
    rw [zx] at ky
    clear zx zy
    have x0 := kx.out.cell (i := 0) rfl
    have x1 := kx.out.cell (i := 1) rfl
    have y0 := ky.out.cell (i := 0) rfl
    have y1 := ky.out.cell (i := 1) rfl
    go_wp2_with fail
    clear x0 x1 y0 y1
    have hbr := below_new1 Vy (.cells #[.int .i64 a, .int .i64 b, .int .i64 c, .int .i64 d] 23)
    replace kx := Lib.hid (kx.out.keep hbr)
    replace ky := Lib.hid (ky.out.keep hbr)
    have zr : (Vy.alloc (.cells #[.int .i64 a, .int .i64 b, .int .i64 c, .int .i64 d] 23)).heap.size = Vy.heap.size + 1 := by simp
    replace HB := Lib.hid (HB.out.trans (hbr.mono HB.out.size))
    have kr := Lib.hid (Lok.new Vy 23 #[.int .i64 a, .int .i64 b, .int .i64 c, .int .i64 d])
    clear hbr
    generalize Vy.alloc (.cells #[.int .i64 a, .int .i64 b, .int .i64 c, .int .i64 d] 23) = Vr at *
    clear zr
    generalize Vy.heap.size = gr at *
    (((with_reducible refine (I.out _ _ _ kr.out).mono ?_); rintro e w1 ⟨rfl, hb1⟩); replace HB := Lib.hid (HB.out.trans (hb1.mono HB.out.size)); replace kx := Lib.hid (kx.out.keep hb1); replace ky := Lib.hid (ky.out.keep hb1); clear hb1)
    have x0 := kx.out.cell (i := 0) rfl
    have x1 := kx.out.cell (i := 1) rfl
    have y0 := ky.out.cell (i := 0) rfl
    have y1 := ky.out.cell (i := 1) rfl
    go_wp2_with fail
    clear x0 x1 y0 y1
    (((with_reducible refine (C.out _).mono ?_); rintro e w2 ⟨rfl, hb2⟩); replace HB := Lib.hid (HB.out.trans (hb2.mono HB.out.size)); clear hb2)
    go_wp2
    go_ret2
    exact ⟨rfl, HB.out⟩

/-- Drop's answers. -/
def axB (k : Int) : Prop := 0 ≤ k ∧ k ≤ 2
instance (k : Int) : Decidable (axB k) := by unfold axB; infer_instance
def dpX (x y z k : Int) : Int := if axB k then dX x y z k.toNat else 0
def dpY (x y z k : Int) : Int := if axB k then dY x y z k.toNat else 0
def dpE (k : Int) : Int := if axB k then 0 else 1
end Go.Proofs.Ytllamakemgogaaa
/-
  Contracts of package vec: Dot.
-/
namespace Go.Proofs.Ytllamakemgogaaa
open Go.RowKit

/-- The sum of the first k products. -/
def dS (a b c d e f : Int) : Nat → Int
  | 0 => 0
  | k + 1 => dS a b c d e f k + pt a b c k * pt d e f k
def dF (t : Bool) (a b c d e f : Int) : Int := if t = true then a * d + b * e + c * f else 0
theorem dS_3 (a b c d e f : Int) : dS a b c d e f 3 = a * d + b * e + c * f := by simp [dS, pt]
theorem pt_near {a b c : Int} (ha : NR a) (hb : NR b) (hc : NR c) (k : Nat) : NR (pt a b c k) := by
  unfold pt; split
  · exact ha
  · split
    · exact hb
    · exact hc
theorem dS_bd {a b c d e f : Int} (ha : NR a) (hb : NR b) (hc : NR c) (hd : NR d) (he : NR e) (hf : NR f) (k : Nat) : -(1099511627776 * (k : Int)) ≤ dS a b c d e f k ∧ dS a b c d e f k ≤ 1099511627776 * (k : Int) := by
  induction k with
  | zero => exact ⟨by show _ ≤ (0 : Int); omega, by show (0 : Int) ≤ _; omega⟩
  | succ k ih =>
    have p := near_prod (pt_near ha hb hc k) (pt_near hd he hf k)
    show _ ≤ dS a b c d e f k + pt a b c k * pt d e f k ∧ dS a b c d e f k + pt a b c k * pt d e f k ≤ _
    omega
theorem pt_at (a b c : Int) {k : Nat} (h : k < 3) : (#[Value.int .i64 a, Value.int .i64 b, Value.int .i64 c] : Array Value)[k]? = some (.int .i64 (pt a b c k)) := by
  rcases show k = 0 ∨ k = 1 ∨ k = 2 by omega with rfl | rfl | rfl <;> rfl

end Go.Proofs.Ytllamakemgogaaa
/-
  Contracts of Go's library: cmp.Compare of two ints.
-/
namespace Go.Proofs.Ytllamakemgogaaa
open Go.RowKit

theorem isNaN_any (n : Int) (w : World) :
    Calls Try.prog 62 #[.int .i64 n] w fun e w' => e = .returned (.bool false) ∧ Below w.heap.size w w' := by
  go_enter Try.func62, Try.ntmps62
  go_wp2
  go_ret
  exact ⟨by simp, by (repeat (first | exact Below.refl _ _ | assumption | refine Below.drew ?_ | refine below_drewN ?_ _ | refine Below.setCell ?_ (by first | omega | (simp; done) | (simp; omega)) _ | refine Below.alloc ?_ (by first | omega | (simp; done) | (simp; omega)) _))⟩
set_option maxHeartbeats 400000 in
theorem compare_int (x y : Int) (w : World) :
    Calls Try.prog 40 #[.int .i64 x, .int .i64 y] w fun e w' => e = .returned (.int .i64 (ordI x y)) ∧ Below w.heap.size w w' := by
  rcases ordI_ways x y with ⟨h, e⟩ | ⟨h, e⟩ | ⟨h, e⟩ <;> rw [e] <;> clear e
  · have d1 : decide (x < y) = true := decide_eq_true h
    go_enter Try.func40, Try.ntmps40
    go_wp2_with fail
    (refine (isNaN_any _ _).mono ?_; rintro e w1 ⟨rfl, hb1⟩; have hB1 : Below w.heap.size w w1 := (by refine Below.trans ?_ (hb1.mono (by first | omega | (simp; done) | (simp; omega))); (repeat (first | exact Below.refl _ _ | assumption | refine Below.drew ?_ | refine below_drewN ?_ _ | refine Below.setCell ?_ (by first | omega | (simp; done) | (simp; omega)) _ | refine Below.alloc ?_ (by first | omega | (simp; done) | (simp; omega)) _))); have hsz1 : w.heap.size ≤ w1.heap.size := hB1.size)
    go_wp2_with fail
    (refine (isNaN_any _ _).mono ?_; rintro e w2 ⟨rfl, hb2⟩; have hB2 : Below w.heap.size w w2 := (by refine Below.trans ?_ (hb2.mono (by first | omega | (simp; done) | (simp; omega))); (repeat (first | exact Below.refl _ _ | assumption | refine Below.drew ?_ | refine below_drewN ?_ _ | refine Below.setCell ?_ (by first | omega | (simp; done) | (simp; omega)) _ | refine Below.alloc ?_ (by first | omega | (simp; done) | (simp; omega)) _))); have hsz2 : w.heap.size ≤ w2.heap.size := hB2.size)
    go_wp2
    go_ret
    exact ⟨rfl, by (repeat (first | exact Below.refl _ _ | assumption | refine Below.drew ?_ | refine below_drewN ?_ _ | refine Below.setCell ?_ (by first | omega | (simp; done) | (simp; omega)) _ | refine Below.alloc ?_ (by first | omega | (simp; done) | (simp; omega)) _))⟩
  · have d1 : decide (x < y) = false := decide_eq_false (by omega)
    have d2 : decide (y < x) = false := decide_eq_false (by omega)
    go_enter Try.func40, Try.ntmps40
    go_wp2_with fail
    (refine (isNaN_any _ _).mono ?_; rintro e w1 ⟨rfl, hb1⟩; have hB1 : Below w.heap.size w w1 := (by refine Below.trans ?_ (hb1.mono (by first | omega | (simp; done) | (simp; omega))); (repeat (first | exact Below.refl _ _ | assumption | refine Below.drew ?_ | refine below_drewN ?_ _ | refine Below.setCell ?_ (by first | omega | (simp; done) | (simp; omega)) _ | refine Below.alloc ?_ (by first | omega | (simp; done) | (simp; omega)) _))); have hsz1 : w.heap.size ≤ w1.heap.size := hB1.size)
    go_wp2_with fail
    (refine (isNaN_any _ _).mono ?_; rintro e w2 ⟨rfl, hb2⟩; have hB2 : Below w.heap.size w w2 := (by refine Below.trans ?_ (hb2.mono (by first | omega | (simp; done) | (simp; omega))); (repeat (first | exact Below.refl _ _ | assumption | refine Below.drew ?_ | refine below_drewN ?_ _ | refine Below.setCell ?_ (by first | omega | (simp; done) | (simp; omega)) _ | refine Below.alloc ?_ (by first | omega | (simp; done) | (simp; omega)) _))); have hsz2 : w.heap.size ≤ w2.heap.size := hB2.size)
    go_wp2
    go_ret
    exact ⟨rfl, by (repeat (first | exact Below.refl _ _ | assumption | refine Below.drew ?_ | refine below_drewN ?_ _ | refine Below.setCell ?_ (by first | omega | (simp; done) | (simp; omega)) _ | refine Below.alloc ?_ (by first | omega | (simp; done) | (simp; omega)) _))⟩
  · have d1 : decide (x < y) = false := decide_eq_false (by omega)
    have d2 : decide (y < x) = true := decide_eq_true h
    go_enter Try.func40, Try.ntmps40
    go_wp2_with fail
    (refine (isNaN_any _ _).mono ?_; rintro e w1 ⟨rfl, hb1⟩; have hB1 : Below w.heap.size w w1 := (by refine Below.trans ?_ (hb1.mono (by first | omega | (simp; done) | (simp; omega))); (repeat (first | exact Below.refl _ _ | assumption | refine Below.drew ?_ | refine below_drewN ?_ _ | refine Below.setCell ?_ (by first | omega | (simp; done) | (simp; omega)) _ | refine Below.alloc ?_ (by first | omega | (simp; done) | (simp; omega)) _))); have hsz1 : w.heap.size ≤ w1.heap.size := hB1.size)
    go_wp2_with fail
    (refine (isNaN_any _ _).mono ?_; rintro e w2 ⟨rfl, hb2⟩; have hB2 : Below w.heap.size w w2 := (by refine Below.trans ?_ (hb2.mono (by first | omega | (simp; done) | (simp; omega))); (repeat (first | exact Below.refl _ _ | assumption | refine Below.drew ?_ | refine below_drewN ?_ _ | refine Below.setCell ?_ (by first | omega | (simp; done) | (simp; omega)) _ | refine Below.alloc ?_ (by first | omega | (simp; done) | (simp; omega)) _))); have hsz2 : w.heap.size ≤ w2.heap.size := hB2.size)
    go_wp2
    go_ret
    exact ⟨rfl, by (repeat (first | exact Below.refl _ _ | assumption | refine Below.drew ?_ | refine below_drewN ?_ _ | refine Below.setCell ?_ (by first | omega | (simp; done) | (simp; omega)) _ | refine Below.alloc ?_ (by first | omega | (simp; done) | (simp; omega)) _))⟩
end Go.Proofs.Ytllamakemgogaaa
/-
  A region that draws its order, walked once in the order of the text, over a class of worlds that every callee's contract keeps.
-/
namespace Go.Proofs.Ytllamakemgogaaa
open Go.RowKit

/-- The class: what keeps S where nothing that was there has turned. -/
def Stays (S : World → Prop) : Prop := ∀ W W' : World, S W → Below W.heap.size W W' → S W'
/-- A world of the class. -/
structure Of (S : World → Prop) where
  world : World
  holds : S world

theorem wp_region_class {P : Program} {S : World → Prop} {id : Nat} {Q : Exit → Act → World → Prop} {a : Act} {w : World} {l : List Oper} (hm : P.follows .mixedOrders = true) (hB : Region.lexB .any l.toArray = true) (hS : S w.drew)
    (h : wpQuiet P l.toArray (fun w' => ∃ d : Of S, w' = d.world) (fun a' => ∀ w', (∃ d : Of S, w' = d.world) → Q .normal a' w') l a) : (Code.region id l.toArray true).wp P Q a w :=
  wp_region_quiet (C := fun w' => ∃ d : Of S, w' = d.world) hm hB ⟨⟨_, hS⟩, rfl⟩ (by simpa using h)

theorem class_call {P : Program} {S : World → Prop} {f : FuncId} {args : Array Value} {v : Value} (hst : Stays S) (d : Of S)
    (h : Calls P f args d.world fun e w' => e = .returned v ∧ Below d.world.heap.size d.world w') : Calls P f args d.world fun e w'' => e = .returned v ∧ ∃ d' : Of S, w'' = d'.world :=
  h.mono fun _ w' ⟨he, hb⟩ => ⟨he, ⟨w', hst d.world w' d.holds hb⟩, rfl⟩
end Go.Proofs.Ytllamakemgogaaa
/-
  Contracts of package vec: Axis, Less3.
-/
namespace Go.Proofs.Ytllamakemgogaaa
open Go.RowKit

def PastV (V W : World) : Prop := Below V.heap.size V W
theorem pastV_stays (V : World) : Stays (PastV V) := fun _ _ h hb => Below.trans h (hb.mono (Below.size h))

/-- A number's other side, or itself, that is not above 0. -/
def bl (n : Int) : Int := -(n.natAbs : Int)
/-- The place of the part that is farthest from 0, of the first k. -/
def axF (a b c : Int) : Nat → Nat
  | 0 => 0
  | k + 1 => if bl (pt a b c k) < bl (pt a b c (axF a b c k)) then k else axF a b c k
theorem axF_lt (a b c : Int) (k : Nat) : axF a b c k ≤ k - 1 := by
  induction k with
  | zero => exact Nat.le_refl _
  | succ k ih => unfold axF; split <;> omega
theorem axF_take {a b c : Int} {k : Nat} (h : bl (pt a b c k) < bl (pt a b c (axF a b c k))) : axF a b c (k + 1) = k := by show (if _ then _ else _) = _; rw [if_pos h]
theorem axF_keep {a b c : Int} {k : Nat} (h : ¬ bl (pt a b c k) < bl (pt a b c (axF a b c k))) : axF a b c (k + 1) = axF a b c k := by show (if _ then _ else _) = _; rw [if_neg h]
def I64 (n : Int) : Prop := -9223372036854775808 ≤ n ∧ n ≤ 9223372036854775807
theorem pt_i64 {a b c : Int} (ha : I64 a) (hb : I64 b) (hc : I64 c) (k : Nat) : I64 (pt a b c k) := by
  unfold pt; split
  · exact ha
  · split
    · exact hb
    · exact hc

end Go.Proofs.Ytllamakemgogaaa
/-
  The reference limewashref04: near, Is2, Is3, Sub2, Sub3, Dot, Cross2, Cross3.
-/
namespace Go.Proofs.Ytllamakemgogaaa
open Go.RowKit

set_option maxRecDepth 100000 in
set_option maxHeartbeats 1000000 in
theorem rnear_any (n : Int) (w : World) :
    Calls Try.prog 80 #[.int .i64 n] w fun e w' => e = .returned (.bool (nB n)) ∧ Below w.heap.size w w' := by
  by_cases h1 : -1048576 ≤ n
  · by_cases h2 : n ≤ 1048576
    · rw [show nB n = true from nB_iff.2 ⟨h1, h2⟩]
      go_enter Try.func80, Try.ntmps80
      go_wp2
      go_ret
      exact ⟨rfl, by (repeat (first | exact Below.refl _ _ | assumption | refine Below.drew ?_ | refine below_drewN ?_ _ | refine Below.setCell ?_ (by first | omega | (simp; done) | (simp; omega)) _ | refine Below.alloc ?_ (by first | omega | (simp; done) | (simp; omega)) _))⟩
    · rw [show nB n = false from nB_not.2 (fun h => h2 h.2)]
      have d2 : decide (n ≤ 1048576) = false := decide_eq_false h2
      go_enter Try.func80, Try.ntmps80
      go_wp2
      go_ret
      exact ⟨rfl, by (repeat (first | exact Below.refl _ _ | assumption | refine Below.drew ?_ | refine below_drewN ?_ _ | refine Below.setCell ?_ (by first | omega | (simp; done) | (simp; omega)) _ | refine Below.alloc ?_ (by first | omega | (simp; done) | (simp; omega)) _))⟩
  · rw [show nB n = false from nB_not.2 (fun h => h1 h.1)]
    have d1 : decide (-1048576 ≤ n) = false := decide_eq_false h1
    go_enter Try.func80, Try.ntmps80
    go_wp2
    go_ret
    exact ⟨rfl, by (repeat (first | exact Below.refl _ _ | assumption | refine Below.drew ?_ | refine below_drewN ?_ _ | refine Below.setCell ?_ (by first | omega | (simp; done) | (simp; omega)) _ | refine Below.alloc ?_ (by first | omega | (simp; done) | (simp; omega)) _))⟩
set_option maxRecDepth 100000 in
set_option maxHeartbeats 1000000 in
theorem ris2_any (a b : Int) (w : World) :
    Calls Try.prog 66 #[.agg #[.int .i64 a, .int .i64 b]] w fun e w' => e = .returned (.bool (n2 a b)) ∧ Below w.heap.size w w' := by
  have HB := Lib.hid (Below.refl w.heap.size w)
  unfold n2
  have Na := Lib.hid (fun W => rnear_any a W)
  have Nb := Lib.hid (fun W => rnear_any b W)
  generalize nB a = pa at *
  generalize nB b = pb at *
  cases pa with
  | false =>
    go_enter Try.func66, Try.ntmps66
    go_upto_region 1 with fail
    have hbx := below_new1 w (.cells #[.int .i64 a, .int .i64 b] 23)
    have zx : (w.alloc (.cells #[.int .i64 a, .int .i64 b] 23)).heap.size = w.heap.size + 1 := by simp
    have HB := Lib.hid hbx
    have kx := Lib.hid (Lok.new w 23 #[.int .i64 a, .int .i64 b])
    clear hbx
    generalize w.alloc (.cells #[.int .i64 a, .int .i64 b] 23) = Vx at *
    clear zx
    have x0 := kx.out.cell (i := 0) rfl
    go_wp2_with fail
    clear x0
    (((with_reducible refine (Na.out _).mono ?_); rintro e w1 ⟨rfl, hb1⟩); replace HB := Lib.hid (HB.out.trans (hb1.mono HB.out.size)); replace kx := Lib.hid (kx.out.keep hb1); clear hb1)
    go_wp2
    go_ret
    exact ⟨rfl, HB.out⟩
  | true =>
    cases pb with
    | false =>
      go_enter Try.func66, Try.ntmps66
      go_upto_region 1 with fail
      have hbx := below_new1 w (.cells #[.int .i64 a, .int .i64 b] 23)
      have zx : (w.alloc (.cells #[.int .i64 a, .int .i64 b] 23)).heap.size = w.heap.size + 1 := by simp
      have HB := Lib.hid hbx
      have kx := Lib.hid (Lok.new w 23 #[.int .i64 a, .int .i64 b])
      clear hbx
      generalize w.alloc (.cells #[.int .i64 a, .int .i64 b] 23) = Vx at *
      clear zx
      have x0 := kx.out.cell (i := 0) rfl
      go_wp2_with fail
      clear x0
      (((with_reducible refine (Na.out _).mono ?_); rintro e w1 ⟨rfl, hb1⟩); replace HB := Lib.hid (HB.out.trans (hb1.mono HB.out.size)); replace kx := Lib.hid (kx.out.keep hb1); clear hb1)
      have x1 := kx.out.cell (i := 1) rfl
      go_wp2_with fail
      clear x1
      (((with_reducible refine (Nb.out _).mono ?_); rintro e w2 ⟨rfl, hb2⟩); replace HB := Lib.hid (HB.out.trans (hb2.mono HB.out.size)); replace kx := Lib.hid (kx.out.keep hb2); clear hb2)
      go_wp2
      go_ret
      exact ⟨rfl, HB.out⟩
    | true =>
      go_enter Try.func66, Try.ntmps66
      go_upto_region 1 with fail
      have hbx := below_new1 w (.cells #[.int .i64 a, .int .i64 b] 23)
      have zx : (w.alloc (.cells #[.int .i64 a, .int .i64 b] 23)).heap.size = w.heap.size + 1 := by simp
      have HB := Lib.hid hbx
      have kx := Lib.hid (Lok.new w 23 #[.int .i64 a, .int .i64 b])
      clear hbx
      generalize w.alloc (.cells #[.int .i64 a, .int .i64 b] 23) = Vx at *
      clear zx
      have x0 := kx.out.cell (i := 0) rfl
      go_wp2_with fail
      clear x0
      (((with_reducible refine (Na.out _).mono ?_); rintro e w1 ⟨rfl, hb1⟩); replace HB := Lib.hid (HB.out.trans (hb1.mono HB.out.size)); replace kx := Lib.hid (kx.out.keep hb1); clear hb1)
      have x1 := kx.out.cell (i := 1) rfl
      go_wp2_with fail
      clear x1
      (((with_reducible refine (Nb.out _).mono ?_); rintro e w2 ⟨rfl, hb2⟩); replace HB := Lib.hid (HB.out.trans (hb2.mono HB.out.size)); replace kx := Lib.hid (kx.out.keep hb2); clear hb2)
      go_wp2
      go_ret
      exact ⟨rfl, HB.out⟩
set_option maxRecDepth 100000 in
set_option maxHeartbeats 1000000 in
theorem rsub2_any (a b c d : Int) (w : World) :
    Calls Try.prog 47 #[.agg #[.int .i64 a, .int .i64 b], .agg #[.int .i64 c, .int .i64 d]] w fun e' w' => e' = .returned (.agg #[.int .i64 (sF (n2 a b && n2 c d) a c), .int .i64 (sF (n2 a b && n2 c d) b d)]) ∧ Below w.heap.size w w' := by
  have HB := Lib.hid (Below.refl w.heap.size w)
  have I1 := Lib.hid (fun W => ris2_any a b W)
  have I2 := Lib.hid (fun W => ris2_any c d W)
  cases h1 : n2 a b with
  | false =>
    rw [h1] at I1
    show Calls _ _ _ _ fun e' w' => e' = .returned (.agg #[.int .i64 0, .int .i64 0]) ∧ _
    clear h1
    go_enter Try.func47, Try.ntmps47
    go_upto_region 1 with fail
    have hbx := below_new1 w (.cells #[.int .i64 a, .int .i64 b] 23)
    have zx : (w.alloc (.cells #[.int .i64 a, .int .i64 b] 23)).heap.size = w.heap.size + 1 := by simp
    have HB := Lib.hid hbx
    have kx := Lib.hid (Lok.new w 23 #[.int .i64 a, .int .i64 b])
    clear hbx
    generalize w.alloc (.cells #[.int .i64 a, .int .i64 b] 23) = Vx at *
    have hby := below_new1 Vx (.cells #[.int .i64 c, .int .i64 d] 23)
    replace kx := Lib.hid (kx.out.keep hby)
    have zy : (Vx.alloc (.cells #[.int .i64 c, .int .i64 d] 23)).heap.size = Vx.heap.size + 1 := by simp
    replace HB := Lib.hid (HB.out.trans (hby.mono HB.out.size))
    have ky := Lib.hid (Lok.new Vx 23 #[.int .i64 c, .int .i64 d])
    clear hby
    generalize Vx.alloc (.cells #[.int .i64 c, .int .i64 d] 23) = Vy at *
    rw [zx] at ky zy
    have hbz := below_new1 Vy (.cells #[.int .i64 0, .int .i64 0] 23)
    replace kx := Lib.hid (kx.out.keep hbz)
    replace ky := Lib.hid (ky.out.keep hbz)
    have zz : (Vy.alloc (.cells #[.int .i64 0, .int .i64 0] 23)).heap.size = Vy.heap.size + 1 := by simp
    replace HB := Lib.hid (HB.out.trans (hbz.mono HB.out.size))
    have kz := Lib.hid (Lok.new Vy 23 #[.int .i64 0, .int .i64 0])
    clear hbz
    generalize Vy.alloc (.cells #[.int .i64 0, .int .i64 0] 23) = Vz at *
    rw [zy] at kz
    clear zx zy zz
    have x0 := kx.out.cell (i := 0) rfl
    have x1 := kx.out.cell (i := 1) rfl
    go_wp2_with fail
    clear x0 x1
    (((with_reducible refine (I1.out _).mono ?_); rintro e w1 ⟨rfl, hb1⟩); replace HB := Lib.hid (HB.out.trans (hb1.mono HB.out.size)); replace kx := Lib.hid (kx.out.keep hb1); replace ky := Lib.hid (ky.out.keep hb1); replace kz := Lib.hid (kz.out.keep hb1); clear hb1)
    have z0 := kz.out.cell (i := 0) rfl
    have z1 := kz.out.cell (i := 1) rfl
    have f0 := kz.out.frozen 0
    have f1 := kz.out.frozen 1
    go_wp2_with fail
    exact bodyPost_ret (v := .agg #[.int .i64 0, .int .i64 0]) (by simp [results, Try.results47, go_sem, z0, z1]) rfl ⟨rfl, (HB.out.setCell (by simp <;> omega) _).setCell (by simp <;> omega) _⟩
  | true =>
    rw [h1] at I1
    cases h2 : n2 c d with
    | false =>
      rw [h2] at I2
      show Calls _ _ _ _ fun e' w' => e' = .returned (.agg #[.int .i64 0, .int .i64 0]) ∧ _
      clear h1 h2
      go_enter Try.func47, Try.ntmps47
      go_upto_region 1 with fail
      have hbx := below_new1 w (.cells #[.int .i64 a, .int .i64 b] 23)
      have zx : (w.alloc (.cells #[.int .i64 a, .int .i64 b] 23)).heap.size = w.heap.size + 1 := by simp
      have HB := Lib.hid hbx
      have kx := Lib.hid (Lok.new w 23 #[.int .i64 a, .int .i64 b])
      clear hbx
      generalize w.alloc (.cells #[.int .i64 a, .int .i64 b] 23) = Vx at *
      have hby := below_new1 Vx (.cells #[.int .i64 c, .int .i64 d] 23)
      replace kx := Lib.hid (kx.out.keep hby)
      have zy : (Vx.alloc (.cells #[.int .i64 c, .int .i64 d] 23)).heap.size = Vx.heap.size + 1 := by simp
      replace HB := Lib.hid (HB.out.trans (hby.mono HB.out.size))
      have ky := Lib.hid (Lok.new Vx 23 #[.int .i64 c, .int .i64 d])
      clear hby
      generalize Vx.alloc (.cells #[.int .i64 c, .int .i64 d] 23) = Vy at *
      rw [zx] at ky zy
      have hbz := below_new1 Vy (.cells #[.int .i64 0, .int .i64 0] 23)
      replace kx := Lib.hid (kx.out.keep hbz)
      replace ky := Lib.hid (ky.out.keep hbz)
      have zz : (Vy.alloc (.cells #[.int .i64 0, .int .i64 0] 23)).heap.size = Vy.heap.size + 1 := by simp
      replace HB := Lib.hid (HB.out.trans (hbz.mono HB.out.size))
      have kz := Lib.hid (Lok.new Vy 23 #[.int .i64 0, .int .i64 0])
      clear hbz
      generalize Vy.alloc (.cells #[.int .i64 0, .int .i64 0] 23) = Vz at *
      rw [zy] at kz
      clear zx zy zz
      have x0 := kx.out.cell (i := 0) rfl
      have x1 := kx.out.cell (i := 1) rfl
      go_wp2_with fail
      clear x0 x1
      (((with_reducible refine (I1.out _).mono ?_); rintro e w1 ⟨rfl, hb1⟩); replace HB := Lib.hid (HB.out.trans (hb1.mono HB.out.size)); replace kx := Lib.hid (kx.out.keep hb1); replace ky := Lib.hid (ky.out.keep hb1); replace kz := Lib.hid (kz.out.keep hb1); clear hb1)
      have y0 := ky.out.cell (i := 0) rfl
      have y1 := ky.out.cell (i := 1) rfl
      go_wp2_with fail
      clear y0 y1
      (((with_reducible refine (I2.out _).mono ?_); rintro e w2 ⟨rfl, hb2⟩); replace HB := Lib.hid (HB.out.trans (hb2.mono HB.out.size)); replace kx := Lib.hid (kx.out.keep hb2); replace ky := Lib.hid (ky.out.keep hb2); replace kz := Lib.hid (kz.out.keep hb2); clear hb2)
      have z0 := kz.out.cell (i := 0) rfl
      have z1 := kz.out.cell (i := 1) rfl
      have f0 := kz.out.frozen 0
      have f1 := kz.out.frozen 1
      go_wp2_with fail
      exact bodyPost_ret (v := .agg #[.int .i64 0, .int .i64 0]) (by simp [results, Try.results47, go_sem, z0, z1]) rfl ⟨rfl, (HB.out.setCell (by simp <;> omega) _).setCell (by simp <;> omega) _⟩
    | true =>
      rw [h2] at I2
      show Calls _ _ _ _ fun e' w' => e' = .returned (.agg #[.int .i64 (a - c), .int .i64 (b - d)]) ∧ _
      rw [n2_iff] at h1 h2
      have e1 := sub_wrap h1.1 h2.1
      have e2 := sub_wrap h1.2 h2.2
      clear h1 h2
      go_enter Try.func47, Try.ntmps47
      go_upto_region 1 with fail
      have hbx := below_new1 w (.cells #[.int .i64 a, .int .i64 b] 23)
      have zx : (w.alloc (.cells #[.int .i64 a, .int .i64 b] 23)).heap.size = w.heap.size + 1 := by simp
      have HB := Lib.hid hbx
      have kx := Lib.hid (Lok.new w 23 #[.int .i64 a, .int .i64 b])
      clear hbx
      generalize w.alloc (.cells #[.int .i64 a, .int .i64 b] 23) = Vx at *
      have hby := below_new1 Vx (.cells #[.int .i64 c, .int .i64 d] 23)
      replace kx := Lib.hid (kx.out.keep hby)
      have zy : (Vx.alloc (.cells #[.int .i64 c, .int .i64 d] 23)).heap.size = Vx.heap.size + 1 := by simp
      replace HB := Lib.hid (HB.out.trans (hby.mono HB.out.size))
      have ky := Lib.hid (Lok.new Vx 23 #[.int .i64 c, .int .i64 d])
      clear hby
      generalize Vx.alloc (.cells #[.int .i64 c, .int .i64 d] 23) = Vy at *
      rw [zx] at ky zy
      have hbz := below_new1 Vy (.cells #[.int .i64 0, .int .i64 0] 23)
      replace kx := Lib.hid (kx.out.keep hbz)
      replace ky := Lib.hid (ky.out.keep hbz)
      have zz : (Vy.alloc (.cells #[.int .i64 0, .int .i64 0] 23)).heap.size = Vy.heap.size + 1 := by simp
      replace HB := Lib.hid (HB.out.trans (hbz.mono HB.out.size))
      have kz := Lib.hid (Lok.new Vy 23 #[.int .i64 0, .int .i64 0])
      clear hbz
      generalize Vy.alloc (.cells #[.int .i64 0, .int .i64 0] 23) = Vz at *
      rw [zy] at kz
      clear zx zy zz
      have x0 := kx.out.cell (i := 0) rfl
      have x1 := kx.out.cell (i := 1) rfl
      go_wp2_with fail
      clear x0 x1
      (((with_reducible refine (I1.out _).mono ?_); rintro e w1 ⟨rfl, hb1⟩); replace HB := Lib.hid (HB.out.trans (hb1.mono HB.out.size)); replace kx := Lib.hid (kx.out.keep hb1); replace ky := Lib.hid (ky.out.keep hb1); replace kz := Lib.hid (kz.out.keep hb1); clear hb1)
      have y0 := ky.out.cell (i := 0) rfl
      have y1 := ky.out.cell (i := 1) rfl
      go_wp2_with fail
      clear y0 y1
      (((with_reducible refine (I2.out _).mono ?_); rintro e w2 ⟨rfl, hb2⟩); replace HB := Lib.hid (HB.out.trans (hb2.mono HB.out.size)); replace kx := Lib.hid (kx.out.keep hb2); replace ky := Lib.hid (ky.out.keep hb2); replace kz := Lib.hid (kz.out.keep hb2); clear hb2)
      have x0 := kx.out.cell (i := 0) rfl
      have x1 := kx.out.cell (i := 1) rfl
      have y0 := ky.out.cell (i := 0) rfl
      have y1 := ky.out.cell (i := 1) rfl
      have z0 := kz.out.cell (i := 0) rfl
      have z1 := kz.out.cell (i := 1) rfl
      have f0 := kz.out.frozen 0
      have f1 := kz.out.frozen 1
      go_wp2_with fail
      exact bodyPost_ret (v := .agg #[.int .i64 (a - c), .int .i64 (b - d)]) (by simp [results, Try.results47, go_sem, z0, z1]) rfl ⟨rfl, (HB.out.setCell (by simp <;> omega) _).setCell (by simp <;> omega) _⟩
theorem dot_wraps {a b c d e f : Int} (ha : NR a) (hb : NR b) (hc : NR c) (hd : NR d) (he : NR e) (hf : NR f) :
    IntKind.i64.wrap (a * d) = a * d ∧ IntKind.i64.wrap (b * e) = b * e ∧ IntKind.i64.wrap (c * f) = c * f ∧ IntKind.i64.wrap (a * d + b * e) = a * d + b * e ∧ IntKind.i64.wrap (a * d + b * e + c * f) = a * d + b * e + c * f := by
  have p := near_prod ha hd
  have q := near_prod hb he
  have r := near_prod hc hf
  exact ⟨IntWalk.i64_in _ (by omega), IntWalk.i64_in _ (by omega), IntWalk.i64_in _ (by omega), IntWalk.i64_in _ (by omega), IntWalk.i64_in _ (by omega)⟩
set_option maxRecDepth 100000 in
set_option maxHeartbeats 1000000 in
theorem rcross2_any (a b c d : Int) (w : World) :
    Calls Try.prog 46 #[.agg #[.int .i64 a, .int .i64 b], .agg #[.int .i64 c, .int .i64 d]] w fun e' w' => e' = .returned (.tuple #[.int .i64 (xF (n2 a b && n2 c d) a b c d), .int .i64 (rE (n2 a b && n2 c d))]) ∧ Below w.heap.size w w' := by
  have HB := Lib.hid (Below.refl w.heap.size w)
  have I1 := Lib.hid (fun W => ris2_any a b W)
  have I2 := Lib.hid (fun W => ris2_any c d W)
  cases h1 : n2 a b with
  | false =>
    rw [h1] at I1
    show Calls _ _ _ _ fun e' w' => e' = .returned (.tuple #[.int .i64 0, .int .i64 5]) ∧ _
    clear h1
    go_enter Try.func46, Try.ntmps46
    go_upto_region 1 with fail
    have hbx := below_new1 w (.cells #[.int .i64 a, .int .i64 b] 23)
    have zx : (w.alloc (.cells #[.int .i64 a, .int .i64 b] 23)).heap.size = w.heap.size + 1 := by simp
    have HB := Lib.hid hbx
    have kx := Lib.hid (Lok.new w 23 #[.int .i64 a, .int .i64 b])
    clear hbx
    generalize w.alloc (.cells #[.int .i64 a, .int .i64 b] 23) = Vx at *
    have hby := below_new1 Vx (.cells #[.int .i64 c, .int .i64 d] 23)
    replace kx := Lib.hid (kx.out.keep hby)
    have zy : (Vx.alloc (.cells #[.int .i64 c, .int .i64 d] 23)).heap.size = Vx.heap.size + 1 := by simp
    replace HB := Lib.hid (HB.out.trans (hby.mono HB.out.size))
    have ky := Lib.hid (Lok.new Vx 23 #[.int .i64 c, .int .i64 d])
    clear hby
    generalize Vx.alloc (.cells #[.int .i64 c, .int .i64 d] 23) = Vy at *
    rw [zx] at ky
    clear zx zy
    have x0 := kx.out.cell (i := 0) rfl
    have x1 := kx.out.cell (i := 1) rfl
    go_wp2_with fail
    clear x0 x1
    (((with_reducible refine (I1.out _).mono ?_); rintro e w1 ⟨rfl, hb1⟩); replace HB := Lib.hid (HB.out.trans (hb1.mono HB.out.size)); replace kx := Lib.hid (kx.out.keep hb1); replace ky := Lib.hid (ky.out.keep hb1); clear hb1)
    go_wp2
    go_ret2
    exact ⟨rfl, HB.out⟩
  | true =>
    rw [h1] at I1
    cases h2 : n2 c d with
    | false =>
      rw [h2] at I2
      show Calls _ _ _ _ fun e' w' => e' = .returned (.tuple #[.int .i64 0, .int .i64 5]) ∧ _
      clear h1 h2
      go_enter Try.func46, Try.ntmps46
      go_upto_region 1 with fail
      have hbx := below_new1 w (.cells #[.int .i64 a, .int .i64 b] 23)
      have zx : (w.alloc (.cells #[.int .i64 a, .int .i64 b] 23)).heap.size = w.heap.size + 1 := by simp
      have HB := Lib.hid hbx
      have kx := Lib.hid (Lok.new w 23 #[.int .i64 a, .int .i64 b])
      clear hbx
      generalize w.alloc (.cells #[.int .i64 a, .int .i64 b] 23) = Vx at *
      have hby := below_new1 Vx (.cells #[.int .i64 c, .int .i64 d] 23)
      replace kx := Lib.hid (kx.out.keep hby)
      have zy : (Vx.alloc (.cells #[.int .i64 c, .int .i64 d] 23)).heap.size = Vx.heap.size + 1 := by simp
      replace HB := Lib.hid (HB.out.trans (hby.mono HB.out.size))
      have ky := Lib.hid (Lok.new Vx 23 #[.int .i64 c, .int .i64 d])
      clear hby
      generalize Vx.alloc (.cells #[.int .i64 c, .int .i64 d] 23) = Vy at *
      rw [zx] at ky
      clear zx zy
      have x0 := kx.out.cell (i := 0) rfl
      have x1 := kx.out.cell (i := 1) rfl
      go_wp2_with fail
      clear x0 x1
      (((with_reducible refine (I1.out _).mono ?_); rintro e w1 ⟨rfl, hb1⟩); replace HB := Lib.hid (HB.out.trans (hb1.mono HB.out.size)); replace kx := Lib.hid (kx.out.keep hb1); replace ky := Lib.hid (ky.out.keep hb1); clear hb1)
      have y0 := ky.out.cell (i := 0) rfl
      have y1 := ky.out.cell (i := 1) rfl
      go_wp2_with fail
      clear y0 y1
      (((with_reducible refine (I2.out _).mono ?_); rintro e w2 ⟨rfl, hb2⟩); replace HB := Lib.hid (HB.out.trans (hb2.mono HB.out.size)); replace kx := Lib.hid (kx.out.keep hb2); replace ky := Lib.hid (ky.out.keep hb2); clear hb2)
      go_wp2
      go_ret2
      exact ⟨rfl, HB.out⟩
    | true =>
      rw [h2] at I2
      show Calls _ _ _ _ fun e' w' => e' = .returned (.tuple #[.int .i64 (a * d - b * c), .int .i64 0]) ∧ _
      rw [n2_iff] at h1 h2
      obtain ⟨e1, e2, e3⟩ := cross_wraps h1.1 h1.2 h2.1 h2.2
      clear h1 h2
      go_enter Try.func46, Try.ntmps46
      go_upto_region 1 with fail
      have hbx := below_new1 w (.cells #[.int .i64 a, .int .i64 b] 23)
      have zx : (w.alloc (.cells #[.int .i64 a, .int .i64 b] 23)).heap.size = w.heap.size + 1 := by simp
      have HB := Lib.hid hbx
      have kx := Lib.hid (Lok.new w 23 #[.int .i64 a, .int .i64 b])
      clear hbx
      generalize w.alloc (.cells #[.int .i64 a, .int .i64 b] 23) = Vx at *
      have hby := below_new1 Vx (.cells #[.int .i64 c, .int .i64 d] 23)
      replace kx := Lib.hid (kx.out.keep hby)
      have zy : (Vx.alloc (.cells #[.int .i64 c, .int .i64 d] 23)).heap.size = Vx.heap.size + 1 := by simp
      replace HB := Lib.hid (HB.out.trans (hby.mono HB.out.size))
      have ky := Lib.hid (Lok.new Vx 23 #[.int .i64 c, .int .i64 d])
      clear hby
      generalize Vx.alloc (.cells #[.int .i64 c, .int .i64 d] 23) = Vy at *
      rw [zx] at ky
      clear zx zy
      have x0 := kx.out.cell (i := 0) rfl
      have x1 := kx.out.cell (i := 1) rfl
      go_wp2_with fail
      clear x0 x1
      (((with_reducible refine (I1.out _).mono ?_); rintro e w1 ⟨rfl, hb1⟩); replace HB := Lib.hid (HB.out.trans (hb1.mono HB.out.size)); replace kx := Lib.hid (kx.out.keep hb1); replace ky := Lib.hid (ky.out.keep hb1); clear hb1)
      have y0 := ky.out.cell (i := 0) rfl
      have y1 := ky.out.cell (i := 1) rfl
      go_wp2_with fail
      clear y0 y1
      (((with_reducible refine (I2.out _).mono ?_); rintro e w2 ⟨rfl, hb2⟩); replace HB := Lib.hid (HB.out.trans (hb2.mono HB.out.size)); replace kx := Lib.hid (kx.out.keep hb2); replace ky := Lib.hid (ky.out.keep hb2); clear hb2)
      have x0 := kx.out.cell (i := 0) rfl
      have x1 := kx.out.cell (i := 1) rfl
      have y0 := ky.out.cell (i := 0) rfl
      have y1 := ky.out.cell (i := 1) rfl
      go_wp2
      go_ret2
      exact ⟨rfl, HB.out⟩
end Go.Proofs.Ytllamakemgogaaa
/-
  Contracts of package sign: side, the methods of a plane, Area, Side. (gen/SgB.py)
-/
namespace Go.Proofs.Ytllamakemgogaaa
open Go.RowKit

set_option maxHeartbeats 1000000 in
theorem side_any (n : Int) (w : World) :
    Calls Try.prog 58 #[.int .i64 n] w fun e w' => e = .returned (.int .i64 (ordI n 0)) ∧ Below w.heap.size w w' := by
  have HB := Lib.hid (Below.refl w.heap.size w)
  have C := Lib.hid (fun W => compare_int n 0 W)
  go_enter Try.func58, Try.ntmps58
  go_wp2_with fail
  (((with_reducible refine (C.out _).mono ?_); rintro e w1 ⟨rfl, hb1⟩); replace HB := Lib.hid (HB.out.trans (hb1.mono HB.out.size)); clear hb1)
  go_wp2
  go_ret
  exact ⟨rfl, HB.out⟩

theorem sub2_sm {a b c d : Int} (h : s2 a b = true) (k : s2 c d = true) (w : World) :
    Calls Try.prog 43 #[.agg #[.int .i64 c, .int .i64 d], .agg #[.int .i64 a, .int .i64 b]] w fun e w' => e = .returned (.agg #[.int .i64 (c - a), .int .i64 (d - b)]) ∧ Below w.heap.size w w' := by
  have q := sub2_any c d a b w
  rw [n2_of h, n2_of k] at q
  exact q
theorem cross2_sm {a1 a2 b1 b2 c1 c2 : Int} (ha : s2 a1 a2 = true) (hb : s2 b1 b2 = true) (hc : s2 c1 c2 = true) (w : World) :
    Calls Try.prog 71 #[.agg #[.int .i64 (b1 - a1), .int .i64 (b2 - a2)], .agg #[.int .i64 (c1 - a1), .int .i64 (c2 - a2)]] w fun e w' => e = .returned (.tuple #[.int .i64 (ar a1 a2 b1 b2 c1 c2), .int .i64 0]) ∧ Below w.heap.size w w' := by
  have q := cross2_any (b1 - a1) (b2 - a2) (c1 - a1) (c2 - a2) w
  rw [n2_d ha hb, n2_d ha hc] at q
  exact q
theorem rsub2_sm {a b c d : Int} (h : s2 a b = true) (k : s2 c d = true) (w : World) :
    Calls Try.prog 47 #[.agg #[.int .i64 c, .int .i64 d], .agg #[.int .i64 a, .int .i64 b]] w fun e w' => e = .returned (.agg #[.int .i64 (c - a), .int .i64 (d - b)]) ∧ Below w.heap.size w w' := by
  have q := rsub2_any c d a b w
  rw [n2_of h, n2_of k] at q
  exact q
theorem rcross2_sm {a1 a2 b1 b2 c1 c2 : Int} (ha : s2 a1 a2 = true) (hb : s2 b1 b2 = true) (hc : s2 c1 c2 = true) (w : World) :
    Calls Try.prog 46 #[.agg #[.int .i64 (b1 - a1), .int .i64 (b2 - a2)], .agg #[.int .i64 (c1 - a1), .int .i64 (c2 - a2)]] w fun e w' => e = .returned (.tuple #[.int .i64 (ar a1 a2 b1 b2 c1 c2), .int .i64 0]) ∧ Below w.heap.size w w' := by
  have q := rcross2_any (b1 - a1) (b2 - a2) (c1 - a1) (c2 - a2) w
  rw [n2_d ha hb, n2_d ha hc] at q
  exact q

set_option maxRecDepth 100000 in
set_option maxHeartbeats 4000000 in
theorem plane_any (a1 a2 b1 b2 c1 c2 : Int) (t : Bool) (ht : (s2 a1 a2 && s2 b1 b2 && s2 c1 c2) = t) (w : World) :
    Calls Try.prog 57 #[.agg #[.int .i64 a1, .int .i64 a2, .int .i64 b1, .int .i64 b2, .int .i64 c1, .int .i64 c2]] w fun e' w' => e' = .returned (.tuple #[.int .i64 (vF t (ar a1 a2 b1 b2 c1 c2)), .int .i64 (rE t)]) ∧ Below w.heap.size w w' := by
  have HB := Lib.hid (Below.refl w.heap.size w)
  have S := Lib.hid (fun g T W h => small2_3 a1 a2 b1 b2 c1 c2 t ht g T W h)
  cases t with
  | false =>
    rw [vF_no, show rE false = 5 from rfl]
    clear ht
    go_enter Try.func57, Try.ntmps57
    go_upto_region 1 with fail
    have hbx := below_new1 w (.cells #[.int .i64 a1, .int .i64 a2, .int .i64 b1, .int .i64 b2, .int .i64 c1, .int .i64 c2] 83)
    have zx : (w.alloc (.cells #[.int .i64 a1, .int .i64 a2, .int .i64 b1, .int .i64 b2, .int .i64 c1, .int .i64 c2] 83)).heap.size = w.heap.size + 1 := by simp
    have HB := Lib.hid hbx
    have kx := Lib.hid (Lok.new w 83 #[.int .i64 a1, .int .i64 a2, .int .i64 b1, .int .i64 b2, .int .i64 c1, .int .i64 c2])
    clear hbx
    generalize w.alloc (.cells #[.int .i64 a1, .int .i64 a2, .int .i64 b1, .int .i64 b2, .int .i64 c1, .int .i64 c2] 83) = Vx at *
    clear zx
    go_wp2_with fail
    (((with_reducible refine (S.out _ _ _ kx.out).mono ?_); rintro e w1 ⟨rfl, hb1⟩); replace HB := Lib.hid (HB.out.trans (hb1.mono HB.out.size)); replace kx := Lib.hid (kx.out.keep hb1); clear hb1)
    go_wp2
    go_ret2
    exact ⟨rfl, HB.out⟩
  | true =>
    rw [vF_yes, show rE true = 0 from rfl]
    rw [Bool.and_eq_true, Bool.and_eq_true] at ht
    obtain ⟨⟨ha, hb⟩, hc⟩ := ht
    have U1 := Lib.hid (fun W => sub2_sm ha hb W)
    have U2 := Lib.hid (fun W => sub2_sm ha hc W)
    have X := Lib.hid (fun W => cross2_sm ha hb hc W)
    generalize ar a1 a2 b1 b2 c1 c2 = n at *
    clear ha hb hc
    go_enter Try.func57, Try.ntmps57
    go_upto_region 1 with fail
    have hbx := below_new1 w (.cells #[.int .i64 a1, .int .i64 a2, .int .i64 b1, .int .i64 b2, .int .i64 c1, .int .i64 c2] 83)
    have zx : (w.alloc (.cells #[.int .i64 a1, .int .i64 a2, .int .i64 b1, .int .i64 b2, .int .i64 c1, .int .i64 c2] 83)).heap.size = w.heap.size + 1 := by simp
    have HB := Lib.hid hbx
    have kx := Lib.hid (Lok.new w 83 #[.int .i64 a1, .int .i64 a2, .int .i64 b1, .int .i64 b2, .int .i64 c1, .int .i64 c2])
    clear hbx
    generalize w.alloc (.cells #[.int .i64 a1, .int .i64 a2, .int .i64 b1, .int .i64 b2, .int .i64 c1, .int .i64 c2] 83) = Vx at *
    clear zx
    go_wp2_with fail
    (((with_reducible refine (S.out _ _ _ kx.out).mono ?_); rintro e w1 ⟨rfl, hb1⟩); replace HB := Lib.hid (HB.out.trans (hb1.mono HB.out.size)); replace kx := Lib.hid (kx.out.keep hb1); clear hb1)
    clear S
    go_upto_region 3 with fail
    have qx0 : ∀ D : Of (PastV w1), _ := fun D => (kx.out.keep (show Below w1.heap.size w1 D.world from D.holds)).cell (i := 0) rfl
    have qx1 : ∀ D : Of (PastV w1), _ := fun D => (kx.out.keep (show Below w1.heap.size w1 D.world from D.holds)).cell (i := 1) rfl
    have qx2 : ∀ D : Of (PastV w1), _ := fun D => (kx.out.keep (show Below w1.heap.size w1 D.world from D.holds)).cell (i := 2) rfl
    have qx3 : ∀ D : Of (PastV w1), _ := fun D => (kx.out.keep (show Below w1.heap.size w1 D.world from D.holds)).cell (i := 3) rfl
    have qx4 : ∀ D : Of (PastV w1), _ := fun D => (kx.out.keep (show Below w1.heap.size w1 D.world from D.holds)).cell (i := 4) rfl
    have qx5 : ∀ D : Of (PastV w1), _ := fun D => (kx.out.keep (show Below w1.heap.size w1 D.world from D.holds)).cell (i := 5) rfl
    have ST := Lib.hid (pastV_stays w1)
    have ne : Nonempty (Of (PastV w1)) := ⟨⟨w1, Below.refl _ _⟩⟩
    refine wp_region_class (S := PastV w1) (by kernel_rfl) (by kernel_rfl) (Below.refl _ _).drew ?_
    repeat (go_big_quiet_step (first | (go_at_call 43; first | (with_reducible exact class_call ST.out _ (U1.out _)) | (with_reducible exact class_call ST.out _ (U2.out _))) | (go_at_call 71; first | (with_reducible exact class_call ST.out _ (X.out _)))))
    refine wpQuiet_nil ?_
    rintro _ ⟨D, rfl⟩
    have hD : Below w1.heap.size w1 D.world := D.holds
    replace HB := Lib.hid (HB.out.trans (hD.mono HB.out.size))
    replace kx := Lib.hid (kx.out.keep hD)
    generalize D.world = vd at *
    clear qx0 qx1 qx2 qx3 qx4 qx5 ne ST hD
    go_wp2
    go_ret2
    exact ⟨rfl, HB.out⟩
set_option maxRecDepth 100000 in
set_option maxHeartbeats 4000000 in
theorem area_any (a1 a2 b1 b2 c1 c2 : Int) (t : Bool) (ht : (s2 a1 a2 && s2 b1 b2 && s2 c1 c2) = t) (w : World) :
    Calls Try.prog 31 #[.agg #[.int .i64 a1, .int .i64 a2], .agg #[.int .i64 b1, .int .i64 b2], .agg #[.int .i64 c1, .int .i64 c2]] w fun e' w' => e' = .returned (.tuple #[.int .i64 (vF t (ar a1 a2 b1 b2 c1 c2)), .int .i64 (rE t)]) ∧ Below w.heap.size w w' := by
  have HB := Lib.hid (Below.refl w.heap.size w)
  have P := Lib.hid (fun W => plane_any a1 a2 b1 b2 c1 c2 t ht W)
  generalize vF t (ar a1 a2 b1 b2 c1 c2) = n at *
  generalize rE t = e0 at *
  clear ht
  go_enter Try.func31, Try.ntmps31
  go_upto_region 1 with fail
  have hbx := below_new1 w (.cells #[.int .i64 a1, .int .i64 a2] 23)
  have zx : (w.alloc (.cells #[.int .i64 a1, .int .i64 a2] 23)).heap.size = w.heap.size + 1 := by simp
  have HB := Lib.hid hbx
  have kx := Lib.hid (Lok.new w 23 #[.int .i64 a1, .int .i64 a2])
  clear hbx
  generalize w.alloc (.cells #[.int .i64 a1, .int .i64 a2] 23) = Vx at *
  have hby := below_new1 Vx (.cells #[.int .i64 b1, .int .i64 b2] 23)
  replace kx := Lib.hid (kx.out.keep hby)
  have zy : (Vx.alloc (.cells #[.int .i64 b1, .int .i64 b2] 23)).heap.size = Vx.heap.size + 1 := by simp
  replace HB := Lib.hid (HB.out.trans (hby.mono HB.out.size))
  have ky := Lib.hid (Lok.new Vx 23 #[.int .i64 b1, .int .i64 b2])
  clear hby
  generalize Vx.alloc (.cells #[.int .i64 b1, .int .i64 b2] 23) = Vy at *
  rw [zx] at ky zy
  have hbz := below_new1 Vy (.cells #[.int .i64 c1, .int .i64 c2] 23)
  replace kx := Lib.hid (kx.out.keep hbz)
  replace ky := Lib.hid (ky.out.keep hbz)
  have zz : (Vy.alloc (.cells #[.int .i64 c1, .int .i64 c2] 23)).heap.size = Vy.heap.size + 1 := by simp
  replace HB := Lib.hid (HB.out.trans (hbz.mono HB.out.size))
  have kz := Lib.hid (Lok.new Vy 23 #[.int .i64 c1, .int .i64 c2])
  clear hbz
  generalize Vy.alloc (.cells #[.int .i64 c1, .int .i64 c2] 23) = Vz at *
  rw [zy] at kz
  clear zx zy zz
  have x0 := kx.out.cell (i := 0) rfl
  have x1 := kx.out.cell (i := 1) rfl
  have y0 := ky.out.cell (i := 0) rfl
  have y1 := ky.out.cell (i := 1) rfl
  have z0 := kz.out.cell (i := 0) rfl
  have z1 := kz.out.cell (i := 1) rfl
  go_wp2_with fail
  clear x0 x1 y0 y1 z0 z1
  (((with_reducible refine (P.out _).mono ?_); rintro e w1 ⟨rfl, hb1⟩); replace HB := Lib.hid (HB.out.trans (hb1.mono HB.out.size)); clear hb1)
  go_wp2
  go_ret2
  exact ⟨rfl, HB.out⟩
set_option maxRecDepth 100000 in
set_option maxHeartbeats 4000000 in
theorem sideOf_any (a1 a2 b1 b2 c1 c2 : Int) (t : Bool) (ht : (s2 a1 a2 && s2 b1 b2 && s2 c1 c2) = t) (w : World) :
    Calls Try.prog 30 #[.agg #[.int .i64 a1, .int .i64 a2], .agg #[.int .i64 b1, .int .i64 b2], .agg #[.int .i64 c1, .int .i64 c2]] w fun e' w' => e' = .returned (.tuple #[.int .i64 (ordI (vF t (ar a1 a2 b1 b2 c1 c2)) 0), .int .i64 (rE t)]) ∧ Below w.heap.size w w' := by
  have HB := Lib.hid (Below.refl w.heap.size w)
  have P := Lib.hid (fun W => plane_any a1 a2 b1 b2 c1 c2 t ht W)
  generalize vF t (ar a1 a2 b1 b2 c1 c2) = n at *
  generalize rE t = e0 at *
  have Q := Lib.hid (fun W => side_any n W)
  generalize ordI n 0 = s at *
  clear ht
  go_enter Try.func30, Try.ntmps30
  go_upto_region 1 with fail
  have hbx := below_new1 w (.cells #[.int .i64 a1, .int .i64 a2] 23)
  have zx : (w.alloc (.cells #[.int .i64 a1, .int .i64 a2] 23)).heap.size = w.heap.size + 1 := by simp
  have HB := Lib.hid hbx
  have kx := Lib.hid (Lok.new w 23 #[.int .i64 a1, .int .i64 a2])
  clear hbx
  generalize w.alloc (.cells #[.int .i64 a1, .int .i64 a2] 23) = Vx at *
  have hby := below_new1 Vx (.cells #[.int .i64 b1, .int .i64 b2] 23)
  replace kx := Lib.hid (kx.out.keep hby)
  have zy : (Vx.alloc (.cells #[.int .i64 b1, .int .i64 b2] 23)).heap.size = Vx.heap.size + 1 := by simp
  replace HB := Lib.hid (HB.out.trans (hby.mono HB.out.size))
  have ky := Lib.hid (Lok.new Vx 23 #[.int .i64 b1, .int .i64 b2])
  clear hby
  generalize Vx.alloc (.cells #[.int .i64 b1, .int .i64 b2] 23) = Vy at *
  rw [zx] at ky zy
  have hbz := below_new1 Vy (.cells #[.int .i64 c1, .int .i64 c2] 23)
  replace kx := Lib.hid (kx.out.keep hbz)
  replace ky := Lib.hid (ky.out.keep hbz)
  have zz : (Vy.alloc (.cells #[.int .i64 c1, .int .i64 c2] 23)).heap.size = Vy.heap.size + 1 := by simp
  replace HB := Lib.hid (HB.out.trans (hbz.mono HB.out.size))
  have kz := Lib.hid (Lok.new Vy 23 #[.int .i64 c1, .int .i64 c2])
  clear hbz
  generalize Vy.alloc (.cells #[.int .i64 c1, .int .i64 c2] 23) = Vz at *
  rw [zy] at kz
  clear zx zy zz
  have x0 := kx.out.cell (i := 0) rfl
  have x1 := kx.out.cell (i := 1) rfl
  have y0 := ky.out.cell (i := 0) rfl
  have y1 := ky.out.cell (i := 1) rfl
  have z0 := kz.out.cell (i := 0) rfl
  have z1 := kz.out.cell (i := 1) rfl
  go_wp2_with fail
  clear x0 x1 y0 y1 z0 z1
  (((with_reducible refine (P.out _).mono ?_); rintro e w1 ⟨rfl, hb1⟩); replace HB := Lib.hid (HB.out.trans (hb1.mono HB.out.size)); clear hb1)
  go_wp2_with fail
  (((with_reducible refine (Q.out _).mono ?_); rintro e w2 ⟨rfl, hb2⟩); replace HB := Lib.hid (HB.out.trans (hb2.mono HB.out.size)); clear hb2)
  go_wp2
  go_ret2
  exact ⟨rfl, HB.out⟩
end Go.Proofs.Ytllamakemgogaaa
