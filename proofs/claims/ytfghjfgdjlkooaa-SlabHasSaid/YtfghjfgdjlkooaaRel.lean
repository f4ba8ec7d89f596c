/-
  A region that draws its order: one condition on what has come up so far, the values and the world, that each operation carries on. No order is walked.
-/
import Derived.Test.YtfghjfgdjlkooaaBase
import Derived.Deep.RegionWith
namespace Go.Proofs.Ytfghjfgdjlkooaa
open Go.RowKit

def updL (L : Nat → Bool) (i : Nat) : Nat → Bool := fun j => if j = i then true else L j
def updv (u : Nat → Value) (s : Nat) (v : Value) : Nat → Value := fun j => if j = s then v else u j
theorem updL_same (L : Nat → Bool) (i : Nat) : updL L i i = true := if_pos rfl
theorem updL_other (L : Nat → Bool) {i j : Nat} (h : j ≠ i) : updL L i j = L j := if_neg h
theorem updv_same (u : Nat → Value) (i : Nat) (v : Value) : updv u i v i = v := if_pos rfl
theorem updv_other (u : Nat → Value) {i j : Nat} (v : Value) (h : j ≠ i) : updv u i v j = u j := if_neg h

/-- The slots of a region, whatever they hold. -/
def putAll (a : Act) (u : Nat → Value) : List Nat → Act
  | [] => a
  | s :: l => (putAll a u l).put (some s) (u s)
theorem putAll_size (a : Act) (u : Nat → Value) (l : List Nat) : (putAll a u l).tmps.size = a.tmps.size := by
  induction l with
  | nil => rfl
  | cons s l ih => simp [putAll, Act.put, ih]
theorem putAll_defers (a : Act) (u : Nat → Value) (l : List Nat) : (putAll a u l).defers = a.defers := by
  induction l with
  | nil => rfl
  | cons s l ih => simp [putAll, Act.put, ih]
theorem putAll_get (a : Act) (u : Nat → Value) (l : List Nat) (i : Nat) (hi : i < a.tmps.size) : (putAll a u l).tmps[i]'(by rw [putAll_size]; exact hi) = if i ∈ l then u i else a.tmps[i] := by
  induction l with
  | nil => simp [putAll]
  | cons s l ih =>
    simp only [putAll, Act.put]
    rw [Array.getElem_setIfInBounds (by rw [putAll_size]; exact hi)]
    by_cases h : s = i
    · subst h; simp
    · rw [if_neg h, ih]
      have : (i ∈ s :: l) ↔ (i ∈ l) := by simp [Ne.symm h]
      simp only [this]
theorem putAll_put (a : Act) (u : Nat → Value) (l : List Nat) (s : Nat) (v : Value) (hs : s ∈ l) : (putAll a u l).put (some s) v = putAll a (updv u s v) l := by
  have hd : ((putAll a u l).put (some s) v).defers = (putAll a (updv u s v) l).defers := by
    show (putAll a u l).defers = _
    rw [putAll_defers, putAll_defers]
  have ht : ((putAll a u l).put (some s) v).tmps = (putAll a (updv u s v) l).tmps := by
    apply Array.ext
    · simp [Act.put, putAll_size]
    · intro i h1 h2
      have hi : i < a.tmps.size := by rwa [putAll_size] at h2
      simp only [Act.put]
      rw [Array.getElem_setIfInBounds (by rw [putAll_size]; exact hi), putAll_get a u l i hi, putAll_get a _ l i hi]
      by_cases h : s = i
      · subst h; rw [if_pos rfl, if_pos hs, updv_same]
      · rw [if_neg h]
        by_cases k : i ∈ l
        · rw [if_pos k, if_pos k, updv_other _ _ (Ne.symm h)]
        · rw [if_neg k, if_neg k]
  cases h1 : (putAll a u l).put (some s) v
  cases h2 : putAll a (updv u s v) l
  rw [h1] at hd ht
  rw [h2] at hd ht
  cases hd
  cases ht
  rfl
theorem putAll_old (a : Act) (l : List Nat) : putAll a (fun s => a.tmps.getD s undef) l = a := by
  have hd := putAll_defers a (fun s => a.tmps.getD s undef) l
  have ht : (putAll a (fun s => a.tmps.getD s undef) l).tmps = a.tmps := by
    apply Array.ext
    · exact putAll_size _ _ _
    · intro i h1 h2
      rw [putAll_get a _ l i h2]
      by_cases k : i ∈ l
      · rw [if_pos k]; simp [Array.getD, h2]
      · rw [if_neg k]
  cases h : putAll a (fun s => a.tmps.getD s undef) l
  rw [h] at hd ht
  cases a
  cases hd
  cases ht
  rfl

section
variable {P : Program} {ops : Array Oper} {Q : Exit → Act → World → Prop} {md : Region.Mode}

theorem all_listed {listed : Array Bool} (hsz : listed.size = ops.size) (acyc : ∀ (i : Nat) (o : Oper), ops[i]? = some o → ∀ e ∈ o.after, Region.binds md e = true → e.on < i) (hr : Region.ready md ops listed = []) :
    ∀ i, i < ops.size → listed.getD i true = true := by
  intro i
  induction i using Nat.strongRecOn with
  | ind i ih =>
    intro hi
    cases hl : listed.getD i true with
    | true => rfl
    | false =>
      have : i ∈ Region.ready md ops listed := by
        refine mem_ready.2 ⟨hl, ops[i], Array.getElem?_eq_getElem hi, fun e he hb => ?_⟩
        have h1 := acyc i _ (Array.getElem?_eq_getElem hi) e he hb
        have h2 := ih e.on h1 (by omega)
        have h3 : e.on < listed.size := by omega
        simpa [h3] using h2
      rw [hr] at this
      cases this

theorem wpAny_rel (J : (Nat → Bool) → Act → World → Prop)
    (acyc : ∀ (i : Nat) (o : Oper), ops[i]? = some o → ∀ e ∈ o.after, Region.binds md e = true → e.on < i)
    (step : ∀ (i : Nat) (o : Oper), ops[i]? = some o → ∀ L a w, J L a w → L i = false → (∀ e ∈ o.after, Region.binds md e = true → L e.on = true) → wpOp P ops Q i (J (updL L i)) a w)
    (fin : ∀ L a w, (∀ i, i < ops.size → L i = true) → J L a w → Q .normal a w) :
    ∀ (fuel : Nat) (listed : Array Bool) (a : Act) (w : World), listed.size = ops.size → listed.toList.count false ≤ fuel → J (fun i => listed.getD i true) a w → wpAny P md ops Q fuel listed a w := by
  intro fuel
  induction fuel with
  | zero =>
    intro listed a w hsz hc hJ
    have hall : ∀ i, i < ops.size → listed.getD i true = true := by
      intro i hi
      have h0 := List.count_eq_zero.1 (Nat.le_zero.1 hc)
      have hi' : i < listed.size := by omega
      have : listed[i] ≠ false := fun h => h0 (by rw [← h]; exact Array.mem_toList_iff.2 (Array.getElem_mem hi'))
      simpa [hi'] using this
    refine ⟨?_, fin _ a w hall hJ⟩
    cases hr : Region.ready md ops listed with
    | nil => rfl
    | cons i l =>
      have h := (mem_ready.1 (show i ∈ Region.ready md ops listed by rw [hr]; exact List.mem_cons_self ..))
      obtain ⟨h1, o, ho, _⟩ := h
      have hi : i < ops.size := by
        rcases Nat.lt_or_ge i ops.size with q | q
        · exact q
        · rw [Array.getElem?_eq_none q] at ho; cases ho
      rw [hall i hi] at h1
      cases h1
  | succ fuel ih =>
    intro listed a w hsz hc hJ
    refine ⟨fun hr => fin _ a w (all_listed hsz acyc hr) hJ, fun i hi => ?_⟩
    obtain ⟨h1, o, ho, h2⟩ := mem_ready.1 hi
    have hlt : i < listed.size := by
      rcases Nat.lt_or_ge i listed.size with q | q
      · exact q
      · simp [Array.getElem?_eq_none q] at h1
    have hd : ∀ e ∈ o.after, Region.binds md e = true → listed.getD e.on true = true := fun e he hb => by
      have h3 := h2 e he hb
      have h4 := acyc i o ho e he hb
      have h5 : e.on < listed.size := by omega
      simpa [h5] using h3
    refine wpOp_mono (fun a' w' h => ih _ a' w' (by simpa using hsz) ?_ ?_) (step i o ho _ a w hJ h1 hd)
    · have hf : listed[i] = false := by simpa [hlt] using h1
      have : (listed.setIfInBounds i true).toList = listed.toList.set i true := by simp
      rw [this, List.count_set (by simpa using hlt)]
      simp [hf]
      simp at hc
      omega
    · have e : (fun j => (listed.setIfInBounds i true).getD j true) = updL (fun j => listed.getD j true) i := by
        funext j
        unfold updL
        by_cases hj : j = i
        · subst hj; simp
        · rw [if_neg hj]
          simp [Ne.symm hj]
      rw [e]
      exact h

/-- What one operation owes. -/
def RelStep (P : Program) (l : List Oper) (Q : Exit → Act → World → Prop) (F : (Nat → Value) → Act) (J : (Nat → Bool) → (Nat → Value) → World → Prop) (i : Nat) (o : Oper) : Prop :=
  ∀ L u W, J L u W → L i = false → (∀ e ∈ o.after, Region.binds .any e = true → L e.on = true) →
      ∀ K' : Act → World → Prop, (∀ v W', (∀ s, o.dst = some s → J (updL L i) (updv u s v) W') → (o.dst = none → J (updL L i) u W') → K' ((F u).put o.dst v) W') →
        if Region.wanted o (yielded l.toArray (F u).tmps) = true then Oper.wp P o (F u) W K' Q else K' ((F u).put o.dst undef) W
/-- THE RULE. 'slots': the slots that the region writes; 'F u': the frame where they hold u; J: what has come up (L), what the slots hold (u), the world. -/
theorem wp_region_rel {id : Nat} {a : Act} {w : World} {l : List Oper} (hm : P.follows .mixedOrders = true) (slots : List Nat) (F : (Nat → Value) → Act) (hF : ∀ u, putAll a u slots = F u)
    (J : (Nat → Bool) → (Nat → Value) → World → Prop)
    (acyc : (List.range l.length).all (fun i => ((l[i]?).map (fun o => o.after.all fun e => !Region.binds .any e || decide (e.on < i))).getD true) = true)
    (hdst : (List.range l.length).all (fun i => ((l[i]?).map (fun o => match o.dst with | some s => slots.contains s | none => true)).getD true) = true)
    (n : Nat) (hn : l.length = n)
    (h0 : ∀ L u, (∀ i, i < n → L i = false) → J L u w.drew)
    (step : ∀ (i : Nat) (o : Oper), l[i]? = some o → RelStep P l Q F J i o)
    (fin : ∀ L u W, (∀ i, i < n → L i = true) → J L u W → Q .normal (F u) W) : (Code.region id l.toArray true).wp P Q a w := by
  subst hn
  have hx : ∀ (i : Nat) (o : Oper), l[i]? = some o → i ∈ List.range l.length := fun i o ho => by
    refine List.mem_range.2 ?_
    rcases Nat.lt_or_ge i l.length with q | q
    · exact q
    · rw [List.getElem?_eq_none q] at ho; cases ho
  refine wp_region_any hm ?_
  refine wpAny_rel (J := fun L a' W => ∃ u, a' = F u ∧ J L u W) ?_ ?_ ?_ _ _ _ _ (by simp) (by simp) ⟨_, (putAll_old a slots).symm.trans (hF _), h0 _ _ fun i hi => by simp [hi]⟩
  · intro i o ho e he hb
    have ho' : l[i]? = some o := by simpa using ho
    have h := List.all_eq_true.1 acyc i (hx i o ho')
    rw [ho'] at h
    simp only [Option.map_some, Option.getD_some] at h
    have h2 := Array.all_eq_true_iff_forall_mem.1 h e he
    simpa [hb] using h2
  · rintro i o ho L a' W ⟨u, rfl, hJ⟩ hf hd
    have ho' : l[i]? = some o := by simpa using ho
    have h := List.all_eq_true.1 hdst i (hx i o ho')
    rw [ho'] at h
    simp only [Option.map_some, Option.getD_some] at h
    refine wpOp_step ho fun K' hK => step i o ho' L u W hJ hf hd K' fun v W' h1 h2 => hK _ _ ?_
    cases hds : o.dst with
    | none => exact ⟨u, rfl, h2 hds⟩
    | some s =>
      rw [hds] at h
      refine ⟨updv u s v, ?_, h1 s hds⟩
      rw [← hF u, ← hF]
      exact putAll_put a u slots s v (by simpa using h)
  · rintro L a' W hall ⟨u, rfl, hJ⟩
    exact fin L u W (fun i hi => hall i (by simpa using hi)) hJ
/-- The same, with what the slots hold ahead of the region. 'slots': the slots that the region writes; 'F u': the frame where they hold u; J: what has come up (L), what the slots hold (u), the world. -/
theorem wp_region_rel2 {id : Nat} {a : Act} {w : World} {l : List Oper} (hm : P.follows .mixedOrders = true) (slots : List Nat) (F : (Nat → Value) → Act) (hF : ∀ u, putAll a u slots = F u)
    (J : (Nat → Bool) → (Nat → Value) → World → Prop)
    (acyc : (List.range l.length).all (fun i => ((l[i]?).map (fun o => o.after.all fun e => !Region.binds .any e || decide (e.on < i))).getD true) = true)
    (hdst : (List.range l.length).all (fun i => ((l[i]?).map (fun o => match o.dst with | some s => slots.contains s | none => true)).getD true) = true)
    (n : Nat) (hn : l.length = n)
    (h0 : ∀ L, (∀ i, i < n → L i = false) → J L (fun s => a.tmps.getD s undef) w.drew)
    (step : ∀ (i : Nat) (o : Oper), l[i]? = some o → RelStep P l Q F J i o)
    (fin : ∀ L u W, (∀ i, i < n → L i = true) → J L u W → Q .normal (F u) W) : (Code.region id l.toArray true).wp P Q a w := by
  subst hn
  have hx : ∀ (i : Nat) (o : Oper), l[i]? = some o → i ∈ List.range l.length := fun i o ho => by
    refine List.mem_range.2 ?_
    rcases Nat.lt_or_ge i l.length with q | q
    · exact q
    · rw [List.getElem?_eq_none q] at ho; cases ho
  refine wp_region_any hm ?_
  refine wpAny_rel (J := fun L a' W => ∃ u, a' = F u ∧ J L u W) ?_ ?_ ?_ _ _ _ _ (by simp) (by simp) ⟨_, (putAll_old a slots).symm.trans (hF _), h0 _ fun i hi => by simp [hi]⟩
  · intro i o ho e he hb
    have ho' : l[i]? = some o := by simpa using ho
    have h := List.all_eq_true.1 acyc i (hx i o ho')
    rw [ho'] at h
    simp only [Option.map_some, Option.getD_some] at h
    have h2 := Array.all_eq_true_iff_forall_mem.1 h e he
    simpa [hb] using h2
  · rintro i o ho L a' W ⟨u, rfl, hJ⟩ hf hd
    have ho' : l[i]? = some o := by simpa using ho
    have h := List.all_eq_true.1 hdst i (hx i o ho')
    rw [ho'] at h
    simp only [Option.map_some, Option.getD_some] at h
    refine wpOp_step ho fun K' hK => step i o ho' L u W hJ hf hd K' fun v W' h1 h2 => hK _ _ ?_
    cases hds : o.dst with
    | none => exact ⟨u, rfl, h2 hds⟩
    | some s =>
      rw [hds] at h
      refine ⟨updv u s v, ?_, h1 s hds⟩
      rw [← hF u, ← hF]
      exact putAll_put a u slots s v (by simpa using h)
  · rintro L a' W hall ⟨u, rfl, hJ⟩
    exact fin L u W (fun i hi => hall i (by simpa using hi)) hJ
end
theorem ops_nil {R : Nat → Oper → Prop} {k : Nat} : ∀ (i : Nat) (o : Oper), ([] : List Oper)[i]? = some o → R (k + i) o := fun i o h => by simp at h
theorem ops_cons {R : Nat → Oper → Prop} {k : Nat} {o : Oper} {l : List Oper} (h0 : R k o) (h : ∀ (i : Nat) (o : Oper), l[i]? = some o → R (k + 1 + i) o) : ∀ (i : Nat) (o' : Oper), (o :: l)[i]? = some o' → R (k + i) o' := fun i o' hi => by
  rcases i with _ | i
  · simp at hi; subst hi; exact h0
  · rw [show k + (i + 1) = k + 1 + i from by omega]; exact h i o' (by simpa using hi)
theorem ops_all {R : Nat → Oper → Prop} {l : List Oper} (h : ∀ (i : Nat) (o : Oper), l[i]? = some o → R (0 + i) o) : ∀ (i : Nat) (o : Oper), l[i]? = some o → R i o := fun i o hi => by
  have := h i o hi; rwa [Nat.zero_add] at this

theorem below_new1 (W : World) (o : Obj) : Below W.heap.size W (W.alloc o) := (Below.refl _ W).alloc (Nat.le_refl _) o
/-- Block g is just the cells cs of type t, none frozen. -/
def Lok (W : World) (g : Nat) (t : TypeId) (cs : Array Value) : Prop := W.heap[g]? = some (.cells cs t (0, 0))
theorem Lok.lt {W : World} {g : Nat} {t : TypeId} {cs : Array Value} (h : Lok W g t cs) : g < W.heap.size := by
  rcases Nat.lt_or_ge g W.heap.size with q | q
  · exact q
  · unfold Lok at h; rw [Array.getElem?_eq_none q] at h; cases h
theorem Lok.keep {W W' : World} {g : Nat} {t : TypeId} {cs : Array Value} (h : Lok W g t cs) (hb : Below W.heap.size W W') : Lok W' g t cs := (hb.block g h.lt).trans h
theorem Lok.new (W : World) (t : TypeId) (cs : Array Value) : Lok (W.alloc (.cells cs t)) W.heap.size t cs := by unfold Lok World.alloc; simp
theorem Lok.cell {W : World} {g i : Nat} {t : TypeId} {cs : Array Value} {v : Value} (h : Lok W g t cs) (hv : cs[i]? = some v) : W.cell? ⟨g, i, none⟩ = some v := by
  unfold Lok at h; simp [World.cell?, h, hv]
theorem Lok.frozen {W : World} {g : Nat} {t : TypeId} {cs : Array Value} (h : Lok W g t cs) (i : Nat) : W.frozen? ⟨g, i, none⟩ = false := by
  unfold Lok at h; simp [World.frozen?, h]
theorem Lok.set {W : World} {g i : Nat} {t : TypeId} {cs : Array Value} {v : Value} (h : Lok W g t cs) : Lok (W.setCell ⟨g, i, none⟩ v) g t (cs.setIfInBounds i v) := by
  unfold Lok at h ⊢; simp [World.setCell, Array.getElem?_modify, h]
theorem Lok.far {W : World} {g g' i : Nat} {t : TypeId} {cs : Array Value} {v : Value} (h : Lok W g t cs) (hn : g ≠ g') : Lok (W.setCell ⟨g', i, none⟩ v) g t cs := (Below.heap_setCell W ⟨g', i, none⟩ v g hn).trans h
theorem Lok.keepB {V W : World} {n g : Nat} {t : TypeId} {cs : Array Value} (h : Lok V g t cs) (hb : Below n V W) (hg : g < n) : Lok W g t cs := (hb.block g hg).trans h
theorem Lok.drew {W : World} {g : Nat} {t : TypeId} {cs : Array Value} (h : Lok W g t cs) : Lok W.drew g t cs := h
theorem ptr_apart {u v : Value} {g g2 : Nat} (h : u ≠ v) (e : u = .pointer (some ⟨g, 0, none⟩)) (k : v = .pointer (some ⟨g2, 0, none⟩)) : g2 ≠ g := fun q => h (by rw [e, k, q])
theorem ptr_apart2 {u v : Value} {g g2 : Nat} (h : v ≠ u) (k : v = .pointer (some ⟨g2, 0, none⟩)) (e : u = .pointer (some ⟨g, 0, none⟩)) : g2 ≠ g := fun q => h (by rw [e, k, q])
theorem ptr_new {W : World} {u : Value} {g : Nat} {t : TypeId} {cs : Array Value} (k : u = .pointer (some ⟨g, 0, none⟩)) (l : Lok W g t cs) : Value.pointer (some ⟨W.heap.size, 0, none⟩) ≠ u := fun q => by
  rw [k] at q
  have h := l.lt
  simp only [Value.pointer.injEq, Option.some.injEq, Addr.mk.injEq] at q
  omega
theorem ptr_new2 {W : World} {u : Value} {g : Nat} {t : TypeId} {cs : Array Value} (k : u = .pointer (some ⟨g, 0, none⟩)) (l : Lok W g t cs) : u ≠ Value.pointer (some ⟨W.heap.size, 0, none⟩) := fun q => ptr_new k l q.symm
/-- A row of the call's own, just laid, in a slot. -/
def RowAt (W : World) (v : Value) (n : Nat) (T : TypeId) (cs : Array Value) : Prop := ∃ g, v = .slice (some ⟨g, 0, none⟩) n n ∧ Lok W g T cs
theorem RowAt.keep {W W' : World} {v : Value} {n : Nat} {T : TypeId} {cs : Array Value} (h : RowAt W v n T cs) (hb : Below W.heap.size W W') : RowAt W' v n T cs := by
  obtain ⟨g, e, l⟩ := h
  exact ⟨g, e, l.keep hb⟩
end Go.Proofs.Ytfghjfgdjlkooaa
