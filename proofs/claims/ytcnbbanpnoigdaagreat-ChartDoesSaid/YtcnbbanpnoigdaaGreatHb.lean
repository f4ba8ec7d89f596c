import Derived.Test.YtcnbbanpnoigdaaGreatBase
import Derived.Deep.RegionWith
import Derived.ProofKit
import Derived.OpenShut
import Derived.Deep.Slices
import Derived.Lib.SmallJoins
import Derived.Carry
namespace Go.Proofs.YtcnbbanpnoigdaaGreat

def NR (n : Int) : Prop := -1048576 ≤ n ∧ n ≤ 1048576
instance (n : Int) : Decidable (NR n) := by unfold NR; infer_instance
def nB (n : Int) : Bool := decide (NR n)
def n2 (x y : Int) : Bool := nB x && nB y
def n3 (x y z : Int) : Bool := nB x && nB y && nB z
theorem nB_iff {n : Int} : nB n = true ↔ NR n := by unfold nB; exact decide_eq_true_iff
theorem nB_not {n : Int} : nB n = false ↔ ¬ NR n := by unfold nB; exact decide_eq_false_iff_not
theorem n2_iff {x y : Int} : n2 x y = true ↔ NR x ∧ NR y := by unfold n2; rw [Bool.and_eq_true, nB_iff, nB_iff]
theorem n3_iff {x y z : Int} : n3 x y z = true ↔ NR x ∧ NR y ∧ NR z := by unfold n3; rw [Bool.and_eq_true, Bool.and_eq_true, nB_iff, nB_iff, nB_iff, and_assoc]
def allB (P : Nat → Bool) : Nat → Bool
 | 0 => true
 | n + 1 => allB P n && P n
theorem allB_iff (P : Nat → Bool) (n : Nat) : allB P n = true ↔ ∀ i, i < n → P i = true := by
 induction n with
 | zero => exact ⟨fun _ i h => absurd h (Nat.not_lt_zero i), fun _ => rfl⟩
 | succ n ih =>
  show (allB P n && P n) = true ↔ _
  rw [Bool.and_eq_true, ih]
  constructor
  ·rintro ⟨h, k⟩ i hi
   by_cases e : i = n
   ·rw [e]; exact k
   ·exact h i (by omega)
  ·exact fun h => ⟨fun i hi => h i (by omega), h n (by omega)⟩
theorem allB_no {P : Nat → Bool} {n k : Nat} (hk : k < n) (h : P k = false) : allB P n = false := by
 cases e : allB P n with
 | false => rfl
 | true => rw [(allB_iff P n).1 e k hk] at h; cases h
theorem allB_yes {P : Nat → Bool} {n : Nat} (h : ∀ i, i < n → P i = true) : allB P n = true := (allB_iff P n).2 h
def a2 (F : Nat → Nat → Int) (n : Nat) : Bool := allB (fun i => n2 (F i 0) (F i 1)) n
def a3 (F : Nat → Nat → Int) (n : Nat) : Bool := allB (fun i => n3 (F i 0) (F i 1) (F i 2)) n
def rowOf (k : Nat) (l : List Int) (i j : Nat) : Int := l.getD (i * k + j) 0
theorem near_prod {a b : Int} (ha : NR a) (hb : NR b) : -1099511627776 ≤ a * b ∧ a * b ≤ 1099511627776 := by
 unfold NR at ha hb;have h := Nat.mul_le_mul (show a.natAbs ≤ 1048576 by omega) (show b.natAbs ≤ 1048576 by omega);rw [← Int.natAbs_mul] at h
 omega
end Go.Proofs.YtcnbbanpnoigdaaGreat
namespace Go.Proofs.YtcnbbanpnoigdaaGreat
open Go.RowKit

def updL (L : Nat → Bool) (i : Nat) : Nat → Bool := fun j => if j = i then true else L j
def updv (u : Nat → Value) (s : Nat) (v : Value) : Nat → Value := fun j => if j = s then v else u j
theorem updv_same (u : Nat → Value) (i : Nat) (v : Value) : updv u i v i = v := if_pos rfl
theorem updv_other (u : Nat → Value) {i j : Nat} (v : Value) (h : j ≠ i) : updv u i v j = u j := if_neg h

def putAll (a : Act) (u : Nat → Value) : List Nat → Act
 | [] => a
 | s :: l => (putAll a u l).put (some s) (u s)
theorem putAll_size (a : Act) (u : Nat → Value) (l : List Nat) : (putAll a u l).tmps.size = a.tmps.size := by
 induction l with
 | nil => rfl
 | cons s l ih => simp [putAll, Act.put, ih]
theorem putAll_defers (a : Act) (u : Nat → Value) (l : List Nat) : (putAll a u l).defers = a.defers := by
 induction l with
 | nil => rfl
 | cons s l ih => simp [putAll, Act.put, ih]
theorem putAll_get (a : Act) (u : Nat → Value) (l : List Nat) (i : Nat) (hi : i < a.tmps.size) : (putAll a u l).tmps[i]'(by rw [putAll_size]; exact hi) = if i ∈ l then u i else a.tmps[i] := by
 induction l with
 | nil => simp [putAll]
 | cons s l ih =>
  simp only [putAll, Act.put]
  rw [Array.getElem_setIfInBounds (by rw [putAll_size]; exact hi)]
  by_cases h : s = i
  ·subst h; simp
  ·rw [if_neg h, ih]
   have : (i ∈ s :: l) ↔ (i ∈ l) := by simp [Ne.symm h]
   simp only [this]
theorem putAll_put (a : Act) (u : Nat → Value) (l : List Nat) (s : Nat) (v : Value) (hs : s ∈ l) : (putAll a u l).put (some s) v = putAll a (updv u s v) l := by
 have hd : ((putAll a u l).put (some s) v).defers = (putAll a (updv u s v) l).defers := by
  show (putAll a u l).defers = _
  rw [putAll_defers, putAll_defers]
 have ht : ((putAll a u l).put (some s) v).tmps = (putAll a (updv u s v) l).tmps := by
  apply Array.ext
  ·simp [Act.put, putAll_size]
  ·intro i h1 h2
   have hi : i < a.tmps.size := by rwa [putAll_size] at h2
   simp only [Act.put]
   rw [Array.getElem_setIfInBounds (by rw [putAll_size]; exact hi), putAll_get a u l i hi, putAll_get a _ l i hi]
   by_cases h : s = i
   ·subst h; rw [if_pos rfl, if_pos hs, updv_same]
   ·rw [if_neg h]
    by_cases k : i ∈ l
    ·rw [if_pos k, if_pos k, updv_other _ _ (Ne.symm h)]
    ·rw [if_neg k, if_neg k]
 cases h1 : (putAll a u l).put (some s) v
 cases h2 : putAll a (updv u s v) l
 rw [h1] at hd ht;rw [h2] at hd ht
 cases hd
 cases ht
 rfl
theorem putAll_old (a : Act) (l : List Nat) : putAll a (fun s => a.tmps.getD s undef) l = a := by
 have hd := putAll_defers a (fun s => a.tmps.getD s undef) l
 have ht : (putAll a (fun s => a.tmps.getD s undef) l).tmps = a.tmps := by
  apply Array.ext
  ·exact putAll_size _ _ _
  ·intro i h1 h2
   rw [putAll_get a _ l i h2]
   by_cases k : i ∈ l
   ·rw [if_pos k]; simp [Array.getD, h2]
   ·rw [if_neg k]
 cases h : putAll a (fun s => a.tmps.getD s undef) l
 rw [h] at hd ht
 cases a
 cases hd
 cases ht
 rfl

section
variable {P : Program} {ops : Array Oper} {Q : Exit → Act → World → Prop} {md : Region.Mode}

theorem all_listed {listed : Array Bool} (hsz : listed.size = ops.size) (acyc : ∀ (i : Nat) (o : Oper), ops[i]? = some o → ∀ e ∈ o.after, Region.binds md e = true → e.on < i) (hr : Region.ready md ops listed = []) :
  ∀ i, i < ops.size → listed.getD i true = true := by
 intro i
 induction i using Nat.strongRecOn with
 | ind i ih =>
  intro hi
  cases hl : listed.getD i true with
  | true => rfl
  | false =>
   have : i ∈ Region.ready md ops listed := by
    refine mem_ready.2 ⟨hl, ops[i], Array.getElem?_eq_getElem hi, fun e he hb => ?_⟩
    have h1 := acyc i _ (Array.getElem?_eq_getElem hi) e he hb;have h2 := ih e.on h1 (by omega)
    have h3 : e.on < listed.size := by omega
    simpa [h3] using h2
   rw [hr] at this
   cases this

theorem wpAny_rel (J : (Nat → Bool) → Act → World → Prop)
  (acyc : ∀ (i : Nat) (o : Oper), ops[i]? = some o → ∀ e ∈ o.after, Region.binds md e = true → e.on < i)
  (step : ∀ (i : Nat) (o : Oper), ops[i]? = some o → ∀ L a w, J L a w → L i = false → (∀ e ∈ o.after, Region.binds md e = true → L e.on = true) → wpOp P ops Q i (J (updL L i)) a w)
  (fin : ∀ L a w, (∀ i, i < ops.size → L i = true) → J L a w → Q .normal a w) :
  ∀ (fuel : Nat) (listed : Array Bool) (a : Act) (w : World), listed.size = ops.size → listed.toList.count false ≤ fuel → J (fun i => listed.getD i true) a w → wpAny P md ops Q fuel listed a w := by
 intro fuel
 induction fuel with
 | zero =>
  intro listed a w hsz hc hJ
  have hall : ∀ i, i < ops.size → listed.getD i true = true := by
   intro i hi
   have h0 := List.count_eq_zero.1 (Nat.le_zero.1 hc)
   have hi' : i < listed.size := by omega
   have : listed[i] ≠ false := fun h => h0 (by rw [← h]; exact Array.mem_toList_iff.2 (Array.getElem_mem hi'))
   simpa [hi'] using this
  refine ⟨?_, fin _ a w hall hJ⟩
  cases hr : Region.ready md ops listed with
  | nil => rfl
  | cons i l =>
   have h := (mem_ready.1 (show i ∈ Region.ready md ops listed by rw [hr]; exact List.mem_cons_self ..));obtain ⟨h1, o, ho, _⟩ := h
   have hi : i < ops.size := by
    rcases Nat.lt_or_ge i ops.size with q | q
    ·exact q
    ·rw [Array.getElem?_eq_none q] at ho; cases ho
   rw [hall i hi] at h1
   cases h1
 | succ fuel ih =>
  intro listed a w hsz hc hJ
  refine ⟨fun hr => fin _ a w (all_listed hsz acyc hr) hJ, fun i hi => ?_⟩
  obtain ⟨h1, o, ho, h2⟩ := mem_ready.1 hi
  have hlt : i < listed.size := by
   rcases Nat.lt_or_ge i listed.size with q | q
   ·exact q
   ·simp [Array.getElem?_eq_none q] at h1
  have hd : ∀ e ∈ o.after, Region.binds md e = true → listed.getD e.on true = true := fun e he hb => by
   have h3 := h2 e he hb;have h4 := acyc i o ho e he hb
   have h5 : e.on < listed.size := by omega
   simpa [h5] using h3
  refine wpOp_mono (fun a' w' h => ih _ a' w' (by simpa using hsz) ?_ ?_) (step i o ho _ a w hJ h1 hd)
  ·have hf : listed[i] = false := by simpa [hlt] using h1
   have : (listed.setIfInBounds i true).toList = listed.toList.set i true := by simp
   rw [this, List.count_set (by simpa using hlt)]
   simp [hf]
   simp at hc
   omega
  ·have e : (fun j => (listed.setIfInBounds i true).getD j true) = updL (fun j => listed.getD j true) i := by
    funext j
    unfold updL
    by_cases hj : j = i
    ·subst hj; simp
    ·rw [if_neg hj]
     simp [Ne.symm hj]
   rw [e]
   exact h

def RelStep (P : Program) (l : List Oper) (Q : Exit → Act → World → Prop) (F : (Nat → Value) → Act) (J : (Nat → Bool) → (Nat → Value) → World → Prop) (i : Nat) (o : Oper) : Prop :=
 ∀ L u W, J L u W → L i = false → (∀ e ∈ o.after, Region.binds .any e = true → L e.on = true) →
   ∀ K' : Act → World → Prop, (∀ v W', (∀ s, o.dst = some s → J (updL L i) (updv u s v) W') → (o.dst = none → J (updL L i) u W') → K' ((F u).put o.dst v) W') →
    if Region.wanted o (yielded l.toArray (F u).tmps) = true then Oper.wp P o (F u) W K' Q else K' ((F u).put o.dst undef) W
theorem wp_region_rel {id : Nat} {a : Act} {w : World} {l : List Oper} (hm : P.follows .mixedOrders = true) (slots : List Nat) (F : (Nat → Value) → Act) (hF : ∀ u, putAll a u slots = F u)
  (J : (Nat → Bool) → (Nat → Value) → World → Prop)
  (acyc : (List.range l.length).all (fun i => ((l[i]?).map (fun o => o.after.all fun e => !Region.binds .any e || decide (e.on < i))).getD true) = true)
  (hdst : (List.range l.length).all (fun i => ((l[i]?).map (fun o => match o.dst with | some s => slots.contains s | none => true)).getD true) = true)
  (n : Nat) (hn : l.length = n)
  (h0 : ∀ L u, (∀ i, i < n → L i = false) → J L u w.drew)
  (step : ∀ (i : Nat) (o : Oper), l[i]? = some o → RelStep P l Q F J i o)
  (fin : ∀ L u W, (∀ i, i < n → L i = true) → J L u W → Q .normal (F u) W) : (Code.region id l.toArray true).wp P Q a w := by
 subst hn
 have hx : ∀ (i : Nat) (o : Oper), l[i]? = some o → i ∈ List.range l.length := fun i o ho => by
  refine List.mem_range.2 ?_
  rcases Nat.lt_or_ge i l.length with q | q
  ·exact q
  ·rw [List.getElem?_eq_none q] at ho; cases ho
 refine wp_region_any hm ?_
 refine wpAny_rel (J := fun L a' W => ∃ u, a' = F u ∧ J L u W) ?_ ?_ ?_ _ _ _ _ (by simp) (by simp) ⟨_, (putAll_old a slots).symm.trans (hF _), h0 _ _ fun i hi => by simp [hi]⟩
 ·intro i o ho e he hb
  have ho' : l[i]? = some o := by simpa using ho
  have h := List.all_eq_true.1 acyc i (hx i o ho');rw [ho'] at h
  simp only [Option.map_some, Option.getD_some] at h
  have h2 := Array.all_eq_true_iff_forall_mem.1 h e he
  simpa [hb] using h2
 ·rintro i o ho L a' W ⟨u, rfl, hJ⟩ hf hd
  have ho' : l[i]? = some o := by simpa using ho
  have h := List.all_eq_true.1 hdst i (hx i o ho');rw [ho'] at h
  simp only [Option.map_some, Option.getD_some] at h
  refine wpOp_step ho fun K' hK => step i o ho' L u W hJ hf hd K' fun v W' h1 h2 => hK _ _ ?_
  cases hds : o.dst with
  | none => exact ⟨u, rfl, h2 hds⟩
  | some s =>
   rw [hds] at h
   refine ⟨updv u s v, ?_, h1 s hds⟩
   rw [← hF u, ← hF]
   exact putAll_put a u slots s v (by simpa using h)
 ·rintro L a' W hall ⟨u, rfl, hJ⟩
  exact fin L u W (fun i hi => hall i (by simpa using hi)) hJ
theorem wp_region_rel2 {id : Nat} {a : Act} {w : World} {l : List Oper} (hm : P.follows .mixedOrders = true) (slots : List Nat) (F : (Nat → Value) → Act) (hF : ∀ u, putAll a u slots = F u)
  (J : (Nat → Bool) → (Nat → Value) → World → Prop)
  (acyc : (List.range l.length).all (fun i => ((l[i]?).map (fun o => o.after.all fun e => !Region.binds .any e || decide (e.on < i))).getD true) = true)
  (hdst : (List.range l.length).all (fun i => ((l[i]?).map (fun o => match o.dst with | some s => slots.contains s | none => true)).getD true) = true)
  (n : Nat) (hn : l.length = n)
  (h0 : ∀ L, (∀ i, i < n → L i = false) → J L (fun s => a.tmps.getD s undef) w.drew)
  (step : ∀ (i : Nat) (o : Oper), l[i]? = some o → RelStep P l Q F J i o)
  (fin : ∀ L u W, (∀ i, i < n → L i = true) → J L u W → Q .normal (F u) W) : (Code.region id l.toArray true).wp P Q a w := by
 subst hn
 have hx : ∀ (i : Nat) (o : Oper), l[i]? = some o → i ∈ List.range l.length := fun i o ho => by
  refine List.mem_range.2 ?_
  rcases Nat.lt_or_ge i l.length with q | q
  ·exact q
  ·rw [List.getElem?_eq_none q] at ho; cases ho
 refine wp_region_any hm ?_
 refine wpAny_rel (J := fun L a' W => ∃ u, a' = F u ∧ J L u W) ?_ ?_ ?_ _ _ _ _ (by simp) (by simp) ⟨_, (putAll_old a slots).symm.trans (hF _), h0 _ fun i hi => by simp [hi]⟩
 ·intro i o ho e he hb
  have ho' : l[i]? = some o := by simpa using ho
  have h := List.all_eq_true.1 acyc i (hx i o ho');rw [ho'] at h
  simp only [Option.map_some, Option.getD_some] at h
  have h2 := Array.all_eq_true_iff_forall_mem.1 h e he
  simpa [hb] using h2
 ·rintro i o ho L a' W ⟨u, rfl, hJ⟩ hf hd
  have ho' : l[i]? = some o := by simpa using ho
  have h := List.all_eq_true.1 hdst i (hx i o ho');rw [ho'] at h
  simp only [Option.map_some, Option.getD_some] at h
  refine wpOp_step ho fun K' hK => step i o ho' L u W hJ hf hd K' fun v W' h1 h2 => hK _ _ ?_
  cases hds : o.dst with
  | none => exact ⟨u, rfl, h2 hds⟩
  | some s =>
   rw [hds] at h
   refine ⟨updv u s v, ?_, h1 s hds⟩
   rw [← hF u, ← hF]
   exact putAll_put a u slots s v (by simpa using h)
 ·rintro L a' W hall ⟨u, rfl, hJ⟩
  exact fin L u W (fun i hi => hall i (by simpa using hi)) hJ
end
theorem ops_nil {R : Nat → Oper → Prop} {k : Nat} : ∀ (i : Nat) (o : Oper), ([] : List Oper)[i]? = some o → R (k + i) o := fun i o h => by simp at h
theorem ops_cons {R : Nat → Oper → Prop} {k : Nat} {o : Oper} {l : List Oper} (h0 : R k o) (h : ∀ (i : Nat) (o : Oper), l[i]? = some o → R (k + 1 + i) o) : ∀ (i : Nat) (o' : Oper), (o :: l)[i]? = some o' → R (k + i) o' := fun i o' hi => by
 rcases i with _ | i
 ·simp at hi; subst hi; exact h0
 ·rw [show k + (i + 1) = k + 1 + i from by omega]; exact h i o' (by simpa using hi)
theorem ops_all {R : Nat → Oper → Prop} {l : List Oper} (h : ∀ (i : Nat) (o : Oper), l[i]? = some o → R (0 + i) o) : ∀ (i : Nat) (o : Oper), l[i]? = some o → R i o := fun i o hi => by
 have := h i o hi; rwa [Nat.zero_add] at this

theorem below_new1 (W : World) (o : Obj) : Below W.heap.size W (W.alloc o) := (Below.refl _ W).alloc (Nat.le_refl _) o
def Lok (W : World) (g : Nat) (t : TypeId) (cs : Array Value) : Prop := W.heap[g]? = some (.cells cs t (0, 0))
theorem Lok.lt {W : World} {g : Nat} {t : TypeId} {cs : Array Value} (h : Lok W g t cs) : g < W.heap.size := by
 rcases Nat.lt_or_ge g W.heap.size with q | q
 ·exact q
 ·unfold Lok at h; rw [Array.getElem?_eq_none q] at h; cases h
theorem Lok.keep {W W' : World} {g : Nat} {t : TypeId} {cs : Array Value} (h : Lok W g t cs) (hb : Below W.heap.size W W') : Lok W' g t cs := (hb.block g h.lt).trans h
theorem Lok.new (W : World) (t : TypeId) (cs : Array Value) : Lok (W.alloc (.cells cs t)) W.heap.size t cs := by unfold Lok World.alloc; simp
theorem Lok.cell {W : World} {g i : Nat} {t : TypeId} {cs : Array Value} {v : Value} (h : Lok W g t cs) (hv : cs[i]? = some v) : W.cell? ⟨g, i, none⟩ = some v := by
 unfold Lok at h; simp [World.cell?, h, hv]
theorem Lok.frozen {W : World} {g : Nat} {t : TypeId} {cs : Array Value} (h : Lok W g t cs) (i : Nat) : W.frozen? ⟨g, i, none⟩ = false := by
 unfold Lok at h; simp [World.frozen?, h]
theorem Lok.set {W : World} {g i : Nat} {t : TypeId} {cs : Array Value} {v : Value} (h : Lok W g t cs) : Lok (W.setCell ⟨g, i, none⟩ v) g t (cs.setIfInBounds i v) := by
 unfold Lok at h ⊢; simp [World.setCell, Array.getElem?_modify, h]
theorem Lok.far {W : World} {g g' i : Nat} {t : TypeId} {cs : Array Value} {v : Value} (h : Lok W g t cs) (hn : g ≠ g') : Lok (W.setCell ⟨g', i, none⟩ v) g t cs := (Below.heap_setCell W ⟨g', i, none⟩ v g hn).trans h
theorem Lok.keepB {V W : World} {n g : Nat} {t : TypeId} {cs : Array Value} (h : Lok V g t cs) (hb : Below n V W) (hg : g < n) : Lok W g t cs := (hb.block g hg).trans h
theorem Lok.drew {W : World} {g : Nat} {t : TypeId} {cs : Array Value} (h : Lok W g t cs) : Lok W.drew g t cs := h
theorem ptr_apart {u v : Value} {g g2 : Nat} (h : u ≠ v) (e : u = .pointer (some ⟨g, 0, none⟩)) (k : v = .pointer (some ⟨g2, 0, none⟩)) : g2 ≠ g := fun q => h (by rw [e, k, q])
theorem ptr_apart2 {u v : Value} {g g2 : Nat} (h : v ≠ u) (k : v = .pointer (some ⟨g2, 0, none⟩)) (e : u = .pointer (some ⟨g, 0, none⟩)) : g2 ≠ g := fun q => h (by rw [e, k, q])
theorem ptr_new {W : World} {u : Value} {g : Nat} {t : TypeId} {cs : Array Value} (k : u = .pointer (some ⟨g, 0, none⟩)) (l : Lok W g t cs) : Value.pointer (some ⟨W.heap.size, 0, none⟩) ≠ u := fun q => by
 rw [k] at q;have h := l.lt
 simp only [Value.pointer.injEq, Option.some.injEq, Addr.mk.injEq] at q
 omega
theorem ptr_new2 {W : World} {u : Value} {g : Nat} {t : TypeId} {cs : Array Value} (k : u = .pointer (some ⟨g, 0, none⟩)) (l : Lok W g t cs) : u ≠ Value.pointer (some ⟨W.heap.size, 0, none⟩) := fun q => ptr_new k l q.symm
def RowAt (W : World) (v : Value) (n : Nat) (T : TypeId) (cs : Array Value) : Prop := ∃ g, v = .slice (some ⟨g, 0, none⟩) n n ∧ Lok W g T cs
theorem RowAt.keep {W W' : World} {v : Value} {n : Nat} {T : TypeId} {cs : Array Value} (h : RowAt W v n T cs) (hb : Below W.heap.size W W') : RowAt W' v n T cs := by
 obtain ⟨g, e, l⟩ := h
 exact ⟨g, e, l.keep hb⟩
end Go.Proofs.YtcnbbanpnoigdaaGreat
namespace Go.Proofs.YtcnbbanpnoigdaaGreat
open Go.ChangeShapes Go.WideShapes Go.ChangeAt Go.RowKit Go.Joins Go.Deep

def RowK (W : World) (a : Option Addr) (n k : Nat) (F : Nat → Nat → Int) : Prop :=
 n = 0 ∨ ∃ b off, a = some ⟨b, off, none⟩ ∧ b < W.heap.size ∧ ∀ i, i < n → ∀ j, j < k → W.cell? ⟨b, off + (i * k + j), none⟩ = some (.int .i64 (F i j))
theorem RowK.keep {W W' : World} {a : Option Addr} {n k : Nat} {F : Nat → Nat → Int} (h : RowK W a n k F) (hb : Below W.heap.size W W') : RowK W' a n k F := by
 rcases h with h | ⟨b, off, ha, hl, h⟩
 ·exact .inl h
 ·exact .inr ⟨b, off, ha, Nat.lt_of_lt_of_le hl hb.size, fun i hi j hj => keepc hb (h i hi j hj)⟩
theorem RowK.at {W : World} {a : Option Addr} {n k : Nat} {F : Nat → Nat → Int} (h : RowK W a n k F) {i : Nat} (hi : i < n) : ∃ b off, a = some ⟨b, off, none⟩ ∧ b < W.heap.size ∧ ∀ i, i < n → ∀ j, j < k → W.cell? ⟨b, off + (i * k + j), none⟩ = some (.int .i64 (F i j)) := by
 rcases h with h | h
 ·omega
 ·exact h
def AllK (n k : Nat) (F : Nat → Nat → Int) : Prop := ∀ i, i < n → ∀ j, j < k → -9223372036854775808 ≤ F i j ∧ F i j ≤ 9223372036854775807

end Go.Proofs.YtcnbbanpnoigdaaGreat
namespace Go.Proofs.YtcnbbanpnoigdaaGreat
open Go.RowKit

def ints (l : List Int) : Array Value := (l.map fun x => Value.int .i64 x).toArray
theorem ints_at {l : List Int} {k : Nat} (h : k < l.length) : (ints l)[k]? = some (.int .i64 (l.getD k 0)) := by
 unfold ints; simp [h]

set_option maxRecDepth 100000 in
set_option maxHeartbeats 1000000 in
theorem isNear_any (l : List Int) (g c : Nat) (T : TypeId) (w : World) (h : Lok w g T (ints l)) (hl : l.length ≤ 1000000) :
  Calls Tryz.prog 87 #[.slice (some ⟨g, 0, none⟩) l.length c] w fun e w' => e = .returned (.bool (l.all nB)) ∧ Below w.heap.size w w' := by
 have L := Lib.hid h;clear h
 go_enter Tryz.func87, Tryz.ntmps87
 go_wp2_with fail
 go_loopw [7] (fun x wr => ∃ k : Nat, x = .int .i64 k ∧ k ≤ l.length ∧ (∀ j, j < k → nB (l.getD j 0) = true) ∧ Below w.heap.size w wr) (fun x _ => l.length - (intOf x).toNat)
 case atStart => exact ⟨0, rfl, Nat.zero_le _, fun j h => absurd h (by omega), by (repeat (first | exact Below.refl _ _ | assumption | refine Below.drew ?_ | refine below_drewN ?_ _ | refine Below.setCell ?_ (by first | omega | (simp; done) | (simp; omega)) _ | refine Below.alloc ?_ (by first | omega | (simp; done) | (simp; omega)) _))⟩
 case round =>
  obtain ⟨k, rfl, hk, hR, hB⟩ := hrel;have HB := Lib.hid hB;have HR := Lib.hid hR;have c0 : k < l.length → wr.cell? ⟨g, k, none⟩ = some (.int .i64 (l.getD k 0)) := fun q => (L.out.keep hB).cell (ints_at q);clear hB hR
  by_cases hlt : k < l.length
  ·replace c0 := c0 hlt
   have no : ¬ NR (l.getD k 0) → l.all nB = false := fun q => by
    rw [List.all_eq_false]
    refine ⟨l.getD k 0, ?_, ?_⟩
    ·rw [show l.getD k 0 = l[k] from by simp [hlt]]; exact List.getElem_mem _
    ·rw [nB_iff]; exact q
   have yes : NR (l.getD k 0) → ∀ j, j < k + 1 → nB (l.getD j 0) = true := fun q j hj => by
    by_cases e : j = k
    ·rw [e]; exact nB_iff.2 q
    ·exact HR.out j (by omega)
   unfold NR at no yes;generalize l.getD k 0 = x at *;have NO := Lib.hid no;have YES := Lib.hid yes;clear no yes
   rcases Int.lt_or_le x (-1048576) with h1 | h1
   ·have E := NO.out (by omega)
    have d1 : decide (x < -1048576) = true := decide_eq_true h1;clear NO YES
    go_wp2
    go_ret
    exact ⟨by rw [E]; rfl, HB.out⟩
   ·have d1 : decide (x < -1048576) = false := decide_eq_false (by omega)
    rcases Int.lt_or_le 1048576 x with h2 | h2
    ·have E := NO.out (by omega)
     have d2 : decide (1048576 < x) = true := decide_eq_true h2;clear NO YES
     go_wp2
     go_ret
     exact ⟨by rw [E]; rfl, HB.out⟩
    ·have E := YES.out ⟨h1, h2⟩
     have HE := Lib.hid E;have d2 : decide (1048576 < x) = false := decide_eq_false (by omega);clear NO YES E
     go_wp2
     go_roundw
     case rel => exact ⟨k + 1, by go_num, hlt, HE.out, HB.out⟩
     case measure => simp [intOf]; omega
  ·obtain rfl : k = l.length := by omega
   clear c0
   go_wp2
   go_ret
   refine ⟨?_, HB.out⟩
   have e : l.all nB = true := by
    rw [List.all_eq_true]
    intro x hx
    obtain ⟨i, hi, rfl⟩ := List.getElem_of_mem hx;have := HR.out i hi
    rwa [show l.getD i 0 = l[i] from by simp [hi]] at this
   rw [e]; rfl
theorem isNear_2 (x y : Int) (g : Nat) (T : TypeId) (w : World) (h : Lok w g T #[.int .i64 x, .int .i64 y]) :
  Calls Tryz.prog 87 #[.slice (some ⟨g, 0, none⟩) 2 2] w fun e w' => e = .returned (.bool (n2 x y)) ∧ Below w.heap.size w w' := by
 have q := isNear_any [x, y] g 2 T w h (by simp);rw [show [x, y].all nB = n2 x y from by unfold n2; simp [List.all]] at q
 exact q
theorem isNear_3 (x y z : Int) (g : Nat) (T : TypeId) (w : World) (h : Lok w g T #[.int .i64 x, .int .i64 y, .int .i64 z]) :
  Calls Tryz.prog 87 #[.slice (some ⟨g, 0, none⟩) 3 3] w fun e w' => e = .returned (.bool (n3 x y z)) ∧ Below w.heap.size w w' := by
 have q := isNear_any [x, y, z] g 3 T w h (by simp);rw [show [x, y, z].all nB = n3 x y z from by unfold n3; simp [List.all, Bool.and_assoc]] at q
 exact q
end Go.Proofs.YtcnbbanpnoigdaaGreat
namespace Go.Proofs.YtcnbbanpnoigdaaGreat
open Go.RowKit

set_option maxRecDepth 100000 in
set_option maxHeartbeats 1000000 in
theorem is2_any (A : Option Addr) (n c : Nat) (F : Nat → Nat → Int) (w : World) (hr : RowK w A n 2 F) (hn : n ≤ 9223372036854775807) :
  Calls Tryz.prog 64 #[.slice A n c] w fun e w' => e = .returned (.bool (a2 F n)) ∧ Below w.heap.size w w' := by
 have R := Lib.hid hr;clear hr
 go_enter Tryz.func64, Tryz.ntmps64
 go_wp2_with fail
 go_loopw [7] (fun x wr => ∃ k : Nat, x = .int .i64 k ∧ k ≤ n ∧ (∀ j, j < k → n2 (F j 0) (F j 1) = true) ∧ Below w.heap.size w wr) (fun x _ => n - (intOf x).toNat)
 case atStart => exact ⟨0, rfl, Nat.zero_le _, fun j h => absurd h (by omega), by (repeat (first | exact Below.refl _ _ | assumption | refine Below.drew ?_ | refine below_drewN ?_ _ | refine Below.setCell ?_ (by first | omega | (simp; done) | (simp; omega)) _ | refine Below.alloc ?_ (by first | omega | (simp; done) | (simp; omega)) _))⟩
 case round =>
  obtain ⟨k, rfl, hk, hR, hB⟩ := hrel;have HB := Lib.hid hB;have HR := Lib.hid hR;clear hB hR
  by_cases hlt : k < n
  ·obtain ⟨b, o, rfl, hb, hc⟩ := (R.out.keep HB.out).at hlt
   have c0 := hc k hlt 0 (by omega);have c1 := hc k hlt 1 (by omega);rw [Nat.add_zero] at c0;rw [← Nat.add_assoc] at c1;have no : n2 (F k 0) (F k 1) = false → a2 F n = false := allB_no (P := fun i => n2 (F i 0) (F i 1)) hlt
   have yes : n2 (F k 0) (F k 1) = true → ∀ j, j < k + 1 → n2 (F j 0) (F j 1) = true := fun q j hj => by
    by_cases e : j = k
    ·rw [e]; exact q
    ·exact HR.out j (by omega)
   generalize F k 0 = x at *;generalize F k 1 = y at *;have NO := Lib.hid no;have YES := Lib.hid yes;clear no yes hc
   have i0 : (0 : Int) ≤ (k : Int) := by omega
   have i1 : (k : Int) < (n : Int) := by omega
   have i2 : ((k : Int)).toNat = k := by omega
   go_wp2_with fail
   have hbp := below_new1 wr (.cells #[.int .i64 x, .int .i64 y] 36)
   have zp : (wr.alloc (.cells #[.int .i64 x, .int .i64 y] 36)).heap.size = wr.heap.size + 1 := by simp
   replace HB := Lib.hid (HB.out.trans (hbp.mono HB.out.size));have kp := Lib.hid (Lok.new wr 36 #[.int .i64 x, .int .i64 y]);clear hbp;generalize wr.alloc (.cells #[.int .i64 x, .int .i64 y] 36) = Vp at *;have hbq := below_new1 Vp (.cells #[.int .i64 x, .int .i64 y] 3);replace kp := Lib.hid (kp.out.keep hbq)
   have zq : (Vp.alloc (.cells #[.int .i64 x, .int .i64 y] 3)).heap.size = Vp.heap.size + 1 := by simp
   replace HB := Lib.hid (HB.out.trans (hbq.mono HB.out.size));have kq := Lib.hid (Lok.new Vp 3 #[.int .i64 x, .int .i64 y]);clear hbq;generalize Vp.alloc (.cells #[.int .i64 x, .int .i64 y] 3) = Vq at *;rw [zp] at kq zq;clear zp zq
   (((with_reducible refine (isNear_2 x y _ _ _ kq.out).mono ?_); rintro e w1 ⟨rfl, hb1⟩); replace HB := Lib.hid (HB.out.trans (hb1.mono HB.out.size)); clear hb1)
   cases hn2 : n2 x y with
   | false =>
    have E := Lib.hid (NO.out hn2);clear NO YES hn2 c0 c1
    go_wp2
    go_ret
    exact ⟨by rw [E.out]; rfl, HB.out⟩
   | true =>
    have E := Lib.hid (YES.out hn2);clear NO YES hn2 c0 c1
    go_wp2
    go_roundw
    case rel => exact ⟨k + 1, by go_num, hlt, E.out, HB.out⟩
    case measure => simp [intOf]; omega
  ·obtain rfl : k = n := by omega
   go_wp2
   go_ret
   refine ⟨?_, HB.out⟩
   have e : a2 F k = true := allB_yes HR.out
   rw [e]; rfl
set_option maxRecDepth 100000 in
set_option maxHeartbeats 1000000 in
theorem is3_any (A : Option Addr) (n c : Nat) (F : Nat → Nat → Int) (w : World) (hr : RowK w A n 3 F) (hn : n ≤ 9223372036854775807) :
  Calls Tryz.prog 63 #[.slice A n c] w fun e w' => e = .returned (.bool (a3 F n)) ∧ Below w.heap.size w w' := by
 have R := Lib.hid hr;clear hr
 go_enter Tryz.func63, Tryz.ntmps63
 go_wp2_with fail
 go_loopw [7] (fun x wr => ∃ k : Nat, x = .int .i64 k ∧ k ≤ n ∧ (∀ j, j < k → n3 (F j 0) (F j 1) (F j 2) = true) ∧ Below w.heap.size w wr) (fun x _ => n - (intOf x).toNat)
 case atStart => exact ⟨0, rfl, Nat.zero_le _, fun j h => absurd h (by omega), by (repeat (first | exact Below.refl _ _ | assumption | refine Below.drew ?_ | refine below_drewN ?_ _ | refine Below.setCell ?_ (by first | omega | (simp; done) | (simp; omega)) _ | refine Below.alloc ?_ (by first | omega | (simp; done) | (simp; omega)) _))⟩
 case round =>
  obtain ⟨k, rfl, hk, hR, hB⟩ := hrel;have HB := Lib.hid hB;have HR := Lib.hid hR;clear hB hR
  by_cases hlt : k < n
  ·obtain ⟨b, o, rfl, hb, hc⟩ := (R.out.keep HB.out).at hlt
   have c0 := hc k hlt 0 (by omega);have c1 := hc k hlt 1 (by omega);have c2 := hc k hlt 2 (by omega);rw [Nat.add_zero] at c0;rw [← Nat.add_assoc] at c1 c2;have no : n3 (F k 0) (F k 1) (F k 2) = false → a3 F n = false := allB_no (P := fun i => n3 (F i 0) (F i 1) (F i 2)) hlt
   have yes : n3 (F k 0) (F k 1) (F k 2) = true → ∀ j, j < k + 1 → n3 (F j 0) (F j 1) (F j 2) = true := fun q j hj => by
    by_cases e : j = k
    ·rw [e]; exact q
    ·exact HR.out j (by omega)
   generalize F k 0 = x at *;generalize F k 1 = y at *;generalize F k 2 = z at *;have NO := Lib.hid no;have YES := Lib.hid yes;clear no yes hc
   have i0 : (0 : Int) ≤ (k : Int) := by omega
   have i1 : (k : Int) < (n : Int) := by omega
   have i2 : ((k : Int)).toNat = k := by omega
   go_wp2_with fail
   have hbp := below_new1 wr (.cells #[.int .i64 x, .int .i64 y, .int .i64 z] 57)
   have zp : (wr.alloc (.cells #[.int .i64 x, .int .i64 y, .int .i64 z] 57)).heap.size = wr.heap.size + 1 := by simp
   replace HB := Lib.hid (HB.out.trans (hbp.mono HB.out.size));have kp := Lib.hid (Lok.new wr 57 #[.int .i64 x, .int .i64 y, .int .i64 z]);clear hbp;generalize wr.alloc (.cells #[.int .i64 x, .int .i64 y, .int .i64 z] 57) = Vp at *;have hbq := below_new1 Vp (.cells #[.int .i64 x, .int .i64 y, .int .i64 z] 3);replace kp := Lib.hid (kp.out.keep hbq)
   have zq : (Vp.alloc (.cells #[.int .i64 x, .int .i64 y, .int .i64 z] 3)).heap.size = Vp.heap.size + 1 := by simp
   replace HB := Lib.hid (HB.out.trans (hbq.mono HB.out.size));have kq := Lib.hid (Lok.new Vp 3 #[.int .i64 x, .int .i64 y, .int .i64 z]);clear hbq;generalize Vp.alloc (.cells #[.int .i64 x, .int .i64 y, .int .i64 z] 3) = Vq at *;rw [zp] at kq zq;clear zp zq
   (((with_reducible refine (isNear_3 x y z _ _ _ kq.out).mono ?_); rintro e w1 ⟨rfl, hb1⟩); replace HB := Lib.hid (HB.out.trans (hb1.mono HB.out.size)); clear hb1)
   cases hn2 : n3 x y z with
   | false =>
    have E := Lib.hid (NO.out hn2);clear NO YES hn2 c0 c1
    go_wp2
    go_ret
    exact ⟨by rw [E.out]; rfl, HB.out⟩
   | true =>
    have E := Lib.hid (YES.out hn2);clear NO YES hn2 c0 c1
    go_wp2
    go_roundw
    case rel => exact ⟨k + 1, by go_num, hlt, E.out, HB.out⟩
    case measure => simp [intOf]; omega
  ·obtain rfl : k = n := by omega
   go_wp2
   go_ret
   refine ⟨?_, HB.out⟩
   have e : a3 F k = true := allB_yes HR.out
   rw [e]; rfl
theorem rowK_ints {W : World} {g n k : Nat} {T : TypeId} (l : List Int) (h : Lok W g T (ints l)) (hl : l.length = n * k) : RowK W (some ⟨g, 0, none⟩) n k (rowOf k l) := by
 refine .inr ⟨g, 0, rfl, h.lt, fun i hi j hj => ?_⟩
 rw [Nat.zero_add]
 refine h.cell (ints_at ?_)
 rw [hl]
 calc i * k + j < i * k + k := by omega
  _ = (i + 1) * k := by rw [Nat.add_mul, Nat.one_mul]
  _ ≤ n * k := Nat.mul_le_mul_right _ hi
theorem is2_two (a b c d : Int) (g : Nat) (T : TypeId) (w : World) (h : Lok w g T #[.int .i64 a, .int .i64 b, .int .i64 c, .int .i64 d]) :
  Calls Tryz.prog 64 #[.slice (some ⟨g, 0, none⟩) 2 2] w fun e w' => e = .returned (.bool (n2 a b && n2 c d)) ∧ Below w.heap.size w w' := by
 have q := is2_any _ 2 2 _ w (rowK_ints (n := 2) (k := 2) [a, b, c, d] h rfl) (by omega);rw [show a2 (rowOf 2 [a, b, c, d]) 2 = (n2 a b && n2 c d) from by simp [a2, allB, rowOf]] at q
 exact q
theorem is3_two (a b c d e f : Int) (g : Nat) (T : TypeId) (w : World) (h : Lok w g T #[.int .i64 a, .int .i64 b, .int .i64 c, .int .i64 d, .int .i64 e, .int .i64 f]) :
  Calls Tryz.prog 63 #[.slice (some ⟨g, 0, none⟩) 2 2] w fun e' w' => e' = .returned (.bool (n3 a b c && n3 d e f)) ∧ Below w.heap.size w w' := by
 have q := is3_any _ 2 2 _ w (rowK_ints (n := 2) (k := 3) [a, b, c, d, e, f] h rfl) (by omega);rw [show a3 (rowOf 3 [a, b, c, d, e, f]) 2 = (n3 a b c && n3 d e f) from by simp [a3, allB, rowOf]] at q
 exact q
end Go.Proofs.YtcnbbanpnoigdaaGreat
