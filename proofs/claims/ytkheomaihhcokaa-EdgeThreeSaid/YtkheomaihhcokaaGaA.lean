/-
  Texts in one: AppK, AppL, RwS, Rel, AppG.
-/
import Derived.Test.YtkheomaihhcokaaOpenK
import Derived.Maps.AppendAt
import Derived.OwnWalk
import Derived.Laws.AppendOwnNone
import Derived.Test.YtkheomaihhcokaaBase
import Derived.Deep.RegionWith
/-
  append of a row of structs of ints that came in, nil or not, to nothing: a row of the call's own that reads alike.
-/
namespace Go.Proofs.Ytkheomaihhcokaa
open Go.RowKit

def valsK (n k : Nat) (F : Nat → Nat → Int) : List Value := (List.range (n * k)).map fun q => .int .i64 (F (q / k) (q % k))
theorem valsK_length (n k : Nat) (F : Nat → Nat → Int) : (valsK n k F).length = n * k := by simp [valsK]
theorem valsK_at {n k : Nat} {F : Nat → Nat → Int} {q : Nat} {u : Value} (h : (valsK n k F)[q]? = some u) : q < n * k ∧ u = .int .i64 (F (q / k) (q % k)) := by
  unfold valsK at h
  rw [List.getElem?_map] at h
  obtain ⟨x, hx, rfl⟩ := Option.map_eq_some_iff.1 h
  have z : q < n * k := by
    rcases Nat.lt_or_ge q (n * k) with z | z
    · exact z
    · rw [List.getElem?_eq_none (by simpa using z)] at hx; cases hx
  rw [List.getElem?_range z] at hx
  cases hx
  exact ⟨z, rfl⟩
theorem valsK_get {n k i j : Nat} (F : Nat → Nat → Int) (hi : i < n) (hj : j < k) : (valsK n k F)[i * k + j]? = some (.int .i64 (F i j)) := by
  have hq : i * k + j < n * k := Nat.lt_of_lt_of_le (Nat.add_lt_add_left hj (i * k)) (by rw [← Nat.succ_mul]; exact Nat.mul_le_mul_right k hi)
  have hk : 0 < k := by omega
  unfold valsK
  rw [List.getElem?_map, List.getElem?_range hq]
  simp only [Option.map_some]
  rw [Nat.mul_comm i k, Nat.mul_add_div hk, Nat.mul_add_mod, Nat.div_eq_of_lt hj, Nat.mod_eq_of_lt hj, Nat.add_zero]
theorem valsK_one {n k : Nat} {F : Nat → Nat → Int} : ∀ u ∈ valsK n k F, u.oneCell' = true := by
  intro u hu
  unfold valsK at hu
  obtain ⟨q, _, rfl⟩ := List.mem_map.1 hu
  rfl
/-- A row of the call's own, read as structs. -/
theorem rowK_of_own {w : World} {base n k : Nat} {e : TypeId} {v : Value} {F : Nat → Nat → Int} (h : w.ownsRow base e k v n (valsK n k F)) : ∃ a c, v = .slice a n c ∧ (a = none → n = 0 ∧ c = 0) ∧ n ≤ c ∧ c ≤ 9223372036854775807 ∧ RowK w a n k F := by
  have hl := h.lt
  have hc := fun (g : Nat) (hg : v.ownBlock = some g) => h.cells hg
  obtain ⟨h1, ⟨rfl, h0⟩ | ⟨g, cap, cur, rfl, hb, hh, hk, hm, _, _⟩⟩ := h
  · exact ⟨none, 0, by rw [h0], fun _ => ⟨h0, rfl⟩, by omega, by omega, .inl h0⟩
  · refine ⟨_, cap, rfl, (fun h => by cases h), hk, by unfold maxLen at hm; omega, .inr ⟨g, 0, rfl, (hl g rfl).2, fun i hi j hj => ?_⟩⟩
    have := hc g rfl (i * k + j) _ (valsK_get F hi hj)
    rwa [Go.WideShapes.add_plain] at this
theorem wpList_append_rowk {P : Program} {w : World} {ops : Array Oper} {rest : List Oper} {o : Oper} {a : Act} {Q : Exit → Act → World → Prop} (hgd : o.guard = none) (s x : Operand) (t : TypeId)
    (ho : o.op = .call { callee := .builtin .append, args := #[s, x], argTypes := #[t, t] })
    (base : Nat) (e : TypeId) (i : TypeInfo) (z : Value) (k bytes : Nat) (ht : P.underlying t = some (.slice e)) (hi : P.info? e = some i) (hz : i.zero = some z)
    (hsize : i.size = k) (hby : i.bytes = bytes) (hzs : z.cells.size = k) (hsz : 0 < k)
    (A : Option Addr) (n c : Nat) (F : Nat → Nat → Int) (hs : a.eval s = .slice none 0 0) (hx : a.eval x = .slice A n c) (hA : A = none → n = 0 ∧ c = 0) (hr : RowK w A n k F)
    (h63 : n ≤ maxLen) (hbytes : n * bytes ≤ 140737488355328) (hbase : base ≤ w.heap.size)
    (h : ∀ A' c' w', (A' = none → n = 0 ∧ c' = 0) → n ≤ c' → c' ≤ 9223372036854775807 → RowK w' A' n k F → Below w.heap.size w w' → wpList P ops Q rest (a.put o.dst (.slice A' n c')) w') : wpList P ops Q (o :: rest) a w := by
  rcases A with _ | ad
  · obtain ⟨rfl, rfl⟩ := hA rfl
    exact wpList_append_own_none hgd s x t ho base e i k ht hi (.slice none 0 0) 0 [] hs (World.ownsRow_nil _ _ _ _) hx (h none 0 w (fun _ => ⟨rfl, rfl⟩) (Nat.le_refl _) (by omega) (.inl rfl) (Below.refl _ _))
  · refine wpList_append_own_at w hgd s x t ho base e i z k bytes ht hi hz hsize hby hzs hsz (.slice none 0 0) 0 [] hs (World.ownsRow_nil _ _ _ _) ad n c (valsK n k F) hx (valsK_length n k F) ?_ valsK_one (by omega) (by rw [Nat.zero_add]; exact hbytes) hbase ?_
    · intro q u hq
      obtain ⟨h1, rfl⟩ := valsK_at hq
      rcases hr with rfl | ⟨b, off, e, _, hc⟩
      · simp at h1
      · cases e
        have hd : q / k < n := (Nat.div_lt_iff_lt_mul hsz).2 h1
        have := hc (q / k) hd (q % k) (Nat.mod_lt _ hsz)
        rw [Go.WideShapes.add_plain]
        rwa [Nat.mul_comm, Nat.div_add_mod] at this
    · intro v' w' hown hgrow _ _
      rw [List.nil_append, Nat.zero_add] at hown
      obtain ⟨a', c', rfl, h1, h2, h3, h4⟩ := rowK_of_own hown
      exact h a' c' w' h1 h2 h3 h4 ((Below.refl _ w).grown hgrow (Nat.le_refl _) (fun g hg => by simp [Value.ownBlock] at hg))
end Go.Proofs.Ytkheomaihhcokaa
/-
  append of a row of structs of ints behind a row of the call's own: the row of both.
-/
namespace Go.Proofs.Ytkheomaihhcokaa
open Go.RowKit

theorem valsK_congr {n k : Nat} {F G : Nat → Nat → Int} (h : ∀ i, i < n → ∀ j, j < k → F i j = G i j) : valsK n k F = valsK n k G := by
  unfold valsK
  refine List.map_congr_left fun q hq => ?_
  rw [List.mem_range] at hq
  have hk : 0 < k := by
    rcases Nat.eq_zero_or_pos k with z | z
    · subst z; simp at hq
    · exact z
  rw [h (q / k) ((Nat.div_lt_iff_lt_mul hk).2 hq) (q % k) (Nat.mod_lt _ hk)]
/-- One row behind the other. -/
def catK (n : Nat) (F G : Nat → Nat → Int) : Nat → Nat → Int := fun t j => if t < n then F t j else G (t - n) j
theorem catK_lo {n t : Nat} (F G : Nat → Nat → Int) (j : Nat) (h : t < n) : catK n F G t j = F t j := if_pos h
theorem catK_hi {n t : Nat} (F G : Nat → Nat → Int) (j : Nat) (h : n ≤ t) : catK n F G t j = G (t - n) j := if_neg (by omega)
theorem valsK_cat (n m k : Nat) (F G : Nat → Nat → Int) : valsK n k F ++ valsK m k G = valsK (n + m) k (catK n F G) := by
  rcases Nat.eq_zero_or_pos k with z | hk
  · subst z; simp [valsK]
  · unfold valsK
    rw [Nat.add_mul, List.range_add, List.map_append, List.map_map]
    congr 1
    · refine List.map_congr_left fun q hq => ?_
      rw [List.mem_range] at hq
      rw [catK_lo _ _ _ ((Nat.div_lt_iff_lt_mul hk).2 hq)]
    · refine List.map_congr_left fun q hq => ?_
      have e1 : (n * k + q) / k = n + q / k := by rw [Nat.add_comm, Nat.add_mul_div_right _ _ hk, Nat.add_comm]
      have e2 : (n * k + q) % k = q % k := by rw [Nat.add_comm, Nat.add_mul_mod_self_right]
      simp only [Function.comp, e1, e2]
      rw [catK_hi _ _ _ (Nat.le_add_right _ _), Nat.add_sub_cancel_left]
/-- A row of the call's own, read as structs; where it lies. -/
theorem rowK_of_own2 {w : World} {base n k : Nat} {e : TypeId} {v : Value} {F : Nat → Nat → Int} (h : w.ownsRow base e k v n (valsK n k F)) : ∃ a c, v = .slice a n c ∧ ((a = none ∧ n = 0 ∧ c = 0) ∨ ∃ g, a = some ⟨g, 0, none⟩) ∧ n ≤ c ∧ c ≤ 9223372036854775807 ∧ RowK w a n k F := by
  obtain ⟨a, c, e1, h1, h2, h3, h4⟩ := rowK_of_own h
  refine ⟨a, c, e1, ?_, h2, h3, h4⟩
  obtain ⟨_, ⟨rfl, h0⟩ | ⟨g, cap, cur, rfl, _⟩⟩ := h
  · cases e1; exact .inl ⟨rfl, h0, rfl⟩
  · cases e1; exact .inr ⟨g, rfl⟩
theorem wpList_append_catk {P : Program} {w : World} {ops : Array Oper} {rest : List Oper} {o : Oper} {a : Act} {Q : Exit → Act → World → Prop} (hgd : o.guard = none) (s x : Operand) (t : TypeId)
    (ho : o.op = .call { callee := .builtin .append, args := #[s, x], argTypes := #[t, t] })
    (base : Nat) (e : TypeId) (i : TypeInfo) (z : Value) (k bytes : Nat) (ht : P.underlying t = some (.slice e)) (hi : P.info? e = some i) (hz : i.zero = some z)
    (hsize : i.size = k) (hby : i.bytes = bytes) (hzs : z.cells.size = k) (hsz : 0 < k)
    (v : Value) (p : Nat) (G : Nat → Nat → Int) (hs : a.eval s = v) (hown : w.ownsRow base e k v p (valsK p k G))
    (A : Option Addr) (n c : Nat) (F : Nat → Nat → Int) (hx : a.eval x = .slice A n c) (hA : A = none → n = 0 ∧ c = 0) (hr : RowK w A n k F)
    (h63 : p + n ≤ maxLen) (hbytes : (p + n) * bytes ≤ 140737488355328) (hbase : base ≤ w.heap.size)
    (h : ∀ v' w', w'.ownsRow base e k v' (p + n) (valsK (p + n) k (catK p G F)) → Below base w w' → wpList P ops Q rest (a.put o.dst v') w') : wpList P ops Q (o :: rest) a w := by
  rcases A with _ | ad
  · obtain ⟨rfl, rfl⟩ := hA rfl
    refine wpList_append_own_none hgd s x t ho base e i k ht hi v p (valsK p k G) hs hown hx (h v w ?_ (Below.refl _ _))
    rw [Nat.add_zero, valsK_congr (G := G) (fun i hi j _ => catK_lo G F j hi)]
    exact hown
  · refine wpList_append_own_at w hgd s x t ho base e i z k bytes ht hi hz hsize hby hzs hsz v p (valsK p k G) hs hown ad n c (valsK n k F) hx (valsK_length n k F) ?_ valsK_one h63 hbytes hbase ?_
    · intro q u hq
      obtain ⟨h1, rfl⟩ := valsK_at hq
      rcases hr with rfl | ⟨b, off, e, _, hc⟩
      · simp at h1
      · cases e
        have hd : q / k < n := (Nat.div_lt_iff_lt_mul hsz).2 h1
        have := hc (q / k) hd (q % k) (Nat.mod_lt _ hsz)
        rw [Go.WideShapes.add_plain]
        rwa [Nat.mul_comm, Nat.div_add_mod] at this
    · intro v' w' hown' hgrow _ _
      rw [valsK_cat] at hown'
      exact h v' w' hown' ((Below.refl _ w).grown hgrow hbase (fun g hg => (hown.lt g hg).1))
/-- A part of a row. -/
theorem RowK.part {W : World} {a : Option Addr} {n k : Nat} {F : Nat → Nat → Int} (h : RowK W a n k F) {m : Nat} (hm : m ≤ n) : RowK W a m k F := by
  rcases h with h | ⟨b, off, ha, hl, h⟩
  · exact .inl (by omega)
  · exact .inr ⟨b, off, ha, hl, fun i hi j hj => h i (by omega) j hj⟩
theorem RowK.from {W : World} {b off n k : Nat} {F : Nat → Nat → Int} (h : RowK W (some ⟨b, off, none⟩) n k F) (m : Nat) : RowK W (some ⟨b, off + m * k, none⟩) (n - m) k (fun t j => F (m + t) j) := by
  rcases h with h | ⟨b', off', ha, hl, h⟩
  · exact .inl (by omega)
  · cases ha
    refine .inr ⟨_, _, rfl, hl, fun i hi j hj => ?_⟩
    have := h (m + i) (by omega) j hj
    rwa [Nat.add_mul, Nat.add_assoc, ← Nat.add_assoc off] at this
theorem rowK_new (W : World) (T : TypeId) (x y : Int) : RowK (W.alloc (.cells #[.int .i64 x, .int .i64 y] T)) (some ⟨W.heap.size, 0, none⟩) 1 2 (fun _ j => if j = 0 then x else y) := by
  refine .inr ⟨_, _, rfl, by simp, fun i hi j hj => ?_⟩
  obtain rfl : i = 0 := by omega
  match j, hj with
  | 0, _ => simp
  | 1, _ => simp
theorem ownK_keep {w w' : World} {base : Nat} {e : TypeId} {k : Nat} {v : Value} {n : Nat} {xs : List Value} (h : w.ownsRow base e k v n xs) (hb : Below w.heap.size w w') : w'.ownsRow base e k v n xs :=
  h.kept (row := none) ⟨hb.os, hb.tape, hb.output, hb.size, fun k hk _ => hb.block k hk⟩ (by
    rcases h.2 with ⟨rfl, _⟩ | ⟨g, cap, cur, rfl, _⟩
    · exact .inl rfl
    · exact .inr (by simp [Value.ownBlock]))
end Go.Proofs.Ytkheomaihhcokaa
/-
  A row of texts in memory.
-/
namespace Go.Proofs.Ytkheomaihhcokaa
open Go.RowKit

/-- A row of texts in memory. -/
def RowS (W : World) (a : Option Addr) (n c : Nat) (F : Nat → ByteArray) : Prop :=
  n = 0 ∨ ∃ b off, a = some ⟨b, off, none⟩ ∧ b < W.heap.size ∧ n ≤ c ∧ ∀ i, i < n → W.cell? ⟨b, off + i, none⟩ = some (.string (F i))
theorem RowS.keep {W W' : World} {a : Option Addr} {n c : Nat} {F : Nat → ByteArray} (h : RowS W a n c F) (hb : Below W.heap.size W W') : RowS W' a n c F := by
  rcases h with h | ⟨b, off, ha, hl, hc, h⟩
  · exact .inl h
  · exact .inr ⟨b, off, ha, Nat.lt_of_lt_of_le hl hb.size, hc, fun i hi => keepc hb (h i hi)⟩
theorem RowS.at {W : World} {a : Option Addr} {n c : Nat} {F : Nat → ByteArray} (h : RowS W a n c F) {i : Nat} (hi : i < n) : ∃ b off, a = some ⟨b, off, none⟩ ∧ b < W.heap.size ∧ ∀ i, i < n → W.cell? ⟨b, off + i, none⟩ = some (.string (F i)) := by
  rcases h with h | ⟨b, off, ha, hl, hc, h⟩
  · omega
  · exact ⟨b, off, ha, hl, h⟩
end Go.Proofs.Ytkheomaihhcokaa
/-
  A region that draws its order: one condition on what has come up so far, the values and the world, that each operation carries on. No order is walked.
-/
namespace Go.Proofs.Ytkheomaihhcokaa
open Go.RowKit

def updL (L : Nat → Bool) (i : Nat) : Nat → Bool := fun j => if j = i then true else L j
def updv (u : Nat → Value) (s : Nat) (v : Value) : Nat → Value := fun j => if j = s then v else u j
theorem updL_same (L : Nat → Bool) (i : Nat) : updL L i i = true := if_pos rfl
theorem updL_other (L : Nat → Bool) {i j : Nat} (h : j ≠ i) : updL L i j = L j := if_neg h
theorem updv_same (u : Nat → Value) (i : Nat) (v : Value) : updv u i v i = v := if_pos rfl
theorem updv_other (u : Nat → Value) {i j : Nat} (v : Value) (h : j ≠ i) : updv u i v j = u j := if_neg h

/-- The slots of a region, whatever they hold. -/
def putAll (a : Act) (u : Nat → Value) : List Nat → Act
  | [] => a
  | s :: l => (putAll a u l).put (some s) (u s)
theorem putAll_size (a : Act) (u : Nat → Value) (l : List Nat) : (putAll a u l).tmps.size = a.tmps.size := by
  induction l with
  | nil => rfl
  | cons s l ih => simp [putAll, Act.put, ih]
theorem putAll_defers (a : Act) (u : Nat → Value) (l : List Nat) : (putAll a u l).defers = a.defers := by
  induction l with
  | nil => rfl
  | cons s l ih => simp [putAll, Act.put, ih]
theorem putAll_get (a : Act) (u : Nat → Value) (l : List Nat) (i : Nat) (hi : i < a.tmps.size) : (putAll a u l).tmps[i]'(by rw [putAll_size]; exact hi) = if i ∈ l then u i else a.tmps[i] := by
  induction l with
  | nil => simp [putAll]
  | cons s l ih =>
    simp only [putAll, Act.put]
    rw [Array.getElem_setIfInBounds (by rw [putAll_size]; exact hi)]
    by_cases h : s = i
    · subst h; simp
    · rw [if_neg h, ih]
      have : (i ∈ s :: l) ↔ (i ∈ l) := by simp [Ne.symm h]
      simp only [this]
theorem putAll_put (a : Act) (u : Nat → Value) (l : List Nat) (s : Nat) (v : Value) (hs : s ∈ l) : (putAll a u l).put (some s) v = putAll a (updv u s v) l := by
  have hd : ((putAll a u l).put (some s) v).defers = (putAll a (updv u s v) l).defers := by
    show (putAll a u l).defers = _
    rw [putAll_defers, putAll_defers]
  have ht : ((putAll a u l).put (some s) v).tmps = (putAll a (updv u s v) l).tmps := by
    apply Array.ext
    · simp [Act.put, putAll_size]
    · intro i h1 h2
      have hi : i < a.tmps.size := by rwa [putAll_size] at h2
      simp only [Act.put]
      rw [Array.getElem_setIfInBounds (by rw [putAll_size]; exact hi), putAll_get a u l i hi, putAll_get a _ l i hi]
      by_cases h : s = i
      · subst h; rw [if_pos rfl, if_pos hs, updv_same]
      · rw [if_neg h]
        by_cases k : i ∈ l
        · rw [if_pos k, if_pos k, updv_other _ _ (Ne.symm h)]
        · rw [if_neg k, if_neg k]
  cases h1 : (putAll a u l).put (some s) v
  cases h2 : putAll a (updv u s v) l
  rw [h1] at hd ht
  rw [h2] at hd ht
  cases hd
  cases ht
  rfl
theorem putAll_old (a : Act) (l : List Nat) : putAll a (fun s => a.tmps.getD s undef) l = a := by
  have hd := putAll_defers a (fun s => a.tmps.getD s undef) l
  have ht : (putAll a (fun s => a.tmps.getD s undef) l).tmps = a.tmps := by
    apply Array.ext
    · exact putAll_size _ _ _
    · intro i h1 h2
      rw [putAll_get a _ l i h2]
      by_cases k : i ∈ l
      · rw [if_pos k]; simp [Array.getD, h2]
      · rw [if_neg k]
  cases h : putAll a (fun s => a.tmps.getD s undef) l
  rw [h] at hd ht
  cases a
  cases hd
  cases ht
  rfl

section
variable {P : Program} {ops : Array Oper} {Q : Exit → Act → World → Prop} {md : Region.Mode}

theorem all_listed {listed : Array Bool} (hsz : listed.size = ops.size) (acyc : ∀ (i : Nat) (o : Oper), ops[i]? = some o → ∀ e ∈ o.after, Region.binds md e = true → e.on < i) (hr : Region.ready md ops listed = []) :
    ∀ i, i < ops.size → listed.getD i true = true := by
  intro i
  induction i using Nat.strongRecOn with
  | ind i ih =>
    intro hi
    cases hl : listed.getD i true with
    | true => rfl
    | false =>
      have : i ∈ Region.ready md ops listed := by
        refine mem_ready.2 ⟨hl, ops[i], Array.getElem?_eq_getElem hi, fun e he hb => ?_⟩
        have h1 := acyc i _ (Array.getElem?_eq_getElem hi) e he hb
        have h2 := ih e.on h1 (by omega)
        have h3 : e.on < listed.size := by omega
        simpa [h3] using h2
      rw [hr] at this
      cases this

theorem wpAny_rel (J : (Nat → Bool) → Act → World → Prop)
    (acyc : ∀ (i : Nat) (o : Oper), ops[i]? = some o → ∀ e ∈ o.after, Region.binds md e = true → e.on < i)
    (step : ∀ (i : Nat) (o : Oper), ops[i]? = some o → ∀ L a w, J L a w → L i = false → (∀ e ∈ o.after, Region.binds md e = true → L e.on = true) → wpOp P ops Q i (J (updL L i)) a w)
    (fin : ∀ L a w, (∀ i, i < ops.size → L i = true) → J L a w → Q .normal a w) :
    ∀ (fuel : Nat) (listed : Array Bool) (a : Act) (w : World), listed.size = ops.size → listed.toList.count false ≤ fuel → J (fun i => listed.getD i true) a w → wpAny P md ops Q fuel listed a w := by
  intro fuel
  induction fuel with
  | zero =>
    intro listed a w hsz hc hJ
    have hall : ∀ i, i < ops.size → listed.getD i true = true := by
      intro i hi
      have h0 := List.count_eq_zero.1 (Nat.le_zero.1 hc)
      have hi' : i < listed.size := by omega
      have : listed[i] ≠ false := fun h => h0 (by rw [← h]; exact Array.mem_toList_iff.2 (Array.getElem_mem hi'))
      simpa [hi'] using this
    refine ⟨?_, fin _ a w hall hJ⟩
    cases hr : Region.ready md ops listed with
    | nil => rfl
    | cons i l =>
      have h := (mem_ready.1 (show i ∈ Region.ready md ops listed by rw [hr]; exact List.mem_cons_self ..))
      obtain ⟨h1, o, ho, _⟩ := h
      have hi : i < ops.size := by
        rcases Nat.lt_or_ge i ops.size with q | q
        · exact q
        · rw [Array.getElem?_eq_none q] at ho; cases ho
      rw [hall i hi] at h1
      cases h1
  | succ fuel ih =>
    intro listed a w hsz hc hJ
    refine ⟨fun hr => fin _ a w (all_listed hsz acyc hr) hJ, fun i hi => ?_⟩
    obtain ⟨h1, o, ho, h2⟩ := mem_ready.1 hi
    have hlt : i < listed.size := by
      rcases Nat.lt_or_ge i listed.size with q | q
      · exact q
      · simp [Array.getElem?_eq_none q] at h1
    have hd : ∀ e ∈ o.after, Region.binds md e = true → listed.getD e.on true = true := fun e he hb => by
      have h3 := h2 e he hb
      have h4 := acyc i o ho e he hb
      have h5 : e.on < listed.size := by omega
      simpa [h5] using h3
    refine wpOp_mono (fun a' w' h => ih _ a' w' (by simpa using hsz) ?_ ?_) (step i o ho _ a w hJ h1 hd)
    · have hf : listed[i] = false := by simpa [hlt] using h1
      have : (listed.setIfInBounds i true).toList = listed.toList.set i true := by simp
      rw [this, List.count_set (by simpa using hlt)]
      simp [hf]
      simp at hc
      omega
    · have e : (fun j => (listed.setIfInBounds i true).getD j true) = updL (fun j => listed.getD j true) i := by
        funext j
        unfold updL
        by_cases hj : j = i
        · subst hj; simp
        · rw [if_neg hj]
          simp [Ne.symm hj]
      rw [e]
      exact h

/-- What one operation owes. -/
def RelStep (P : Program) (l : List Oper) (Q : Exit → Act → World → Prop) (F : (Nat → Value) → Act) (J : (Nat → Bool) → (Nat → Value) → World → Prop) (i : Nat) (o : Oper) : Prop :=
  ∀ L u W, J L u W → L i = false → (∀ e ∈ o.after, Region.binds .any e = true → L e.on = true) →
      ∀ K' : Act → World → Prop, (∀ v W', (∀ s, o.dst = some s → J (updL L i) (updv u s v) W') → (o.dst = none → J (updL L i) u W') → K' ((F u).put o.dst v) W') →
        if Region.wanted o (yielded l.toArray (F u).tmps) = true then Oper.wp P o (F u) W K' Q else K' ((F u).put o.dst undef) W
/-- THE RULE. 'slots': the slots that the region writes; 'F u': the frame where they hold u; J: what has come up (L), what the slots hold (u), the world. -/
theorem wp_region_rel {id : Nat} {a : Act} {w : World} {l : List Oper} (hm : P.follows .mixedOrders = true) (slots : List Nat) (F : (Nat → Value) → Act) (hF : ∀ u, putAll a u slots = F u)
    (J : (Nat → Bool) → (Nat → Value) → World → Prop)
    (acyc : (List.range l.length).all (fun i => ((l[i]?).map (fun o => o.after.all fun e => !Region.binds .any e || decide (e.on < i))).getD true) = true)
    (hdst : (List.range l.length).all (fun i => ((l[i]?).map (fun o => match o.dst with | some s => slots.contains s | none => true)).getD true) = true)
    (n : Nat) (hn : l.length = n)
    (h0 : ∀ L u, (∀ i, i < n → L i = false) → J L u w.drew)
    (step : ∀ (i : Nat) (o : Oper), l[i]? = some o → RelStep P l Q F J i o)
    (fin : ∀ L u W, (∀ i, i < n → L i = true) → J L u W → Q .normal (F u) W) : (Code.region id l.toArray true).wp P Q a w := by
  subst hn
  have hx : ∀ (i : Nat) (o : Oper), l[i]? = some o → i ∈ List.range l.length := fun i o ho => by
    refine List.mem_range.2 ?_
    rcases Nat.lt_or_ge i l.length with q | q
    · exact q
    · rw [List.getElem?_eq_none q] at ho; cases ho
  refine wp_region_any hm ?_
  refine wpAny_rel (J := fun L a' W => ∃ u, a' = F u ∧ J L u W) ?_ ?_ ?_ _ _ _ _ (by simp) (by simp) ⟨_, (putAll_old a slots).symm.trans (hF _), h0 _ _ fun i hi => by simp [hi]⟩
  · intro i o ho e he hb
    have ho' : l[i]? = some o := by simpa using ho
    have h := List.all_eq_true.1 acyc i (hx i o ho')
    rw [ho'] at h
    simp only [Option.map_some, Option.getD_some] at h
    have h2 := Array.all_eq_true_iff_forall_mem.1 h e he
    simpa [hb] using h2
  · rintro i o ho L a' W ⟨u, rfl, hJ⟩ hf hd
    have ho' : l[i]? = some o := by simpa using ho
    have h := List.all_eq_true.1 hdst i (hx i o ho')
    rw [ho'] at h
    simp only [Option.map_some, Option.getD_some] at h
    refine wpOp_step ho fun K' hK => step i o ho' L u W hJ hf hd K' fun v W' h1 h2 => hK _ _ ?_
    cases hds : o.dst with
    | none => exact ⟨u, rfl, h2 hds⟩
    | some s =>
      rw [hds] at h
      refine ⟨updv u s v, ?_, h1 s hds⟩
      rw [← hF u, ← hF]
      exact putAll_put a u slots s v (by simpa using h)
  · rintro L a' W hall ⟨u, rfl, hJ⟩
    exact fin L u W (fun i hi => hall i (by simpa using hi)) hJ
/-- The same, with what the slots hold ahead of the region. 'slots': the slots that the region writes; 'F u': the frame where they hold u; J: what has come up (L), what the slots hold (u), the world. -/
theorem wp_region_rel2 {id : Nat} {a : Act} {w : World} {l : List Oper} (hm : P.follows .mixedOrders = true) (slots : List Nat) (F : (Nat → Value) → Act) (hF : ∀ u, putAll a u slots = F u)
    (J : (Nat → Bool) → (Nat → Value) → World → Prop)
    (acyc : (List.range l.length).all (fun i => ((l[i]?).map (fun o => o.after.all fun e => !Region.binds .any e || decide (e.on < i))).getD true) = true)
    (hdst : (List.range l.length).all (fun i => ((l[i]?).map (fun o => match o.dst with | some s => slots.contains s | none => true)).getD true) = true)
    (n : Nat) (hn : l.length = n)
    (h0 : ∀ L, (∀ i, i < n → L i = false) → J L (fun s => a.tmps.getD s undef) w.drew)
    (step : ∀ (i : Nat) (o : Oper), l[i]? = some o → RelStep P l Q F J i o)
    (fin : ∀ L u W, (∀ i, i < n → L i = true) → J L u W → Q .normal (F u) W) : (Code.region id l.toArray true).wp P Q a w := by
  subst hn
  have hx : ∀ (i : Nat) (o : Oper), l[i]? = some o → i ∈ List.range l.length := fun i o ho => by
    refine List.mem_range.2 ?_
    rcases Nat.lt_or_ge i l.length with q | q
    · exact q
    · rw [List.getElem?_eq_none q] at ho; cases ho
  refine wp_region_any hm ?_
  refine wpAny_rel (J := fun L a' W => ∃ u, a' = F u ∧ J L u W) ?_ ?_ ?_ _ _ _ _ (by simp) (by simp) ⟨_, (putAll_old a slots).symm.trans (hF _), h0 _ fun i hi => by simp [hi]⟩
  · intro i o ho e he hb
    have ho' : l[i]? = some o := by simpa using ho
    have h := List.all_eq_true.1 acyc i (hx i o ho')
    rw [ho'] at h
    simp only [Option.map_some, Option.getD_some] at h
    have h2 := Array.all_eq_true_iff_forall_mem.1 h e he
    simpa [hb] using h2
  · rintro i o ho L a' W ⟨u, rfl, hJ⟩ hf hd
    have ho' : l[i]? = some o := by simpa using ho
    have h := List.all_eq_true.1 hdst i (hx i o ho')
    rw [ho'] at h
    simp only [Option.map_some, Option.getD_some] at h
    refine wpOp_step ho fun K' hK => step i o ho' L u W hJ hf hd K' fun v W' h1 h2 => hK _ _ ?_
    cases hds : o.dst with
    | none => exact ⟨u, rfl, h2 hds⟩
    | some s =>
      rw [hds] at h
      refine ⟨updv u s v, ?_, h1 s hds⟩
      rw [← hF u, ← hF]
      exact putAll_put a u slots s v (by simpa using h)
  · rintro L a' W hall ⟨u, rfl, hJ⟩
    exact fin L u W (fun i hi => hall i (by simpa using hi)) hJ
end
theorem ops_nil {R : Nat → Oper → Prop} {k : Nat} : ∀ (i : Nat) (o : Oper), ([] : List Oper)[i]? = some o → R (k + i) o := fun i o h => by simp at h
theorem ops_cons {R : Nat → Oper → Prop} {k : Nat} {o : Oper} {l : List Oper} (h0 : R k o) (h : ∀ (i : Nat) (o : Oper), l[i]? = some o → R (k + 1 + i) o) : ∀ (i : Nat) (o' : Oper), (o :: l)[i]? = some o' → R (k + i) o' := fun i o' hi => by
  rcases i with _ | i
  · simp at hi; subst hi; exact h0
  · rw [show k + (i + 1) = k + 1 + i from by omega]; exact h i o' (by simpa using hi)
theorem ops_all {R : Nat → Oper → Prop} {l : List Oper} (h : ∀ (i : Nat) (o : Oper), l[i]? = some o → R (0 + i) o) : ∀ (i : Nat) (o : Oper), l[i]? = some o → R i o := fun i o hi => by
  have := h i o hi; rwa [Nat.zero_add] at this

theorem below_new1 (W : World) (o : Obj) : Below W.heap.size W (W.alloc o) := (Below.refl _ W).alloc (Nat.le_refl _) o
/-- Block g is just the cells cs of type t, none frozen. -/
def Lok (W : World) (g : Nat) (t : TypeId) (cs : Array Value) : Prop := W.heap[g]? = some (.cells cs t (0, 0))
theorem Lok.lt {W : World} {g : Nat} {t : TypeId} {cs : Array Value} (h : Lok W g t cs) : g < W.heap.size := by
  rcases Nat.lt_or_ge g W.heap.size with q | q
  · exact q
  · unfold Lok at h; rw [Array.getElem?_eq_none q] at h; cases h
theorem Lok.keep {W W' : World} {g : Nat} {t : TypeId} {cs : Array Value} (h : Lok W g t cs) (hb : Below W.heap.size W W') : Lok W' g t cs := (hb.block g h.lt).trans h
theorem Lok.new (W : World) (t : TypeId) (cs : Array Value) : Lok (W.alloc (.cells cs t)) W.heap.size t cs := by unfold Lok World.alloc; simp
theorem Lok.cell {W : World} {g i : Nat} {t : TypeId} {cs : Array Value} {v : Value} (h : Lok W g t cs) (hv : cs[i]? = some v) : W.cell? ⟨g, i, none⟩ = some v := by
  unfold Lok at h; simp [World.cell?, h, hv]
theorem Lok.frozen {W : World} {g : Nat} {t : TypeId} {cs : Array Value} (h : Lok W g t cs) (i : Nat) : W.frozen? ⟨g, i, none⟩ = false := by
  unfold Lok at h; simp [World.frozen?, h]
theorem Lok.set {W : World} {g i : Nat} {t : TypeId} {cs : Array Value} {v : Value} (h : Lok W g t cs) : Lok (W.setCell ⟨g, i, none⟩ v) g t (cs.setIfInBounds i v) := by
  unfold Lok at h ⊢; simp [World.setCell, Array.getElem?_modify, h]
theorem Lok.far {W : World} {g g' i : Nat} {t : TypeId} {cs : Array Value} {v : Value} (h : Lok W g t cs) (hn : g ≠ g') : Lok (W.setCell ⟨g', i, none⟩ v) g t cs := (Below.heap_setCell W ⟨g', i, none⟩ v g hn).trans h
theorem Lok.keepB {V W : World} {n g : Nat} {t : TypeId} {cs : Array Value} (h : Lok V g t cs) (hb : Below n V W) (hg : g < n) : Lok W g t cs := (hb.block g hg).trans h
theorem Lok.drew {W : World} {g : Nat} {t : TypeId} {cs : Array Value} (h : Lok W g t cs) : Lok W.drew g t cs := h
theorem ptr_apart {u v : Value} {g g2 : Nat} (h : u ≠ v) (e : u = .pointer (some ⟨g, 0, none⟩)) (k : v = .pointer (some ⟨g2, 0, none⟩)) : g2 ≠ g := fun q => h (by rw [e, k, q])
theorem ptr_apart2 {u v : Value} {g g2 : Nat} (h : v ≠ u) (k : v = .pointer (some ⟨g2, 0, none⟩)) (e : u = .pointer (some ⟨g, 0, none⟩)) : g2 ≠ g := fun q => h (by rw [e, k, q])
theorem ptr_new {W : World} {u : Value} {g : Nat} {t : TypeId} {cs : Array Value} (k : u = .pointer (some ⟨g, 0, none⟩)) (l : Lok W g t cs) : Value.pointer (some ⟨W.heap.size, 0, none⟩) ≠ u := fun q => by
  rw [k] at q
  have h := l.lt
  simp only [Value.pointer.injEq, Option.some.injEq, Addr.mk.injEq] at q
  omega
theorem ptr_new2 {W : World} {u : Value} {g : Nat} {t : TypeId} {cs : Array Value} (k : u = .pointer (some ⟨g, 0, none⟩)) (l : Lok W g t cs) : u ≠ Value.pointer (some ⟨W.heap.size, 0, none⟩) := fun q => ptr_new k l q.symm
/-- A row of the call's own, just laid, in a slot. -/
def RowAt (W : World) (v : Value) (n : Nat) (T : TypeId) (cs : Array Value) : Prop := ∃ g, v = .slice (some ⟨g, 0, none⟩) n n ∧ Lok W g T cs
theorem RowAt.keep {W W' : World} {v : Value} {n : Nat} {T : TypeId} {cs : Array Value} (h : RowAt W v n T cs) (hb : Below W.heap.size W W') : RowAt W' v n T cs := by
  obtain ⟨g, e, l⟩ := h
  exact ⟨g, e, l.keep hb⟩
end Go.Proofs.Ytkheomaihhcokaa
/-
  append of one element of K cells (a string, a struct, an array of structs) behind a row of the call's own; rows of texts of the call's own, read.
-/
namespace Go.Proofs.Ytkheomaihhcokaa
open Go.RowKit

theorem app_one {W : World} {ops : Array Oper} {rest : List Oper} {o : Oper} {a : Act} {Q : Exit → Act → World → Prop} (hgd : o.guard = none) (s x : Operand) (t e : TypeId) (z : Value) (K bytes : Nat)
    (ht : Try.prog.underlying t = some (.slice e)) (hinfo : (Try.prog.info? e).map (fun i => (i.zero, i.size, i.bytes)) = some (some z, K, bytes)) (hzs : z.cells.size = K) (hK : 0 < K)
    (ho : o.op = .call { callee := .builtin .append, args := #[s, x], argTypes := #[t, t] })
    (base : Nat) (v : Value) (k : Nat) (L cs : List Value) (hcs : cs.length = K) (hone : ∀ u ∈ cs, u.oneCell' = true) (hs : a.eval s = v) (hown : W.ownsRow base e K v k L) (hx : a.eval x = .slice (some ⟨W.heap.size, 0, none⟩) 1 1)
    (hk : (k + 1) * bytes ≤ 140737488355328) (hk2 : k ≤ 1000000) (hbase : base ≤ W.heap.size)
    (h : ∀ v' w', w'.ownsRow base e K v' (k + 1) (L ++ cs) → Below base W w' → wpList Try.prog ops Q rest (a.put o.dst v') w') : wpList Try.prog ops Q (o :: rest) a (W.alloc (.cells cs.toArray e)) := by
  obtain ⟨i0, hi, hz0, hz1, hz2⟩ := info_parts hinfo
  refine wpList_append_own _ hgd s x t ho base e i0 z K bytes ht hi hz0 hz1 hz2 hzs hK v k L hs (hown.alloc _) ⟨W.heap.size, 0, none⟩ 1 1 cs hx (by rw [hcs, Nat.one_mul]) ?_ hone ?_ hk ?_ ?_
  · intro j u hj
    rw [Go.WideShapes.add_plain, Nat.zero_add]
    exact alloc_cell rfl (by rw [List.getElem?_toArray]; exact hj)
  · unfold maxLen; omega
  · simp; omega
  · intro v' w1 hown' hgrow _
    exact h v' w1 hown' (((Below.refl base W).alloc hbase _).grown hgrow (by simp; omega) (fun g hg => (hown.lt g hg).1))
/-- The same as one operation of a region, the new element in a block of its own. -/
theorem app_act {W : World} {o : Oper} {a : Act} {Kk : Act → World → Prop} {Q : Exit → Act → World → Prop} (s x : Operand) (t e : TypeId) (z : Value) (K bytes : Nat)
    (ht : Try.prog.underlying t = some (.slice e)) (hinfo : (Try.prog.info? e).map (fun i => (i.zero, i.size, i.bytes)) = some (some z, K, bytes)) (hzs : z.cells.size = K) (hK : 0 < K)
    (ho : o.op = .call { callee := .builtin .append, args := #[s, x], argTypes := #[t, t] })
    (base : Nat) (v : Value) (k : Nat) (L : List Value) (cs : Array Value) (hcs : cs.size = K) (hone : ∀ u ∈ cs, u.oneCell' = true) (hs : a.eval s = v) (hown : W.ownsRow base e K v k L) (g c : Nat) (hx : a.eval x = .slice (some ⟨g, 0, none⟩) 1 c) (hl : Lok W g e cs)
    (hk : (k + 1) * bytes ≤ 140737488355328) (hk2 : k ≤ 1000000) (hbase : base ≤ W.heap.size)
    (h : ∀ v' w', w'.ownsRow base e K v' (k + 1) (L ++ cs.toList) → Below base W w' → Kk (a.put o.dst v') w') : o.wp Try.prog a W Kk Q := by
  obtain ⟨i0, hi, hz0, hz1, hz2⟩ := info_parts hinfo
  refine wp_append_own W s x t ho base e i0 z K bytes ht hi hz0 hz1 hz2 hzs hK v k L hs hown ⟨g, 0, none⟩ 1 c cs.toList hx (by rw [Nat.one_mul]; simpa using hcs) ?_ (fun u hu => hone u (by simpa using hu)) ?_ hk hbase ?_
  · intro j u hj
    rw [Go.WideShapes.add_plain, Nat.zero_add]
    exact hl.cell (by rw [Array.getElem?_toList] at hj; exact hj)
  · unfold maxLen; omega
  · intro v' w1 hown' hgrow _
    exact h v' w1 hown' ((Below.refl base W).grown hgrow hbase (fun g hg => (hown.lt g hg).1))
/-- A row of the call's own, under a name of this text's (so that '.keep' is told of it). -/
def OwnR (w : World) (base : Nat) (e : TypeId) (k : Nat) (v : Value) (n : Nat) (xs : List Value) : Prop := w.ownsRow base e k v n xs
theorem OwnR.keep {w w' : World} {base : Nat} {e : TypeId} {k : Nat} {v : Value} {n : Nat} {xs : List Value} (h : OwnR w base e k v n xs) (hb : Below w.heap.size w w') : OwnR w' base e k v n xs := ownK_keep h hb
/-- A row of texts of the call's own, read. -/
theorem rowS_of_own {w : World} {base n : Nat} {v : Value} {L : List ByteArray} (h : w.ownsRow base 9 1 v n (L.map Value.string)) : L.length = n ∧ ∃ a c, v = .slice a n c ∧ n ≤ c ∧ c ≤ 9223372036854775807 ∧ RowS w a n c (fun i => (L[i]?).getD ⟨#[]⟩) := by
  have hl := h.lt
  have hc := fun (g : Nat) (hg : v.ownBlock = some g) => h.cells hg
  have hL : L.length = n := by have := h.1; simpa using this
  refine ⟨hL, ?_⟩
  obtain ⟨h1, ⟨rfl, h0⟩ | ⟨g, cap, cur, rfl, hb, hh, hk, hm, _, _⟩⟩ := h
  · exact ⟨none, 0, by rw [h0], by omega, by omega, .inl h0⟩
  · refine ⟨_, cap, rfl, hk, by unfold maxLen at hm; omega, .inr ⟨g, 0, rfl, (hl g rfl).2, hk, fun i hi => ?_⟩⟩
    have := hc g rfl i (.string (L[i]'(by omega))) (by rw [List.getElem?_map, List.getElem?_eq_getElem (by omega)]; rfl)
    rw [Go.WideShapes.add_plain] at this
    rw [this]
    show some (Value.string L[i]) = some (Value.string ((L[i]?).getD ⟨#[]⟩))
    rw [List.getElem?_eq_getElem (by omega)]; rfl
theorem valsK_succ (n k : Nat) (F : Nat → Nat → Int) : valsK (n + 1) k F = valsK n k F ++ (List.range k).map fun j => Value.int .i64 (F n j) := by
  rcases Nat.eq_zero_or_pos k with z | hk
  · subst z; simp [valsK]
  · unfold valsK
    rw [Nat.add_mul, Nat.one_mul, List.range_add, List.map_append, List.map_map]
    congr 1
    refine List.map_congr_left fun q hq => ?_
    rw [List.mem_range] at hq
    simp only [Function.comp]
    rw [Nat.mul_comm n k, Nat.mul_add_div hk, Nat.mul_add_mod, Nat.div_eq_of_lt hq, Nat.mod_eq_of_lt hq, Nat.add_zero]
end Go.Proofs.Ytkheomaihhcokaa
