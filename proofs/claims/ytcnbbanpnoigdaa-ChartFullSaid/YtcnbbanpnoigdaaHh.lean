/-
  Texts in one: EgB, AppK, AppL, RwS, AppG, EgL, MsC, EgC, VcAm, ChI.
-/
import Derived.Test.YtcnbbanpnoigdaaHg
import Derived.Test.YtcnbbanpnoigdaaHd
import Derived.Test.YtcnbbanpnoigdaaHb
import Derived.Maps.AppendAt
import Derived.OwnWalk
import Derived.Laws.AppendOwnNone
import Derived.Test.YtcnbbanpnoigdaaBase
import Derived.Test.YtcnbbanpnoigdaaHc
import Derived.Test.YtcnbbanpnoigdaaHa
import Derived.Test.YtcnbbanpnoigdaaHf
/-
  The reference limewashref14: next. (gen/EgB.py)
-/
namespace Go.Proofs.Ytcnbbanpnoigdaa
open Go.RowKit

theorem nxB_same (F : Nat → Nat → Int) (i : Nat) : nxB F i i = false := by unfold nxB; simp
theorem nxB_other {F : Nat → Nat → Int} {i k : Nat} (h : ¬ i = k) : nxB F i k = nxE (F i 0) (F i 3) (F i 6) (F k 0) (F k 3) (F k 6) := by unfold nxB; rw [show (i != k) = true from by simp [h], Bool.true_and]
end Go.Proofs.Ytcnbbanpnoigdaa
/-
  append of a row of structs of ints that came in, nil or not, to nothing: a row of the call's own that reads alike.
-/
namespace Go.Proofs.Ytcnbbanpnoigdaa
open Go.RowKit

def valsK (n k : Nat) (F : Nat → Nat → Int) : List Value := (List.range (n * k)).map fun q => .int .i64 (F (q / k) (q % k))
theorem valsK_length (n k : Nat) (F : Nat → Nat → Int) : (valsK n k F).length = n * k := by simp [valsK]
theorem valsK_at {n k : Nat} {F : Nat → Nat → Int} {q : Nat} {u : Value} (h : (valsK n k F)[q]? = some u) : q < n * k ∧ u = .int .i64 (F (q / k) (q % k)) := by
  unfold valsK at h
  rw [List.getElem?_map] at h
  obtain ⟨x, hx, rfl⟩ := Option.map_eq_some_iff.1 h
  have z : q < n * k := by
    rcases Nat.lt_or_ge q (n * k) with z | z
    · exact z
    · rw [List.getElem?_eq_none (by simpa using z)] at hx; cases hx
  rw [List.getElem?_range z] at hx
  cases hx
  exact ⟨z, rfl⟩
theorem valsK_get {n k i j : Nat} (F : Nat → Nat → Int) (hi : i < n) (hj : j < k) : (valsK n k F)[i * k + j]? = some (.int .i64 (F i j)) := by
  have hq : i * k + j < n * k := Nat.lt_of_lt_of_le (Nat.add_lt_add_left hj (i * k)) (by rw [← Nat.succ_mul]; exact Nat.mul_le_mul_right k hi)
  have hk : 0 < k := by omega
  unfold valsK
  rw [List.getElem?_map, List.getElem?_range hq]
  simp only [Option.map_some]
  rw [Nat.mul_comm i k, Nat.mul_add_div hk, Nat.mul_add_mod, Nat.div_eq_of_lt hj, Nat.mod_eq_of_lt hj, Nat.add_zero]
theorem valsK_one {n k : Nat} {F : Nat → Nat → Int} : ∀ u ∈ valsK n k F, u.oneCell' = true := by
  intro u hu
  unfold valsK at hu
  obtain ⟨q, _, rfl⟩ := List.mem_map.1 hu
  rfl
/-- A row of the call's own, read as structs. -/
theorem rowK_of_own {w : World} {base n k : Nat} {e : TypeId} {v : Value} {F : Nat → Nat → Int} (h : w.ownsRow base e k v n (valsK n k F)) : ∃ a c, v = .slice a n c ∧ (a = none → n = 0 ∧ c = 0) ∧ n ≤ c ∧ c ≤ 9223372036854775807 ∧ RowK w a n k F := by
  have hl := h.lt
  have hc := fun (g : Nat) (hg : v.ownBlock = some g) => h.cells hg
  obtain ⟨h1, ⟨rfl, h0⟩ | ⟨g, cap, cur, rfl, hb, hh, hk, hm, _, _⟩⟩ := h
  · exact ⟨none, 0, by rw [h0], fun _ => ⟨h0, rfl⟩, by omega, by omega, .inl h0⟩
  · refine ⟨_, cap, rfl, (fun h => by cases h), hk, by unfold maxLen at hm; omega, .inr ⟨g, 0, rfl, (hl g rfl).2, fun i hi j hj => ?_⟩⟩
    have := hc g rfl (i * k + j) _ (valsK_get F hi hj)
    rwa [Go.WideShapes.add_plain] at this
theorem wpList_append_rowk {P : Program} {w : World} {ops : Array Oper} {rest : List Oper} {o : Oper} {a : Act} {Q : Exit → Act → World → Prop} (hgd : o.guard = none) (s x : Operand) (t : TypeId)
    (ho : o.op = .call { callee := .builtin .append, args := #[s, x], argTypes := #[t, t] })
    (base : Nat) (e : TypeId) (i : TypeInfo) (z : Value) (k bytes : Nat) (ht : P.underlying t = some (.slice e)) (hi : P.info? e = some i) (hz : i.zero = some z)
    (hsize : i.size = k) (hby : i.bytes = bytes) (hzs : z.cells.size = k) (hsz : 0 < k)
    (A : Option Addr) (n c : Nat) (F : Nat → Nat → Int) (hs : a.eval s = .slice none 0 0) (hx : a.eval x = .slice A n c) (hA : A = none → n = 0 ∧ c = 0) (hr : RowK w A n k F)
    (h63 : n ≤ maxLen) (hbytes : n * bytes ≤ 140737488355328) (hbase : base ≤ w.heap.size)
    (h : ∀ A' c' w', (A' = none → n = 0 ∧ c' = 0) → n ≤ c' → c' ≤ 9223372036854775807 → RowK w' A' n k F → Below w.heap.size w w' → wpList P ops Q rest (a.put o.dst (.slice A' n c')) w') : wpList P ops Q (o :: rest) a w := by
  rcases A with _ | ad
  · obtain ⟨rfl, rfl⟩ := hA rfl
    exact wpList_append_own_none hgd s x t ho base e i k ht hi (.slice none 0 0) 0 [] hs (World.ownsRow_nil _ _ _ _) hx (h none 0 w (fun _ => ⟨rfl, rfl⟩) (Nat.le_refl _) (by omega) (.inl rfl) (Below.refl _ _))
  · refine wpList_append_own_at w hgd s x t ho base e i z k bytes ht hi hz hsize hby hzs hsz (.slice none 0 0) 0 [] hs (World.ownsRow_nil _ _ _ _) ad n c (valsK n k F) hx (valsK_length n k F) ?_ valsK_one (by omega) (by rw [Nat.zero_add]; exact hbytes) hbase ?_
    · intro q u hq
      obtain ⟨h1, rfl⟩ := valsK_at hq
      rcases hr with rfl | ⟨b, off, e, _, hc⟩
      · simp at h1
      · cases e
        have hd : q / k < n := (Nat.div_lt_iff_lt_mul hsz).2 h1
        have := hc (q / k) hd (q % k) (Nat.mod_lt _ hsz)
        rw [Go.WideShapes.add_plain]
        rwa [Nat.mul_comm, Nat.div_add_mod] at this
    · intro v' w' hown hgrow _ _
      rw [List.nil_append, Nat.zero_add] at hown
      obtain ⟨a', c', rfl, h1, h2, h3, h4⟩ := rowK_of_own hown
      exact h a' c' w' h1 h2 h3 h4 ((Below.refl _ w).grown hgrow (Nat.le_refl _) (fun g hg => by simp [Value.ownBlock] at hg))
end Go.Proofs.Ytcnbbanpnoigdaa
/-
  append of a row of structs of ints behind a row of the call's own: the row of both.
-/
namespace Go.Proofs.Ytcnbbanpnoigdaa
open Go.RowKit

theorem valsK_congr {n k : Nat} {F G : Nat → Nat → Int} (h : ∀ i, i < n → ∀ j, j < k → F i j = G i j) : valsK n k F = valsK n k G := by
  unfold valsK
  refine List.map_congr_left fun q hq => ?_
  rw [List.mem_range] at hq
  have hk : 0 < k := by
    rcases Nat.eq_zero_or_pos k with z | z
    · subst z; simp at hq
    · exact z
  rw [h (q / k) ((Nat.div_lt_iff_lt_mul hk).2 hq) (q % k) (Nat.mod_lt _ hk)]
/-- One row behind the other. -/
def catK (n : Nat) (F G : Nat → Nat → Int) : Nat → Nat → Int := fun t j => if t < n then F t j else G (t - n) j
theorem catK_lo {n t : Nat} (F G : Nat → Nat → Int) (j : Nat) (h : t < n) : catK n F G t j = F t j := if_pos h
theorem catK_hi {n t : Nat} (F G : Nat → Nat → Int) (j : Nat) (h : n ≤ t) : catK n F G t j = G (t - n) j := if_neg (by omega)
theorem valsK_cat (n m k : Nat) (F G : Nat → Nat → Int) : valsK n k F ++ valsK m k G = valsK (n + m) k (catK n F G) := by
  rcases Nat.eq_zero_or_pos k with z | hk
  · subst z; simp [valsK]
  · unfold valsK
    rw [Nat.add_mul, List.range_add, List.map_append, List.map_map]
    congr 1
    · refine List.map_congr_left fun q hq => ?_
      rw [List.mem_range] at hq
      rw [catK_lo _ _ _ ((Nat.div_lt_iff_lt_mul hk).2 hq)]
    · refine List.map_congr_left fun q hq => ?_
      have e1 : (n * k + q) / k = n + q / k := by rw [Nat.add_comm, Nat.add_mul_div_right _ _ hk, Nat.add_comm]
      have e2 : (n * k + q) % k = q % k := by rw [Nat.add_comm, Nat.add_mul_mod_self_right]
      simp only [Function.comp, e1, e2]
      rw [catK_hi _ _ _ (Nat.le_add_right _ _), Nat.add_sub_cancel_left]
/-- A row of the call's own, read as structs; where it lies. -/
theorem rowK_of_own2 {w : World} {base n k : Nat} {e : TypeId} {v : Value} {F : Nat → Nat → Int} (h : w.ownsRow base e k v n (valsK n k F)) : ∃ a c, v = .slice a n c ∧ ((a = none ∧ n = 0 ∧ c = 0) ∨ ∃ g, a = some ⟨g, 0, none⟩) ∧ n ≤ c ∧ c ≤ 9223372036854775807 ∧ RowK w a n k F := by
  obtain ⟨a, c, e1, h1, h2, h3, h4⟩ := rowK_of_own h
  refine ⟨a, c, e1, ?_, h2, h3, h4⟩
  obtain ⟨_, ⟨rfl, h0⟩ | ⟨g, cap, cur, rfl, _⟩⟩ := h
  · cases e1; exact .inl ⟨rfl, h0, rfl⟩
  · cases e1; exact .inr ⟨g, rfl⟩
theorem wpList_append_catk {P : Program} {w : World} {ops : Array Oper} {rest : List Oper} {o : Oper} {a : Act} {Q : Exit → Act → World → Prop} (hgd : o.guard = none) (s x : Operand) (t : TypeId)
    (ho : o.op = .call { callee := .builtin .append, args := #[s, x], argTypes := #[t, t] })
    (base : Nat) (e : TypeId) (i : TypeInfo) (z : Value) (k bytes : Nat) (ht : P.underlying t = some (.slice e)) (hi : P.info? e = some i) (hz : i.zero = some z)
    (hsize : i.size = k) (hby : i.bytes = bytes) (hzs : z.cells.size = k) (hsz : 0 < k)
    (v : Value) (p : Nat) (G : Nat → Nat → Int) (hs : a.eval s = v) (hown : w.ownsRow base e k v p (valsK p k G))
    (A : Option Addr) (n c : Nat) (F : Nat → Nat → Int) (hx : a.eval x = .slice A n c) (hA : A = none → n = 0 ∧ c = 0) (hr : RowK w A n k F)
    (h63 : p + n ≤ maxLen) (hbytes : (p + n) * bytes ≤ 140737488355328) (hbase : base ≤ w.heap.size)
    (h : ∀ v' w', w'.ownsRow base e k v' (p + n) (valsK (p + n) k (catK p G F)) → Below base w w' → wpList P ops Q rest (a.put o.dst v') w') : wpList P ops Q (o :: rest) a w := by
  rcases A with _ | ad
  · obtain ⟨rfl, rfl⟩ := hA rfl
    refine wpList_append_own_none hgd s x t ho base e i k ht hi v p (valsK p k G) hs hown hx (h v w ?_ (Below.refl _ _))
    rw [Nat.add_zero, valsK_congr (G := G) (fun i hi j _ => catK_lo G F j hi)]
    exact hown
  · refine wpList_append_own_at w hgd s x t ho base e i z k bytes ht hi hz hsize hby hzs hsz v p (valsK p k G) hs hown ad n c (valsK n k F) hx (valsK_length n k F) ?_ valsK_one h63 hbytes hbase ?_
    · intro q u hq
      obtain ⟨h1, rfl⟩ := valsK_at hq
      rcases hr with rfl | ⟨b, off, e, _, hc⟩
      · simp at h1
      · cases e
        have hd : q / k < n := (Nat.div_lt_iff_lt_mul hsz).2 h1
        have := hc (q / k) hd (q % k) (Nat.mod_lt _ hsz)
        rw [Go.WideShapes.add_plain]
        rwa [Nat.mul_comm, Nat.div_add_mod] at this
    · intro v' w' hown' hgrow _ _
      rw [valsK_cat] at hown'
      exact h v' w' hown' ((Below.refl _ w).grown hgrow hbase (fun g hg => (hown.lt g hg).1))
/-- A part of a row. -/
theorem RowK.part {W : World} {a : Option Addr} {n k : Nat} {F : Nat → Nat → Int} (h : RowK W a n k F) {m : Nat} (hm : m ≤ n) : RowK W a m k F := by
  rcases h with h | ⟨b, off, ha, hl, h⟩
  · exact .inl (by omega)
  · exact .inr ⟨b, off, ha, hl, fun i hi j hj => h i (by omega) j hj⟩
theorem RowK.from {W : World} {b off n k : Nat} {F : Nat → Nat → Int} (h : RowK W (some ⟨b, off, none⟩) n k F) (m : Nat) : RowK W (some ⟨b, off + m * k, none⟩) (n - m) k (fun t j => F (m + t) j) := by
  rcases h with h | ⟨b', off', ha, hl, h⟩
  · exact .inl (by omega)
  · cases ha
    refine .inr ⟨_, _, rfl, hl, fun i hi j hj => ?_⟩
    have := h (m + i) (by omega) j hj
    rwa [Nat.add_mul, Nat.add_assoc, ← Nat.add_assoc off] at this
theorem rowK_new (W : World) (T : TypeId) (x y : Int) : RowK (W.alloc (.cells #[.int .i64 x, .int .i64 y] T)) (some ⟨W.heap.size, 0, none⟩) 1 2 (fun _ j => if j = 0 then x else y) := by
  refine .inr ⟨_, _, rfl, by simp, fun i hi j hj => ?_⟩
  obtain rfl : i = 0 := by omega
  match j, hj with
  | 0, _ => simp
  | 1, _ => simp
theorem ownK_keep {w w' : World} {base : Nat} {e : TypeId} {k : Nat} {v : Value} {n : Nat} {xs : List Value} (h : w.ownsRow base e k v n xs) (hb : Below w.heap.size w w') : w'.ownsRow base e k v n xs :=
  h.kept (row := none) ⟨hb.os, hb.tape, hb.output, hb.size, fun k hk _ => hb.block k hk⟩ (by
    rcases h.2 with ⟨rfl, _⟩ | ⟨g, cap, cur, rfl, _⟩
    · exact .inl rfl
    · exact .inr (by simp [Value.ownBlock]))
end Go.Proofs.Ytcnbbanpnoigdaa
/-
  A row of texts in memory.
-/
namespace Go.Proofs.Ytcnbbanpnoigdaa
open Go.RowKit

/-- A row of texts in memory. -/
def RowS (W : World) (a : Option Addr) (n c : Nat) (F : Nat → ByteArray) : Prop :=
  n = 0 ∨ ∃ b off, a = some ⟨b, off, none⟩ ∧ b < W.heap.size ∧ n ≤ c ∧ ∀ i, i < n → W.cell? ⟨b, off + i, none⟩ = some (.string (F i))
theorem RowS.keep {W W' : World} {a : Option Addr} {n c : Nat} {F : Nat → ByteArray} (h : RowS W a n c F) (hb : Below W.heap.size W W') : RowS W' a n c F := by
  rcases h with h | ⟨b, off, ha, hl, hc, h⟩
  · exact .inl h
  · exact .inr ⟨b, off, ha, Nat.lt_of_lt_of_le hl hb.size, hc, fun i hi => keepc hb (h i hi)⟩
theorem RowS.at {W : World} {a : Option Addr} {n c : Nat} {F : Nat → ByteArray} (h : RowS W a n c F) {i : Nat} (hi : i < n) : ∃ b off, a = some ⟨b, off, none⟩ ∧ b < W.heap.size ∧ ∀ i, i < n → W.cell? ⟨b, off + i, none⟩ = some (.string (F i)) := by
  rcases h with h | ⟨b, off, ha, hl, hc, h⟩
  · omega
  · exact ⟨b, off, ha, hl, h⟩
end Go.Proofs.Ytcnbbanpnoigdaa
/-
  append of one element of K cells (a string, a struct, an array of structs) behind a row of the call's own; rows of texts of the call's own, read.
-/
namespace Go.Proofs.Ytcnbbanpnoigdaa
open Go.RowKit

theorem app_one {W : World} {ops : Array Oper} {rest : List Oper} {o : Oper} {a : Act} {Q : Exit → Act → World → Prop} (hgd : o.guard = none) (s x : Operand) (t e : TypeId) (z : Value) (K bytes : Nat)
    (ht : Try.prog.underlying t = some (.slice e)) (hinfo : (Try.prog.info? e).map (fun i => (i.zero, i.size, i.bytes)) = some (some z, K, bytes)) (hzs : z.cells.size = K) (hK : 0 < K)
    (ho : o.op = .call { callee := .builtin .append, args := #[s, x], argTypes := #[t, t] })
    (base : Nat) (v : Value) (k : Nat) (L cs : List Value) (hcs : cs.length = K) (hone : ∀ u ∈ cs, u.oneCell' = true) (hs : a.eval s = v) (hown : W.ownsRow base e K v k L) (hx : a.eval x = .slice (some ⟨W.heap.size, 0, none⟩) 1 1)
    (hk : (k + 1) * bytes ≤ 140737488355328) (hk2 : k ≤ 1000000) (hbase : base ≤ W.heap.size)
    (h : ∀ v' w', w'.ownsRow base e K v' (k + 1) (L ++ cs) → Below base W w' → wpList Try.prog ops Q rest (a.put o.dst v') w') : wpList Try.prog ops Q (o :: rest) a (W.alloc (.cells cs.toArray e)) := by
  obtain ⟨i0, hi, hz0, hz1, hz2⟩ := info_parts hinfo
  refine wpList_append_own _ hgd s x t ho base e i0 z K bytes ht hi hz0 hz1 hz2 hzs hK v k L hs (hown.alloc _) ⟨W.heap.size, 0, none⟩ 1 1 cs hx (by rw [hcs, Nat.one_mul]) ?_ hone ?_ hk ?_ ?_
  · intro j u hj
    rw [Go.WideShapes.add_plain, Nat.zero_add]
    exact alloc_cell rfl (by rw [List.getElem?_toArray]; exact hj)
  · unfold maxLen; omega
  · simp; omega
  · intro v' w1 hown' hgrow _
    exact h v' w1 hown' (((Below.refl base W).alloc hbase _).grown hgrow (by simp; omega) (fun g hg => (hown.lt g hg).1))
/-- The same as one operation of a region, the new element in a block of its own. -/
theorem app_act {W : World} {o : Oper} {a : Act} {Kk : Act → World → Prop} {Q : Exit → Act → World → Prop} (s x : Operand) (t e : TypeId) (z : Value) (K bytes : Nat)
    (ht : Try.prog.underlying t = some (.slice e)) (hinfo : (Try.prog.info? e).map (fun i => (i.zero, i.size, i.bytes)) = some (some z, K, bytes)) (hzs : z.cells.size = K) (hK : 0 < K)
    (ho : o.op = .call { callee := .builtin .append, args := #[s, x], argTypes := #[t, t] })
    (base : Nat) (v : Value) (k : Nat) (L : List Value) (cs : Array Value) (hcs : cs.size = K) (hone : ∀ u ∈ cs, u.oneCell' = true) (hs : a.eval s = v) (hown : W.ownsRow base e K v k L) (g c : Nat) (hx : a.eval x = .slice (some ⟨g, 0, none⟩) 1 c) (hl : Lok W g e cs)
    (hk : (k + 1) * bytes ≤ 140737488355328) (hk2 : k ≤ 1000000) (hbase : base ≤ W.heap.size)
    (h : ∀ v' w', w'.ownsRow base e K v' (k + 1) (L ++ cs.toList) → Below base W w' → Kk (a.put o.dst v') w') : o.wp Try.prog a W Kk Q := by
  obtain ⟨i0, hi, hz0, hz1, hz2⟩ := info_parts hinfo
  refine wp_append_own W s x t ho base e i0 z K bytes ht hi hz0 hz1 hz2 hzs hK v k L hs hown ⟨g, 0, none⟩ 1 c cs.toList hx (by rw [Nat.one_mul]; simpa using hcs) ?_ (fun u hu => hone u (by simpa using hu)) ?_ hk hbase ?_
  · intro j u hj
    rw [Go.WideShapes.add_plain, Nat.zero_add]
    exact hl.cell (by rw [Array.getElem?_toList] at hj; exact hj)
  · unfold maxLen; omega
  · intro v' w1 hown' hgrow _
    exact h v' w1 hown' ((Below.refl base W).grown hgrow hbase (fun g hg => (hown.lt g hg).1))
/-- A row of the call's own, under a name of this text's (so that '.keep' is told of it). -/
def OwnR (w : World) (base : Nat) (e : TypeId) (k : Nat) (v : Value) (n : Nat) (xs : List Value) : Prop := w.ownsRow base e k v n xs
theorem OwnR.keep {w w' : World} {base : Nat} {e : TypeId} {k : Nat} {v : Value} {n : Nat} {xs : List Value} (h : OwnR w base e k v n xs) (hb : Below w.heap.size w w') : OwnR w' base e k v n xs := ownK_keep h hb
/-- A row of texts of the call's own, read. -/
theorem rowS_of_own {w : World} {base n : Nat} {v : Value} {L : List ByteArray} (h : w.ownsRow base 9 1 v n (L.map Value.string)) : L.length = n ∧ ∃ a c, v = .slice a n c ∧ n ≤ c ∧ c ≤ 9223372036854775807 ∧ RowS w a n c (fun i => (L[i]?).getD ⟨#[]⟩) := by
  have hl := h.lt
  have hc := fun (g : Nat) (hg : v.ownBlock = some g) => h.cells hg
  have hL : L.length = n := by have := h.1; simpa using this
  refine ⟨hL, ?_⟩
  obtain ⟨h1, ⟨rfl, h0⟩ | ⟨g, cap, cur, rfl, hb, hh, hk, hm, _, _⟩⟩ := h
  · exact ⟨none, 0, by rw [h0], by omega, by omega, .inl h0⟩
  · refine ⟨_, cap, rfl, hk, by unfold maxLen at hm; omega, .inr ⟨g, 0, rfl, (hl g rfl).2, hk, fun i hi => ?_⟩⟩
    have := hc g rfl i (.string (L[i]'(by omega))) (by rw [List.getElem?_map, List.getElem?_eq_getElem (by omega)]; rfl)
    rw [Go.WideShapes.add_plain] at this
    rw [this]
    show some (Value.string L[i]) = some (Value.string ((L[i]?).getD ⟨#[]⟩))
    rw [List.getElem?_eq_getElem (by omega)]; rfl
theorem valsK_succ (n k : Nat) (F : Nat → Nat → Int) : valsK (n + 1) k F = valsK n k F ++ (List.range k).map fun j => Value.int .i64 (F n j) := by
  rcases Nat.eq_zero_or_pos k with z | hk
  · subst z; simp [valsK]
  · unfold valsK
    rw [Nat.add_mul, Nat.one_mul, List.range_add, List.map_append, List.map_map]
    congr 1
    refine List.map_congr_left fun q hq => ?_
    rw [List.mem_range] at hq
    simp only [Function.comp]
    rw [Nat.mul_comm n k, Nat.mul_add_div hk, Nat.mul_add_mod, Nat.div_eq_of_lt hq, Nat.mod_eq_of_lt hq, Nat.add_zero]
end Go.Proofs.Ytcnbbanpnoigdaa
/-
  Rows of ints by their lists: of the call's own, read; the reference's Same and Own (limewashref01).
-/
namespace Go.Proofs.Ytcnbbanpnoigdaa
open Go.RowKit

/-- A row of ints of the call's own, by its list. -/
def OwnI (w : World) (base : Nat) (v : Value) (L : List Int) : Prop := w.ownsRow base 3 1 v L.length (L.map (Value.int .i64))
theorem OwnI.keep {w w' : World} {base : Nat} {v : Value} {L : List Int} (h : OwnI w base v L) (hb : Below w.heap.size w w') : OwnI w' base v L := ownK_keep h hb
theorem OwnI.nil (w : World) (base : Nat) : OwnI w base (.slice none 0 0) [] := World.ownsRow_nil _ _ _ _
theorem OwnI.drew {w : World} {base : Nat} {v : Value} {L : List Int} (h : OwnI w base v L) : OwnI w.drew base v L := h
theorem ownR_mono {w : World} {base base' : Nat} {e : TypeId} {k : Nat} {v : Value} {n : Nat} {xs : List Value} (h : w.ownsRow base e k v n xs) (hb : base' ≤ base) : w.ownsRow base' e k v n xs := by
  obtain ⟨h1, h2 | ⟨g, cap, cur, hv, hg, hrest⟩⟩ := h
  · exact ⟨h1, .inl h2⟩
  · exact ⟨h1, .inr ⟨g, cap, cur, hv, Nat.le_trans hb hg, hrest⟩⟩
theorem ownI_mono {w : World} {base base' : Nat} {v : Value} {L : List Int} (h : OwnI w base v L) (hb : base' ≤ base) : OwnI w base' v L := ownR_mono h hb
/-- A row of the call's own in its block. -/
theorem OwnI.open {w : World} {base : Nat} {v : Value} {L : List Int} (h : OwnI w base v L) (hl : 0 < L.length) : ∃ g cap cur, v = .slice (some ⟨g, 0, none⟩) L.length cap ∧ base ≤ g ∧ L.length ≤ cap ∧ Lok w g 3 cur ∧ cur.toList.take L.length = L.map (Value.int .i64) ∧ L.length ≤ cur.size := by
  obtain ⟨h1, ⟨_, h0⟩ | ⟨g, cap, cur, hv, hg, hh, hn, hm, hs, ht⟩⟩ := h
  · omega
  · rw [Nat.mul_one] at ht
    exact ⟨g, cap, cur, hv, hg, hn, hh, ht, by omega⟩
theorem OwnI.cells {w : World} {base g n cap : Nat} {L : List Int} (h : OwnI w base (.slice (some ⟨g, 0, none⟩) n cap) L) {i : Nat} (hi : i < L.length) : w.cell? ⟨g, i, none⟩ = some (.int .i64 (L.getD i 0)) ∧ w.frozen? ⟨g, i, none⟩ = false := by
  obtain ⟨g', cap', cur, hv, hg, hn, hh, ht, hs⟩ := h.open (by omega)
  cases hv
  refine ⟨hh.cell ?_, hh.frozen i⟩
  have e : cur.toList[i]? = (L.map (Value.int .i64))[i]? := by rw [← ht, List.getElem?_take_of_lt hi]
  rw [← Array.getElem?_toList, e, List.getElem?_map, List.getD_eq_getElem?_getD, List.getElem?_eq_getElem hi]; rfl
theorem OwnI.set {w : World} {base g n cap : Nat} {L : List Int} (h : OwnI w base (.slice (some ⟨g, 0, none⟩) n cap) L) (i : Nat) (x : Int) : OwnI (w.setCell ⟨g, i, none⟩ (.int .i64 x)) base (.slice (some ⟨g, 0, none⟩) n cap) (L.set i x) := by
  obtain ⟨h1, ⟨hv, h0⟩ | ⟨g', cap', cur, hv, hg, hh, hn, hm, hs, ht⟩⟩ := h
  · cases hv
  · cases hv
    refine ⟨by simp, .inr ⟨g, cap, cur.setIfInBounds i (.int .i64 x), by simp, hg, Lok.set (W := w) (t := 3) hh, by simpa using hn, hm, by simpa using hs, ?_⟩⟩
    rw [List.length_set, Array.toList_setIfInBounds, List.take_set, ht, List.map_set]
theorem OwnI.blk {w : World} {base g n cap : Nat} {L : List Int} (h : OwnI w base (.slice (some ⟨g, 0, none⟩) n cap) L) : base ≤ g ∧ g < w.heap.size := World.ownsRow.lt h g rfl
theorem infoI : (Try.prog.info? 3).map (fun i => (i.zero, i.size, i.bytes)) = some (some (.int .i64 0), 1, 8) := by kernel_rfl
/-- A row of ints, read by its list. -/
def RowI (W : World) (a : Option Addr) (n : Nat) (L : List Int) : Prop := L.length = n ∧ RowK W a n 1 (fun i _ => L.getD i 0)
theorem RowI.keep {W W' : World} {a : Option Addr} {n : Nat} {L : List Int} (h : RowI W a n L) (hb : Below W.heap.size W W') : RowI W' a n L := ⟨h.1, h.2.keep hb⟩
theorem RowI.at {W : World} {a : Option Addr} {n : Nat} {L : List Int} (h : RowI W a n L) {i : Nat} (hi : i < n) : ∃ b off, a = some ⟨b, off, none⟩ ∧ b < W.heap.size ∧ ∀ i, i < n → W.cell? ⟨b, off + i, none⟩ = some (.int .i64 (L.getD i 0)) := by
  obtain ⟨b, off, ha, hb, hc⟩ := h.2.at hi
  refine ⟨b, off, ha, hb, fun i hi => ?_⟩
  have z := hc i hi 0 (by omega)
  rwa [Nat.mul_one, Nat.add_zero] at z
theorem map_vals (L : List Int) : L.map (Value.int .i64) = valsK L.length 1 (fun i _ => L.getD i 0) := by
  apply List.ext_getElem
  · simp [valsK]
  · intro i h1 h2
    have hi : i < L.length := by simpa using h1
    simp [valsK, List.getElem?_eq_getElem hi, Nat.div_one]
theorem rowI_of_own {w : World} {base : Nat} {v : Value} {L : List Int} (h : OwnI w base v L) : ∃ a c, v = .slice a L.length c ∧ (a = none → L.length = 0 ∧ c = 0) ∧ L.length ≤ c ∧ c ≤ 9223372036854775807 ∧ RowI w a L.length L := by
  unfold OwnI at h
  rw [map_vals] at h
  obtain ⟨a, c, e, h1, h2, h3, h4⟩ := rowK_of_own h
  exact ⟨a, c, e, h1, h2, h3, rfl, h4⟩
theorem list_of_getD {L M : List Int} (hl : L.length = M.length) (h : ∀ i, i < L.length → L.getD i 0 = M.getD i 0) : L = M := by
  apply List.ext_getElem hl
  intro i h1 h2
  have z := h i h1
  rw [List.getD_eq_getElem?_getD, List.getD_eq_getElem?_getD, List.getElem?_eq_getElem h1, List.getElem?_eq_getElem h2] at z
  exact z
/-- Two lists are the same. -/
def smB (L M : List Int) : Bool := decide (L = M)
theorem smB_yes {L M : List Int} (h : L = M) : smB L M = true := decide_eq_true h
theorem smB_no {L M : List Int} (h : ¬ L = M) : smB L M = false := decide_eq_false h
theorem smB_self (L : List Int) : smB L L = true := smB_yes rfl
set_option maxRecDepth 100000 in
set_option maxHeartbeats 4000000 in
theorem rsame_list (a b : Option Addr) (n m c d : Nat) (L M : List Int) (w : World) (hl : RowI w a n L) (hm : RowI w b m M) (hn : n ≤ 9223372036854775807) (hk : m ≤ 9223372036854775807) :
    Calls Try.prog 36 #[.slice a n c, .slice b m d] w fun e w' => e = .returned (.bool (smB L M)) ∧ Below w.heap.size w w' := by
  have HB := Lib.hid (Below.refl w.heap.size w)
  by_cases hnm : n = m
  · subst hnm
    have RL := Lib.hid hl
    have RM := Lib.hid hm
    have hlen : L.length = M.length := hl.1.trans hm.1.symm
    have hln := hl.1
    clear hl hm
    go_enter Try.func36, Try.ntmps36
    go_wp2_with fail
    go_loopw [5] (fun x wr => ∃ k : Nat, x = .int .i64 k ∧ k ≤ n ∧ (∀ j, j < k → L.getD j 0 = M.getD j 0) ∧ Below w.heap.size w wr) (fun x _ => n - (intOf x).toNat)
    case atStart => exact ⟨0, rfl, Nat.zero_le _, fun j h => absurd h (by omega), HB.out⟩
    case round =>
      obtain ⟨k, rfl, hk', hR, hB⟩ := hrel
      replace HB := Lib.hid hB
      have HR := Lib.hid hR
      clear hB hR
      by_cases hlt : k < n
      · obtain ⟨p, o, rfl, hb, hc⟩ := (RL.out.keep HB.out).at hlt
        obtain ⟨q, r, rfl, hb2, hc2⟩ := (RM.out.keep HB.out).at hlt
        have c0 := hc k hlt
        have c1 := hc2 k hlt
        have YES : Hid (L.getD k 0 = M.getD k 0 → ∀ j, j < k + 1 → L.getD j 0 = M.getD j 0) := Lib.hid (fun e j hj => by
          by_cases s : j = k
          · rw [s]; exact e
          · exact HR.out j (by omega))
        have NO : Hid (¬ L.getD k 0 = M.getD k 0 → smB L M = false) := Lib.hid (fun e => smB_no (fun h => e (by rw [h])))
        clear hc hc2
        generalize L.getD k 0 = x at *
        generalize M.getD k 0 = y at *
        have i0 : (0 : Int) ≤ (k : Int) := by omega
        have i1 : (k : Int) < (n : Int) := by omega
        have i2 : ((k : Int)).toNat = k := by omega
        go_upto_region 6 with fail
        by_cases hxy : x = y
        · have E := Lib.hid (YES.out hxy)
          clear YES NO
          subst hxy
          go_quiet (fail)
          go_wp2
          go_roundw
          case rel => exact ⟨k + 1, by go_num, hlt, E.out, below_drewN HB.out _⟩
          case measure => simp [intOf]; omega
        · have E := Lib.hid (NO.out hxy)
          have h2 : (x == y) = false := by rw [beq_eq_false_iff_ne]; exact hxy
          have h3 : (x != y) = true := by rw [bne, h2]; rfl
          clear YES NO
          go_quiet (fail)
          go_wp2
          go_ret
          exact ⟨by rw [E.out]; rfl, below_drewN HB.out _⟩
      · obtain rfl : k = n := by omega
        have E := Lib.hid (smB_yes (list_of_getD hlen (fun i hi => HR.out i (by omega))))
        go_wp2
        go_ret
        exact ⟨by rw [E.out]; rfl, HB.out⟩
  · have E := Lib.hid (smB_no (L := L) (M := M) (fun h => hnm (by rw [← hl.1, ← hm.1, h])))
    have h1 : ¬ (n : Int) = (m : Int) := by omega
    have h2 : ((n : Int) == (m : Int)) = false := by rw [beq_eq_false_iff_ne]; exact h1
    clear hl hm
    go_enter Try.func36, Try.ntmps36
    go_wp2
    go_ret
    exact ⟨by rw [E.out]; rfl, HB.out⟩
end Go.Proofs.Ytcnbbanpnoigdaa
/-
  The reference's Is of meshes (limewashref08), and All2, All3 (limewashref04). (gen/MsC.py)
-/
namespace Go.Proofs.Ytcnbbanpnoigdaa
open Go.RowKit

/-- Between two numbers, or one of them. -/
def wiB (n l m : Int) : Bool := decide (l ≤ n ∧ n ≤ m)
theorem wiB_ge {n l m : Int} (h : l ≤ n) : wiB n l m = decide (n ≤ m) := decide_eq_decide.2 ⟨fun q => q.2, fun q => ⟨h, q⟩⟩
theorem wiB_no {n l m : Int} (h : ¬ l ≤ n) : wiB n l m = false := decide_eq_false (fun q => h q.1)
theorem wiB_pl (p : Int) (n : Nat) : wiB p 0 ((n : Int) - 1) = plB p n := decide_eq_decide.2 (by omega)
theorem wiB_pn (p : Int) (n : Nat) : wiB p (-1) ((n : Int) - 1) = pnB p n := decide_eq_decide.2 (by omega)
theorem nine_at (c : Nat → Int) {k j : Nat} (hk : k < 3) (hj : j < 3) : (#[.int .i64 (c 0), .int .i64 (c 1), .int .i64 (c 2), .int .i64 (c 3), .int .i64 (c 4), .int .i64 (c 5), .int .i64 (c 6), .int .i64 (c 7), .int .i64 (c 8)] : Array Value)[k * 3 + j]? = some (.int .i64 (c (k * 3 + j))) := by
  rcases show k = 0 ∨ k = 1 ∨ k = 2 by omega with rfl | rfl | rfl <;> rcases show j = 0 ∨ j = 1 ∨ j = 2 by omega with rfl | rfl | rfl <;> rfl
end Go.Proofs.Ytcnbbanpnoigdaa
/-
  The reference limewashref14: Next, Few. (gen/EgC.py)
-/
namespace Go.Proofs.Ytcnbbanpnoigdaa
open Go.RowKit

/-- The places of those that are next to one, rising. -/
def nxL (F : Nat → Nat → Int) (i : Nat) : Nat → List Int
  | 0 => []
  | k + 1 => nxL F i k ++ (if nxB F i k then [(k : Int)] else [])
theorem nxL_len (F : Nat → Nat → Int) (i : Nat) : ∀ n, (nxL F i n).length ≤ n
  | 0 => Nat.le_refl 0
  | k + 1 => by
    have := nxL_len F i k
    show (nxL F i k ++ (if nxB F i k then [(k : Int)] else [])).length ≤ k + 1
    rw [List.length_append]
    split
    · show _ + 1 ≤ _; omega
    · show _ + 0 ≤ _; omega
/-- A place of a mesh's triangles that is told right. -/
def okN (r : Bool) (i : Int) (n : Nat) : Bool := r && plB i n
/-- The answer of Next: none where it is refused. -/
def nxA (t : Bool) (F : Nat → Nat → Int) (i : Int) (n : Nat) : List Int := if t then nxL F i.toNat n else []
def agE (t : Bool) : Int := if t then 0 else 1
end Go.Proofs.Ytcnbbanpnoigdaa
/-
  The part that is farthest from 0 is so.
-/
namespace Go.Proofs.Ytcnbbanpnoigdaa
open Go.RowKit

theorem axF_most (a b c : Int) (k : Nat) : ∀ i, i < k → bl (pt a b c (axF a b c k)) ≤ bl (pt a b c i) ∧ (i < axF a b c k → bl (pt a b c (axF a b c k)) < bl (pt a b c i)) := by
  induction k with
  | zero => intro i h; omega
  | succ k ih =>
    intro i hi
    have z := axF_lt a b c k
    by_cases s : bl (pt a b c k) < bl (pt a b c (axF a b c k))
    · rw [axF_take s]
      by_cases e : i = k
      · subst e; exact ⟨Int.le_refl _, fun h => absurd h (Nat.lt_irrefl _)⟩
      · have := ih i (by omega)
        exact ⟨by omega, fun _ => by omega⟩
    · rw [axF_keep s]
      by_cases e : i = k
      · subst e; exact ⟨by omega, fun h => by omega⟩
      · exact ih i (by omega)
end Go.Proofs.Ytcnbbanpnoigdaa
/-
  Charts, pure: what a tame mesh tells of its triangles (facing, shadow, overlap).
-/
namespace Go.Proofs.Ytcnbbanpnoigdaa

def tvB (FV : Nat → Nat → Int) (n : Nat) : Bool := allB (fun i => sB 4096 (FV i 0) && (sB 4096 (FV i 1) && sB 4096 (FV i 2))) n
def tmB (n1 n2 n3 n4 : Nat) (FV FT FN FC : Nat → Nat → Int) : Bool := tvB FV n1 && msB n1 n2 n3 n4 FV FT FN FC
/-- Part j of corner k's point of triangle i; the normal's parts. -/
def pp (FV FC : Nat → Nat → Int) (i k j : Nat) : Int := FV (FC i (k * 3)).toNat j
def nmA (FV FC : Nat → Nat → Int) (i : Nat) : Int := ar (pp FV FC i 0 1) (pp FV FC i 0 2) (pp FV FC i 1 1) (pp FV FC i 1 2) (pp FV FC i 2 1) (pp FV FC i 2 2)
def nmB (FV FC : Nat → Nat → Int) (i : Nat) : Int := ar (pp FV FC i 0 2) (pp FV FC i 0 0) (pp FV FC i 1 2) (pp FV FC i 1 0) (pp FV FC i 2 2) (pp FV FC i 2 0)
def nmC (FV FC : Nat → Nat → Int) (i : Nat) : Int := ar (pp FV FC i 0 0) (pp FV FC i 0 1) (pp FV FC i 1 0) (pp FV FC i 1 1) (pp FV FC i 2 0) (pp FV FC i 2 1)
/-- The shadow's corner k. -/
def shX (FV FC : Nat → Nat → Int) (ax i k : Nat) : Int := dX (pp FV FC i k 0) (pp FV FC i k 1) (pp FV FC i k 2) ax
def shY (FV FC : Nat → Nat → Int) (ax i k : Nat) : Int := dY (pp FV FC i k 0) (pp FV FC i k 1) (pp FV FC i k 2) ax
def shR (FV FC : Nat → Nat → Int) (ax i : Nat) : Bool := rT (shX FV FC ax i 0) (shY FV FC ax i 0) (shX FV FC ax i 1) (shY FV FC ax i 1) (shX FV FC ax i 2) (shY FV FC ax i 2)
def shM (FV FC : Nat → Nat → Int) (ax i k : Nat) : Int := mu (shX FV FC ax i 0) (shY FV FC ax i 0) (shX FV FC ax i 1) (shY FV FC ax i 1) (shX FV FC ax i 2) (shY FV FC ax i 2) (shX FV FC ax k 0) (shY FV FC ax k 0) (shX FV FC ax k 1) (shY FV FC ax k 1) (shX FV FC ax k 2) (shY FV FC ax k 2)
def ovB (FV FC : Nat → Nat → Int) (ax i k : Nat) : Bool := mV (shR FV FC ax i && shR FV FC ax k) (shM FV FC ax i k) == 1
def chF (t : Bool) (n : Nat) (FV FC : Nat → Nat → Int) : ChF where
  n := n
  A i := vF (t && plB i n) (fcA true (nmA FV FC i.toNat) (nmB FV FC i.toNat) (nmC FV FC i.toNat))
  S i := vF (t && plB i n) (fcS true (nmA FV FC i.toNat) (nmB FV FC i.toNat) (nmC FV FC i.toNat))
  K i := (t && plB i n) && (fcE true (nmA FV FC i.toNat) (nmB FV FC i.toNat) (nmC FV FC i.toNat) == 0)
  ov ax i k := ovB FV FC ax.toNat i.toNat k.toNat
  nx i k := isIn (nxA (okN t i n) FC i n) k
theorem shadow_ar (FV FC : Nat → Nat → Int) {ax : Nat} (h : ax < 3) (i : Nat) : ar (shX FV FC ax i 0) (shY FV FC ax i 0) (shX FV FC ax i 1) (shY FV FC ax i 1) (shX FV FC ax i 2) (shY FV FC ax i 2) = pt (nmA FV FC i) (nmB FV FC i) (nmC FV FC i) ax := by
  rcases show ax = 0 ∨ ax = 1 ∨ ax = 2 by omega with rfl | rfl | rfl <;> rfl
theorem far_part {a b c : Int} (h : q3 a b c 0 0 0 = false) : ¬ pt a b c (axF a b c 3) = 0 := fun e => by
  have m := fun i (hi : i < 3) => (axF_most a b c 3 i hi).1
  rw [e] at m
  have m0 := m 0 (by omega)
  have m1 := m 1 (by omega)
  have m2 := m 2 (by omega)
  rw [show pt a b c 0 = a from rfl] at m0
  rw [show pt a b c 1 = b from rfl] at m1
  rw [show pt a b c 2 = c from rfl] at m2
  unfold bl at m0 m1 m2
  rw [q3_iff.2 ⟨by omega, by omega, by omega⟩] at h
  cases h
theorem fcE_ok {a b c : Int} (h : (fcE true a b c == 0) = true) : q3 a b c 0 0 0 = false := by
  cases q : q3 a b c 0 0 0 with
  | false => rfl
  | true => unfold fcE at h; rw [if_pos rfl, if_pos q] at h; cases h
theorem fcA_at {a b c : Int} (h : q3 a b c 0 0 0 = false) : fcA true a b c = (axF a b c 3 : Int) := by unfold fcA; rw [if_pos ⟨rfl, h⟩]
theorem axF_3 (a b c : Int) : axF a b c 3 < 3 := by have := axF_lt a b c 3; omega
/-- The other way round. -/
theorem bl_neg (x : Int) : bl (-x) = bl x := by unfold bl; rw [Int.natAbs_neg]
theorem pt_neg (a b c : Int) (k : Nat) : pt (-a) (-b) (-c) k = -pt a b c k := by
  unfold pt
  split
  · rfl
  · split <;> rfl
theorem axF_neg (a b c : Int) : ∀ k, axF (-a) (-b) (-c) k = axF a b c k
  | 0 => rfl
  | k + 1 => by
    show (if _ then _ else _) = (if _ then _ else _)
    rw [axF_neg a b c k, pt_neg, pt_neg, bl_neg, bl_neg]
theorem q3_neg (a b c : Int) : q3 (-a) (-b) (-c) 0 0 0 = q3 a b c 0 0 0 := by
  rw [Bool.eq_iff_iff, q3_iff, q3_iff]; omega
theorem ord_neg (x : Int) : ordI (-x) 0 = -ordI x 0 := by unfold ordI; split <;> split <;> (try split) <;> (try split) <;> omega
theorem fcE_neg (a b c : Int) : fcE true (-a) (-b) (-c) = fcE true a b c := by unfold fcE; rw [q3_neg]
theorem fcA_neg (a b c : Int) : fcA true (-a) (-b) (-c) = fcA true a b c := by unfold fcA; rw [q3_neg, axF_neg]
theorem fcS_neg (a b c : Int) : fcS true (-a) (-b) (-c) = -fcS true a b c := by
  unfold fcS
  rw [q3_neg, axF_neg, pt_neg, ord_neg]
  split <;> simp
end Go.Proofs.Ytcnbbanpnoigdaa
