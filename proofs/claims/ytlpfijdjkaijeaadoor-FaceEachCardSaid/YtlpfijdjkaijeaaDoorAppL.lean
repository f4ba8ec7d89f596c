/-
  append of a row of structs of ints behind a row of the call's own: the row of both.
-/
import Derived.Test.YtlpfijdjkaijeaaDoorAppK
namespace Go.Proofs.YtlpfijdjkaijeaaDoor
open Go.RowKit

theorem valsK_congr {n k : Nat} {F G : Nat → Nat → Int} (h : ∀ i, i < n → ∀ j, j < k → F i j = G i j) : valsK n k F = valsK n k G := by
  unfold valsK
  refine List.map_congr_left fun q hq => ?_
  rw [List.mem_range] at hq
  have hk : 0 < k := by
    rcases Nat.eq_zero_or_pos k with z | z
    · subst z; simp at hq
    · exact z
  rw [h (q / k) ((Nat.div_lt_iff_lt_mul hk).2 hq) (q % k) (Nat.mod_lt _ hk)]
/-- One row behind the other. -/
def catK (n : Nat) (F G : Nat → Nat → Int) : Nat → Nat → Int := fun t j => if t < n then F t j else G (t - n) j
theorem catK_lo {n t : Nat} (F G : Nat → Nat → Int) (j : Nat) (h : t < n) : catK n F G t j = F t j := if_pos h
theorem catK_hi {n t : Nat} (F G : Nat → Nat → Int) (j : Nat) (h : n ≤ t) : catK n F G t j = G (t - n) j := if_neg (by omega)
theorem valsK_cat (n m k : Nat) (F G : Nat → Nat → Int) : valsK n k F ++ valsK m k G = valsK (n + m) k (catK n F G) := by
  rcases Nat.eq_zero_or_pos k with z | hk
  · subst z; simp [valsK]
  · unfold valsK
    rw [Nat.add_mul, List.range_add, List.map_append, List.map_map]
    congr 1
    · refine List.map_congr_left fun q hq => ?_
      rw [List.mem_range] at hq
      rw [catK_lo _ _ _ ((Nat.div_lt_iff_lt_mul hk).2 hq)]
    · refine List.map_congr_left fun q hq => ?_
      have e1 : (n * k + q) / k = n + q / k := by rw [Nat.add_comm, Nat.add_mul_div_right _ _ hk, Nat.add_comm]
      have e2 : (n * k + q) % k = q % k := by rw [Nat.add_comm, Nat.add_mul_mod_self_right]
      simp only [Function.comp, e1, e2]
      rw [catK_hi _ _ _ (Nat.le_add_right _ _), Nat.add_sub_cancel_left]
/-- A row of the call's own, read as structs; where it lies. -/
theorem rowK_of_own2 {w : World} {base n k : Nat} {e : TypeId} {v : Value} {F : Nat → Nat → Int} (h : w.ownsRow base e k v n (valsK n k F)) : ∃ a c, v = .slice a n c ∧ ((a = none ∧ n = 0 ∧ c = 0) ∨ ∃ g, a = some ⟨g, 0, none⟩) ∧ n ≤ c ∧ c ≤ 9223372036854775807 ∧ RowK w a n k F := by
  obtain ⟨a, c, e1, h1, h2, h3, h4⟩ := rowK_of_own h
  refine ⟨a, c, e1, ?_, h2, h3, h4⟩
  obtain ⟨_, ⟨rfl, h0⟩ | ⟨g, cap, cur, rfl, _⟩⟩ := h
  · cases e1; exact .inl ⟨rfl, h0, rfl⟩
  · cases e1; exact .inr ⟨g, rfl⟩
theorem wpList_append_catk {P : Program} {w : World} {ops : Array Oper} {rest : List Oper} {o : Oper} {a : Act} {Q : Exit → Act → World → Prop} (hgd : o.guard = none) (s x : Operand) (t : TypeId)
    (ho : o.op = .call { callee := .builtin .append, args := #[s, x], argTypes := #[t, t] })
    (base : Nat) (e : TypeId) (i : TypeInfo) (z : Value) (k bytes : Nat) (ht : P.underlying t = some (.slice e)) (hi : P.info? e = some i) (hz : i.zero = some z)
    (hsize : i.size = k) (hby : i.bytes = bytes) (hzs : z.cells.size = k) (hsz : 0 < k)
    (v : Value) (p : Nat) (G : Nat → Nat → Int) (hs : a.eval s = v) (hown : w.ownsRow base e k v p (valsK p k G))
    (A : Option Addr) (n c : Nat) (F : Nat → Nat → Int) (hx : a.eval x = .slice A n c) (hA : A = none → n = 0 ∧ c = 0) (hr : RowK w A n k F)
    (h63 : p + n ≤ maxLen) (hbytes : (p + n) * bytes ≤ 140737488355328) (hbase : base ≤ w.heap.size)
    (h : ∀ v' w', w'.ownsRow base e k v' (p + n) (valsK (p + n) k (catK p G F)) → Below base w w' → wpList P ops Q rest (a.put o.dst v') w') : wpList P ops Q (o :: rest) a w := by
  rcases A with _ | ad
  · obtain ⟨rfl, rfl⟩ := hA rfl
    refine wpList_append_own_none hgd s x t ho base e i k ht hi v p (valsK p k G) hs hown hx (h v w ?_ (Below.refl _ _))
    rw [Nat.add_zero, valsK_congr (G := G) (fun i hi j _ => catK_lo G F j hi)]
    exact hown
  · refine wpList_append_own_at w hgd s x t ho base e i z k bytes ht hi hz hsize hby hzs hsz v p (valsK p k G) hs hown ad n c (valsK n k F) hx (valsK_length n k F) ?_ valsK_one h63 hbytes hbase ?_
    · intro q u hq
      obtain ⟨h1, rfl⟩ := valsK_at hq
      rcases hr with rfl | ⟨b, off, e, _, hc⟩
      · simp at h1
      · cases e
        have hd : q / k < n := (Nat.div_lt_iff_lt_mul hsz).2 h1
        have := hc (q / k) hd (q % k) (Nat.mod_lt _ hsz)
        rw [Go.WideShapes.add_plain]
        rwa [Nat.mul_comm, Nat.div_add_mod] at this
    · intro v' w' hown' hgrow _ _
      rw [valsK_cat] at hown'
      exact h v' w' hown' ((Below.refl _ w).grown hgrow hbase (fun g hg => (hown.lt g hg).1))
/-- A part of a row. -/
theorem RowK.part {W : World} {a : Option Addr} {n k : Nat} {F : Nat → Nat → Int} (h : RowK W a n k F) {m : Nat} (hm : m ≤ n) : RowK W a m k F := by
  rcases h with h | ⟨b, off, ha, hl, h⟩
  · exact .inl (by omega)
  · exact .inr ⟨b, off, ha, hl, fun i hi j hj => h i (by omega) j hj⟩
theorem RowK.from {W : World} {b off n k : Nat} {F : Nat → Nat → Int} (h : RowK W (some ⟨b, off, none⟩) n k F) (m : Nat) : RowK W (some ⟨b, off + m * k, none⟩) (n - m) k (fun t j => F (m + t) j) := by
  rcases h with h | ⟨b', off', ha, hl, h⟩
  · exact .inl (by omega)
  · cases ha
    refine .inr ⟨_, _, rfl, hl, fun i hi j hj => ?_⟩
    have := h (m + i) (by omega) j hj
    rwa [Nat.add_mul, Nat.add_assoc, ← Nat.add_assoc off] at this
theorem rowK_new (W : World) (T : TypeId) (x y : Int) : RowK (W.alloc (.cells #[.int .i64 x, .int .i64 y] T)) (some ⟨W.heap.size, 0, none⟩) 1 2 (fun _ j => if j = 0 then x else y) := by
  refine .inr ⟨_, _, rfl, by simp, fun i hi j hj => ?_⟩
  obtain rfl : i = 0 := by omega
  match j, hj with
  | 0, _ => simp
  | 1, _ => simp
theorem ownK_keep {w w' : World} {base : Nat} {e : TypeId} {k : Nat} {v : Value} {n : Nat} {xs : List Value} (h : w.ownsRow base e k v n xs) (hb : Below w.heap.size w w') : w'.ownsRow base e k v n xs :=
  h.kept (row := none) ⟨hb.os, hb.tape, hb.output, hb.size, fun k hk _ => hb.block k hk⟩ (by
    rcases h.2 with ⟨rfl, _⟩ | ⟨g, cap, cur, rfl, _⟩
    · exact .inl rfl
    · exact .inr (by simp [Value.ownBlock]))
end Go.Proofs.YtlpfijdjkaijeaaDoor
