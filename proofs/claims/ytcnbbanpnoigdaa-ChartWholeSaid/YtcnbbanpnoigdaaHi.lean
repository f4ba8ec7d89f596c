/-
  Texts in one: EgE, ChE, ChZ, ChK, EgF, EgG, EgH, EgI, ChW.
-/
import Derived.Test.YtcnbbanpnoigdaaHh
import Derived.Maps.AppendAt
import Derived.Test.YtcnbbanpnoigdaaHg
import Derived.Test.YtcnbbanpnoigdaaHd
/-
  Rows of edges (structs of two ints and a row of ints): of the call's own, read; one edge appended.
-/
namespace Go.Proofs.Ytcnbbanpnoigdaa
open Go.RowKit

/-- An edge: its two places, the triangles that have it, and the value that leads to these. -/
abbrev EdZ := Int × Int × List Int × Value
def edC (z : EdZ) : Int × Int × List Int := (z.1, z.2.1, z.2.2.1)
def cellsE (Z : List EdZ) : List Value := Z.flatMap fun z => [.int .i64 z.1, .int .i64 z.2.1, z.2.2.2]
theorem cellsE_length : ∀ Z : List EdZ, (cellsE Z).length = Z.length * 3
  | [] => rfl
  | z :: Z => by
    show ([_, _, _] ++ cellsE Z).length = (Z.length + 1) * 3
    rw [List.length_append, cellsE_length Z, Nat.add_mul]
    show 3 + _ = _
    omega
theorem cellsE_append (Z Y : List EdZ) : cellsE (Z ++ Y) = cellsE Z ++ cellsE Y := by unfold cellsE; rw [List.flatMap_append]
theorem cellsE_at : ∀ (Z : List EdZ) (i : Nat) (h : i < Z.length), (cellsE Z)[i * 3]? = some (.int .i64 Z[i].1) ∧ (cellsE Z)[i * 3 + 1]? = some (.int .i64 Z[i].2.1) ∧ (cellsE Z)[i * 3 + 2]? = some Z[i].2.2.2
  | [], i, h => absurd h (by simp)
  | z :: Z, 0, h => ⟨rfl, rfl, rfl⟩
  | z :: Z, i + 1, h => by
    have q := cellsE_at Z i (by simpa using h)
    have e : ∀ j, (cellsE (z :: Z))[3 + j]? = (cellsE Z)[j]? := fun j => by
      show ([_, _, _] ++ cellsE Z)[3 + j]? = _
      rw [List.getElem?_append_right (by show 3 ≤ _; omega)]
      show (cellsE Z)[3 + j - 3]? = _
      rw [Nat.add_sub_cancel_left]
    rw [show (i + 1) * 3 = 3 + i * 3 from by omega, Nat.add_assoc, Nat.add_assoc, e, e, e]
    exact q
/-- A row of edges of the call's own: each edge's own row lies in a block of its own. -/
def OwnE (w : World) (base : Nat) (v : Value) (Z : List EdZ) : Prop :=
  w.ownsRow base 85 3 v Z.length (cellsE Z) ∧ ∀ z ∈ Z, OwnI w base z.2.2.2 z.2.2.1 ∧ ∀ g, z.2.2.2.ownBlock = some g → v.ownBlock ≠ some g
theorem OwnE.keep {w w' : World} {base : Nat} {v : Value} {Z : List EdZ} (h : OwnE w base v Z) (hb : Below w.heap.size w w') : OwnE w' base v Z := ⟨ownK_keep h.1 hb, fun z hz => ⟨(h.2 z hz).1.keep hb, (h.2 z hz).2⟩⟩
theorem OwnE.nil (w : World) (base : Nat) : OwnE w base (.slice none 0 0) [] := ⟨World.ownsRow_nil _ _ _ _, fun z hz => by cases hz⟩
theorem OwnE.mono {w : World} {base base' : Nat} {v : Value} {Z : List EdZ} (h : OwnE w base v Z) (hb : base' ≤ base) : OwnE w base' v Z := ⟨ownR_mono h.1 hb, fun z hz => ⟨ownI_mono (h.2 z hz).1 hb, (h.2 z hz).2⟩⟩
theorem ownI_block {w w' : World} {base : Nat} {v : Value} {L : List Int} (h : OwnI w base v L) (k : ∀ g, v.ownBlock = some g → w'.heap[g]? = w.heap[g]?) : OwnI w' base v L := by
  obtain ⟨h1, h2 | ⟨g, cap, cur, hv, hg, hh, hrest⟩⟩ := h
  · exact ⟨h1, .inl h2⟩
  · exact ⟨h1, .inr ⟨g, cap, cur, hv, hg, by rw [k g (by rw [hv]; rfl)]; exact hh, hrest⟩⟩
theorem ownI_one {w : World} {base : Nat} {v : Value} {L : List Int} (h : OwnI w base v L) : v.oneCell' = true := by
  obtain ⟨_, ⟨rfl, _⟩ | ⟨g, cap, cur, rfl, _⟩⟩ := h <;> rfl
theorem infoE : (Try.prog.info? 85).map (fun i => (i.zero, i.size, i.bytes)) = some (some (.agg #[.int .i64 0, .int .i64 0, .slice none 0 0]), 3, 40) := by kernel_rfl
theorem app_edge {W : World} {ops : Array Oper} {rest : List Oper} {o : Oper} {a : Act} {Q : Exit → Act → World → Prop} (hgd : o.guard = none) (s x : Operand)
    (ho : o.op = .call { callee := .builtin .append, args := #[s, x], argTypes := #[81, 81] })
    (base : Nat) (v : Value) (Z : List EdZ) (hs : a.eval s = v) (hO : OwnE W base v Z) (A B : Int) (l : List Int) (t : Value) (hx : a.eval x = .slice (some ⟨W.heap.size, 0, none⟩) 1 1)
    (ht : OwnI W base t l) (hd : ∀ g, t.ownBlock = some g → v.ownBlock ≠ some g) (hk : Z.length ≤ 1000000) (hbase : base ≤ W.heap.size)
    (h : ∀ v' w', OwnE w' base v' (Z ++ [(A, B, l, t)]) → Below base W w' → wpList Try.prog ops Q rest (a.put o.dst v') w') : wpList Try.prog ops Q (o :: rest) a (W.alloc (.cells #[.int .i64 A, .int .i64 B, t] 85)) := by
  obtain ⟨i0, hi, hz0, hz1, hz2⟩ := info_parts infoE
  have o1 := ownI_one ht
  refine wpList_append_own_at _ hgd s x 81 ho base 85 i0 _ 3 40 Try.underlying81 hi hz0 hz1 hz2 rfl (by decide) v Z.length (cellsE Z) hs (hO.1.alloc _) ⟨W.heap.size, 0, none⟩ 1 1 [.int .i64 A, .int .i64 B, t] hx rfl ?_ ?_ ?_ ?_ ?_ ?_
  · intro j u hj
    rw [Go.WideShapes.add_plain, Nat.zero_add]
    exact alloc_cell rfl (by rw [List.getElem?_toArray] at *; exact hj)
  · intro u hu
    simp at hu
    rcases hu with rfl | rfl | rfl
    · rfl
    · rfl
    · exact o1
  · unfold maxLen; omega
  · omega
  · simp; omega
  · intro v' w1 hown' hgrow _ hat
    have hsz : (W.alloc (.cells #[.int .i64 A, .int .i64 B, t] 85)).heap.size = W.heap.size + 1 := by simp
    have hb0 : Below base W (W.alloc (.cells #[.int .i64 A, .int .i64 B, t] 85)) := (Below.refl base W).alloc hbase _
    have old : ∀ g, g < W.heap.size → v.ownBlock ≠ some g → w1.heap[g]? = W.heap[g]? := fun g hg hn =>
      (hgrow.block g (by omega) (fun e => hn e.symm)).trans ((Below.refl W.heap.size W).alloc (Nat.le_refl _) _ |>.block g hg)
    have hnew : ∀ g, g < W.heap.size → v.ownBlock ≠ some g → v'.ownBlock ≠ some g := fun g hg hn e => by
      rcases hat with q | q
      · exact hn (q.symm.trans e)
      · rw [q, hsz] at e
        have := Option.some.inj e
        omega
    refine h v' w1 ⟨?_, ?_⟩ (hb0.grown hgrow (by omega) (fun g hg => (hO.1.lt g hg).1))
    · rw [List.length_append, cellsE_append]
      exact hown'
    · intro z hz
      rcases List.mem_append.1 hz with hz | hz
      · obtain ⟨p, q⟩ := hO.2 z hz
        refine ⟨ownI_block p (fun g hg => old g (World.ownsRow.lt p g hg).2 (q g hg)), fun g hg => hnew g (World.ownsRow.lt p g hg).2 (q g hg)⟩
      · rw [List.mem_singleton] at hz
        subst hz
        exact ⟨ownI_block ht (fun g hg => old g (World.ownsRow.lt ht g hg).2 (hd g hg)), fun g hg => hnew g (World.ownsRow.lt ht g hg).2 (hd g hg)⟩
/-- A row of edges, read by its list. -/
def RowE (W : World) (a : Option Addr) (n : Nat) (L : List (Int × Int × List Int)) : Prop :=
  L.length = n ∧ (n = 0 ∨ ∃ b off, a = some ⟨b, off, none⟩ ∧ b < W.heap.size ∧ ∀ i (hi : i < L.length), W.cell? ⟨b, off + i * 3, none⟩ = some (.int .i64 L[i].1) ∧ W.cell? ⟨b, off + (i * 3 + 1), none⟩ = some (.int .i64 L[i].2.1) ∧
    ∃ t m c, W.cell? ⟨b, off + (i * 3 + 2), none⟩ = some (.slice t m c) ∧ RowI W t m L[i].2.2 ∧ (t = none → m = 0 ∧ c = 0) ∧ m ≤ c ∧ c ≤ 9223372036854775807)
theorem RowE.keep {W W' : World} {a : Option Addr} {n : Nat} {L : List (Int × Int × List Int)} (h : RowE W a n L) (hb : Below W.heap.size W W') : RowE W' a n L := by
  obtain ⟨h1, h2 | ⟨b, off, ha, hl, hc⟩⟩ := h
  · exact ⟨h1, .inl h2⟩
  · refine ⟨h1, .inr ⟨b, off, ha, Nat.lt_of_lt_of_le hl hb.size, fun i hi => ?_⟩⟩
    obtain ⟨p, q, t, m, c, r, s, u⟩ := hc i hi
    exact ⟨keepc hb p, keepc hb q, t, m, c, keepc hb r, s.keep hb, u⟩
theorem RowE.at {W : World} {a : Option Addr} {n : Nat} {L : List (Int × Int × List Int)} (h : RowE W a n L) {i : Nat} (hi : i < n) : ∃ b off t m c, ∃ x y : Int, ∃ l : List Int, a = some ⟨b, off, none⟩ ∧ b < W.heap.size ∧ L[i]? = some (x, y, l) ∧ W.cell? ⟨b, off + i * 3, none⟩ = some (.int .i64 x) ∧ W.cell? ⟨b, off + (i * 3 + 1), none⟩ = some (.int .i64 y) ∧
    W.cell? ⟨b, off + (i * 3 + 2), none⟩ = some (.slice t m c) ∧ RowI W t m l ∧ (t = none → m = 0 ∧ c = 0) ∧ m ≤ c ∧ c ≤ 9223372036854775807 := by
  obtain ⟨h1, h2 | ⟨b, off, ha, hl, hc⟩⟩ := h
  · omega
  · have hi' : i < L.length := by omega
    obtain ⟨p, q, t, m, c, r, s, u⟩ := hc i hi'
    exact ⟨b, off, t, m, c, L[i].1, L[i].2.1, L[i].2.2, ha, hl, by rw [List.getElem?_eq_getElem hi'], p, q, r, s, u⟩
theorem rowE_of_own {w : World} {base : Nat} {v : Value} {Z : List EdZ} (h : OwnE w base v Z) : ∃ a c, v = .slice a Z.length c ∧ (a = none → Z.length = 0 ∧ c = 0) ∧ Z.length ≤ c ∧ c ≤ 9223372036854775807 ∧ RowE w a Z.length (Z.map edC) := by
  obtain ⟨hr, hz⟩ := h
  have hl := hr.lt
  have hc := fun (g : Nat) (hg : v.ownBlock = some g) => hr.cells hg
  obtain ⟨h1, ⟨rfl, h0⟩ | ⟨g, cap, cur, rfl, hb, hh, hk, hm, _, _⟩⟩ := hr
  · exact ⟨none, 0, by rw [h0], (fun _ => ⟨h0, rfl⟩), by omega, by omega, by simp, .inl h0⟩
  · refine ⟨_, cap, rfl, (fun h => by cases h), hk, by unfold maxLen at hm; omega, by simp, .inr ⟨g, 0, rfl, (hl g rfl).2, fun i hi => ?_⟩⟩
    have hi' : i < Z.length := by simpa using hi
    obtain ⟨p, q, r⟩ := cellsE_at Z i hi'
    have cc := hc g rfl
    have p' := cc (i * 3) _ p
    have q' := cc (i * 3 + 1) _ q
    have r' := cc (i * 3 + 2) _ r
    simp only [Go.WideShapes.add_plain] at p' q' r'
    have zi := hz Z[i] (List.getElem_mem hi')
    obtain ⟨t, c, e, f1, f2, f3, f4⟩ := rowI_of_own zi.1
    rw [e] at r'
    refine ⟨by simpa [edC] using p', by simpa [edC] using q', t, _, c, r', by simpa [edC] using f4, f1, f2, f3⟩
end Go.Proofs.Ytcnbbanpnoigdaa
/-
  Rows of edges (structs of two ints and a row of ints): of the call's own, read; one edge appended.
-/
namespace Go.Proofs.Ytcnbbanpnoigdaa
open Go.RowKit

/-- An edge: its two places, the triangles that have it, and the value that leads to these. -/
abbrev CtZ := Int × Int × List Int × Value
def ctC (z : CtZ) : Int × Int × List Int := (z.1, z.2.1, z.2.2.1)
def cellsC (Z : List CtZ) : List Value := Z.flatMap fun z => [.int .i64 z.1, .int .i64 z.2.1, z.2.2.2]
theorem cellsC_length : ∀ Z : List CtZ, (cellsC Z).length = Z.length * 3
  | [] => rfl
  | z :: Z => by
    show ([_, _, _] ++ cellsC Z).length = (Z.length + 1) * 3
    rw [List.length_append, cellsC_length Z, Nat.add_mul]
    show 3 + _ = _
    omega
theorem cellsC_append (Z Y : List CtZ) : cellsC (Z ++ Y) = cellsC Z ++ cellsC Y := by unfold cellsC; rw [List.flatMap_append]
theorem cellsC_at : ∀ (Z : List CtZ) (i : Nat) (h : i < Z.length), (cellsC Z)[i * 3]? = some (.int .i64 Z[i].1) ∧ (cellsC Z)[i * 3 + 1]? = some (.int .i64 Z[i].2.1) ∧ (cellsC Z)[i * 3 + 2]? = some Z[i].2.2.2
  | [], i, h => absurd h (by simp)
  | z :: Z, 0, h => ⟨rfl, rfl, rfl⟩
  | z :: Z, i + 1, h => by
    have q := cellsC_at Z i (by simpa using h)
    have e : ∀ j, (cellsC (z :: Z))[3 + j]? = (cellsC Z)[j]? := fun j => by
      show ([_, _, _] ++ cellsC Z)[3 + j]? = _
      rw [List.getElem?_append_right (by show 3 ≤ _; omega)]
      show (cellsC Z)[3 + j - 3]? = _
      rw [Nat.add_sub_cancel_left]
    rw [show (i + 1) * 3 = 3 + i * 3 from by omega, Nat.add_assoc, Nat.add_assoc, e, e, e]
    exact q
/-- A row of edges of the call's own: each edge's own row lies in a block of its own. -/
def OwnC (w : World) (base : Nat) (v : Value) (Z : List CtZ) : Prop :=
  w.ownsRow base 36 3 v Z.length (cellsC Z) ∧ ∀ z ∈ Z, OwnI w base z.2.2.2 z.2.2.1 ∧ ∀ g, z.2.2.2.ownBlock = some g → v.ownBlock ≠ some g
theorem OwnC.keep {w w' : World} {base : Nat} {v : Value} {Z : List CtZ} (h : OwnC w base v Z) (hb : Below w.heap.size w w') : OwnC w' base v Z := ⟨ownK_keep h.1 hb, fun z hz => ⟨(h.2 z hz).1.keep hb, (h.2 z hz).2⟩⟩
theorem OwnC.nil (w : World) (base : Nat) : OwnC w base (.slice none 0 0) [] := ⟨World.ownsRow_nil _ _ _ _, fun z hz => by cases hz⟩
theorem OwnC.mono {w : World} {base base' : Nat} {v : Value} {Z : List CtZ} (h : OwnC w base v Z) (hb : base' ≤ base) : OwnC w base' v Z := ⟨ownR_mono h.1 hb, fun z hz => ⟨ownI_mono (h.2 z hz).1 hb, (h.2 z hz).2⟩⟩
theorem infoC : (Try.prog.info? 36).map (fun i => (i.zero, i.size, i.bytes)) = some (some (.agg #[.int .i64 0, .int .i64 0, .slice none 0 0]), 3, 40) := by kernel_rfl
theorem app_chart {W : World} {ops : Array Oper} {rest : List Oper} {o : Oper} {a : Act} {Q : Exit → Act → World → Prop} (hgd : o.guard = none) (s x : Operand)
    (ho : o.op = .call { callee := .builtin .append, args := #[s, x], argTypes := #[28, 28] })
    (base : Nat) (v : Value) (Z : List CtZ) (hs : a.eval s = v) (hO : OwnC W base v Z) (A B : Int) (l : List Int) (t : Value) (hx : a.eval x = .slice (some ⟨W.heap.size, 0, none⟩) 1 1)
    (ht : OwnI W base t l) (hd : ∀ g, t.ownBlock = some g → v.ownBlock ≠ some g) (hk : Z.length ≤ 1000000) (hbase : base ≤ W.heap.size)
    (h : ∀ v' w', OwnC w' base v' (Z ++ [(A, B, l, t)]) → Below base W w' → wpList Try.prog ops Q rest (a.put o.dst v') w') : wpList Try.prog ops Q (o :: rest) a (W.alloc (.cells #[.int .i64 A, .int .i64 B, t] 36)) := by
  obtain ⟨i0, hi, hz0, hz1, hz2⟩ := info_parts infoC
  have o1 := ownI_one ht
  refine wpList_append_own_at _ hgd s x 28 ho base 36 i0 _ 3 40 Try.underlying28 hi hz0 hz1 hz2 rfl (by decide) v Z.length (cellsC Z) hs (hO.1.alloc _) ⟨W.heap.size, 0, none⟩ 1 1 [.int .i64 A, .int .i64 B, t] hx rfl ?_ ?_ ?_ ?_ ?_ ?_
  · intro j u hj
    rw [Go.WideShapes.add_plain, Nat.zero_add]
    exact alloc_cell rfl (by rw [List.getElem?_toArray] at *; exact hj)
  · intro u hu
    simp at hu
    rcases hu with rfl | rfl | rfl
    · rfl
    · rfl
    · exact o1
  · unfold maxLen; omega
  · omega
  · simp; omega
  · intro v' w1 hown' hgrow _ hat
    have hsz : (W.alloc (.cells #[.int .i64 A, .int .i64 B, t] 36)).heap.size = W.heap.size + 1 := by simp
    have hb0 : Below base W (W.alloc (.cells #[.int .i64 A, .int .i64 B, t] 36)) := (Below.refl base W).alloc hbase _
    have old : ∀ g, g < W.heap.size → v.ownBlock ≠ some g → w1.heap[g]? = W.heap[g]? := fun g hg hn =>
      (hgrow.block g (by omega) (fun e => hn e.symm)).trans ((Below.refl W.heap.size W).alloc (Nat.le_refl _) _ |>.block g hg)
    have hnew : ∀ g, g < W.heap.size → v.ownBlock ≠ some g → v'.ownBlock ≠ some g := fun g hg hn e => by
      rcases hat with q | q
      · exact hn (q.symm.trans e)
      · rw [q, hsz] at e
        have := Option.some.inj e
        omega
    refine h v' w1 ⟨?_, ?_⟩ (hb0.grown hgrow (by omega) (fun g hg => (hO.1.lt g hg).1))
    · rw [List.length_append, cellsC_append]
      exact hown'
    · intro z hz
      rcases List.mem_append.1 hz with hz | hz
      · obtain ⟨p, q⟩ := hO.2 z hz
        refine ⟨ownI_block p (fun g hg => old g (World.ownsRow.lt p g hg).2 (q g hg)), fun g hg => hnew g (World.ownsRow.lt p g hg).2 (q g hg)⟩
      · rw [List.mem_singleton] at hz
        subst hz
        exact ⟨ownI_block ht (fun g hg => old g (World.ownsRow.lt ht g hg).2 (hd g hg)), fun g hg => hnew g (World.ownsRow.lt ht g hg).2 (hd g hg)⟩
/-- A row of edges, read by its list. -/
def RowC (W : World) (a : Option Addr) (n : Nat) (L : List (Int × Int × List Int)) : Prop :=
  L.length = n ∧ (n = 0 ∨ ∃ b off, a = some ⟨b, off, none⟩ ∧ b < W.heap.size ∧ ∀ i (hi : i < L.length), W.cell? ⟨b, off + i * 3, none⟩ = some (.int .i64 L[i].1) ∧ W.cell? ⟨b, off + (i * 3 + 1), none⟩ = some (.int .i64 L[i].2.1) ∧
    ∃ t m c, W.cell? ⟨b, off + (i * 3 + 2), none⟩ = some (.slice t m c) ∧ RowI W t m L[i].2.2 ∧ (t = none → m = 0 ∧ c = 0) ∧ m ≤ c ∧ c ≤ 9223372036854775807)
theorem RowC.keep {W W' : World} {a : Option Addr} {n : Nat} {L : List (Int × Int × List Int)} (h : RowC W a n L) (hb : Below W.heap.size W W') : RowC W' a n L := by
  obtain ⟨h1, h2 | ⟨b, off, ha, hl, hc⟩⟩ := h
  · exact ⟨h1, .inl h2⟩
  · refine ⟨h1, .inr ⟨b, off, ha, Nat.lt_of_lt_of_le hl hb.size, fun i hi => ?_⟩⟩
    obtain ⟨p, q, t, m, c, r, s, u⟩ := hc i hi
    exact ⟨keepc hb p, keepc hb q, t, m, c, keepc hb r, s.keep hb, u⟩
theorem RowC.at {W : World} {a : Option Addr} {n : Nat} {L : List (Int × Int × List Int)} (h : RowC W a n L) {i : Nat} (hi : i < n) : ∃ b off t m c, ∃ x y : Int, ∃ l : List Int, a = some ⟨b, off, none⟩ ∧ b < W.heap.size ∧ L[i]? = some (x, y, l) ∧ W.cell? ⟨b, off + i * 3, none⟩ = some (.int .i64 x) ∧ W.cell? ⟨b, off + (i * 3 + 1), none⟩ = some (.int .i64 y) ∧
    W.cell? ⟨b, off + (i * 3 + 2), none⟩ = some (.slice t m c) ∧ RowI W t m l ∧ (t = none → m = 0 ∧ c = 0) ∧ m ≤ c ∧ c ≤ 9223372036854775807 := by
  obtain ⟨h1, h2 | ⟨b, off, ha, hl, hc⟩⟩ := h
  · omega
  · have hi' : i < L.length := by omega
    obtain ⟨p, q, t, m, c, r, s, u⟩ := hc i hi'
    exact ⟨b, off, t, m, c, L[i].1, L[i].2.1, L[i].2.2, ha, hl, by rw [List.getElem?_eq_getElem hi'], p, q, r, s, u⟩
theorem rowC_of_own {w : World} {base : Nat} {v : Value} {Z : List CtZ} (h : OwnC w base v Z) : ∃ a c, v = .slice a Z.length c ∧ (a = none → Z.length = 0 ∧ c = 0) ∧ Z.length ≤ c ∧ c ≤ 9223372036854775807 ∧ RowC w a Z.length (Z.map ctC) := by
  obtain ⟨hr, hz⟩ := h
  have hl := hr.lt
  have hc := fun (g : Nat) (hg : v.ownBlock = some g) => hr.cells hg
  obtain ⟨h1, ⟨rfl, h0⟩ | ⟨g, cap, cur, rfl, hb, hh, hk, hm, _, _⟩⟩ := hr
  · exact ⟨none, 0, by rw [h0], (fun _ => ⟨h0, rfl⟩), by omega, by omega, by simp, .inl h0⟩
  · refine ⟨_, cap, rfl, (fun h => by cases h), hk, by unfold maxLen at hm; omega, by simp, .inr ⟨g, 0, rfl, (hl g rfl).2, fun i hi => ?_⟩⟩
    have hi' : i < Z.length := by simpa using hi
    obtain ⟨p, q, r⟩ := cellsC_at Z i hi'
    have cc := hc g rfl
    have p' := cc (i * 3) _ p
    have q' := cc (i * 3 + 1) _ q
    have r' := cc (i * 3 + 2) _ r
    simp only [Go.WideShapes.add_plain] at p' q' r'
    have zi := hz Z[i] (List.getElem_mem hi')
    obtain ⟨t, c, e, f1, f2, f3, f4⟩ := rowI_of_own zi.1
    rw [e] at r'
    refine ⟨by simpa [ctC] using p', by simpa [ctC] using q', t, _, c, r', by simpa [ctC] using f4, f1, f2, f3⟩
end Go.Proofs.Ytcnbbanpnoigdaa
/-
  What the program's package chart is to answer, as one fact: the laws are walked with it. (gen/ChZ.py)
-/
namespace Go.Proofs.Ytcnbbanpnoigdaa
open Go.RowKit

/-- There is a shadow. -/
def shT (t : Bool) (n : Nat) (i ax : Int) : Bool := (t && plB i n) && decide (axB ax)
/-- The charts that are grown: none of a mesh that is not tame. -/
def chA (t : Bool) (n : Nat) (FV FC : Nat → Nat → Int) : List ChT := if t then (chF t n FV FC).grow n else []
structure ChOK : Prop where
  tame : ∀ (pa1 pa2 pa3 pa4 : Option Addr) (n1 n2 n3 n4 c1 c2 c3 c4 : Nat) (FV FT FN FC : Nat → Nat → Int) (w : World) (_ : MsW w pa1 pa2 pa3 pa4 n1 n2 n3 n4 FV FT FN FC) (_ : n1 ≤ 20) (_ : n4 ≤ 12), Calls Try.prog 10 #[.agg #[.slice pa1 n1 c1, .slice pa2 n2 c2, .slice pa3 n3 c3, .slice pa4 n4 c4]] w fun e w' => e = .returned (.bool (tmB n1 n2 n3 n4 FV FT FN FC)) ∧ Below w.heap.size w w'
  facing : ∀ (pa1 pa2 pa3 pa4 : Option Addr) (n1 n2 n3 n4 c1 c2 c3 c4 : Nat) (FV FT FN FC : Nat → Nat → Int) (i : Int) (w : World) (_ : MsW w pa1 pa2 pa3 pa4 n1 n2 n3 n4 FV FT FN FC) (_ : n1 ≤ 20) (_ : n4 ≤ 12), Calls Try.prog 11 #[.agg #[.slice pa1 n1 c1, .slice pa2 n2 c2, .slice pa3 n3 c3, .slice pa4 n4 c4], .int .i64 i] w fun e w' => e = .returned (.tuple #[.int .i64 ((chF (tmB n1 n2 n3 n4 FV FT FN FC) n4 FV FC).A i), .int .i64 ((chF (tmB n1 n2 n3 n4 FV FT FN FC) n4 FV FC).S i), .bool ((chF (tmB n1 n2 n3 n4 FV FT FN FC) n4 FV FC).K i)]) ∧ Below w.heap.size w w'
  shadow : ∀ (pa1 pa2 pa3 pa4 : Option Addr) (n1 n2 n3 n4 c1 c2 c3 c4 : Nat) (FV FT FN FC : Nat → Nat → Int) (i ax : Int) (w : World) (_ : MsW w pa1 pa2 pa3 pa4 n1 n2 n3 n4 FV FT FN FC) (_ : n1 ≤ 20) (_ : n4 ≤ 12), Calls Try.prog 13 #[.agg #[.slice pa1 n1 c1, .slice pa2 n2 c2, .slice pa3 n3 c3, .slice pa4 n4 c4], .int .i64 i, .int .i64 ax] w fun e w' => e = .returned (.tuple #[.agg #[.int .i64 (vF (shT (tmB n1 n2 n3 n4 FV FT FN FC) n4 i ax) (shX FV FC ax.toNat i.toNat 0)), .int .i64 (vF (shT (tmB n1 n2 n3 n4 FV FT FN FC) n4 i ax) (shY FV FC ax.toNat i.toNat 0)), .int .i64 (vF (shT (tmB n1 n2 n3 n4 FV FT FN FC) n4 i ax) (shX FV FC ax.toNat i.toNat 1)), .int .i64 (vF (shT (tmB n1 n2 n3 n4 FV FT FN FC) n4 i ax) (shY FV FC ax.toNat i.toNat 1)), .int .i64 (vF (shT (tmB n1 n2 n3 n4 FV FT FN FC) n4 i ax) (shX FV FC ax.toNat i.toNat 2)), .int .i64 (vF (shT (tmB n1 n2 n3 n4 FV FT FN FC) n4 i ax) (shY FV FC ax.toNat i.toNat 2))], .int .i64 (agE (shT (tmB n1 n2 n3 n4 FV FT FN FC) n4 i ax))]) ∧ Below w.heap.size w w'
  fits : ∀ (pa1 pa2 pa3 pa4 : Option Addr) (n1 n2 n3 n4 c1 c2 c3 c4 : Nat) (FV FT FN FC : Nat → Nat → Int) (ax sd : Int) (a : Option Addr) (m c : Nat) (l : List Int) (i : Int) (w : World) (_ : MsW w pa1 pa2 pa3 pa4 n1 n2 n3 n4 FV FT FN FC) (_ : n1 ≤ 20) (_ : n4 ≤ 12) (_ : RowI w a m l) (_ : m ≤ 20), Calls Try.prog 16 #[.agg #[.slice pa1 n1 c1, .slice pa2 n2 c2, .slice pa3 n3 c3, .slice pa4 n4 c4], .agg #[.int .i64 ax, .int .i64 sd, .slice a m c], .int .i64 i] w fun e w' => e = .returned (.bool ((chF (tmB n1 n2 n3 n4 FV FT FN FC) n4 FV FC).fits ax sd l i)) ∧ Below w.heap.size w w'
  grow : ∀ (pa1 pa2 pa3 pa4 : Option Addr) (n1 n2 n3 n4 c1 c2 c3 c4 : Nat) (FV FT FN FC : Nat → Nat → Int) (w : World) (_ : MsW w pa1 pa2 pa3 pa4 n1 n2 n3 n4 FV FT FN FC) (_ : n1 ≤ 20) (_ : n4 ≤ 12), Calls Try.prog 8 #[.agg #[.slice pa1 n1 c1, .slice pa2 n2 c2, .slice pa3 n3 c3, .slice pa4 n4 c4]] w fun e w' => (∃ v Z, e = .returned (.tuple #[v, .int .i64 (agE (tmB n1 n2 n3 n4 FV FT FN FC))]) ∧ OwnC w' w.heap.size v Z ∧ Z.map ctC = chA (tmB n1 n2 n3 n4 FV FT FN FC) n4 FV FC) ∧ Below w.heap.size w w'
  right : ∀ (pa1 pa2 pa3 pa4 : Option Addr) (n1 n2 n3 n4 c1 c2 c3 c4 : Nat) (FV FT FN FC : Nat → Nat → Int) (a : Option Addr) (m c : Nat) (L : List ChT) (w : World) (_ : MsW w pa1 pa2 pa3 pa4 n1 n2 n3 n4 FV FT FN FC) (_ : n1 ≤ 20) (_ : n4 ≤ 12) (_ : RowC w a m L) (_ : m ≤ 20) (_ : ∀ e ∈ L, e.2.2.length ≤ 20), Calls Try.prog 12 #[.agg #[.slice pa1 n1 c1, .slice pa2 n2 c2, .slice pa3 n3 c3, .slice pa4 n4 c4], .slice a m c] w fun e w' => e = .returned (.bool (tmB n1 n2 n3 n4 FV FT FN FC && (chF (tmB n1 n2 n3 n4 FV FT FN FC) n4 FV FC).rightB L)) ∧ Below w.heap.size w w'
end Go.Proofs.Ytcnbbanpnoigdaa
/-
  Charts, pure: the shadow of a triangle along its facing is a right triangle; what is grown of a tame mesh.
-/
namespace Go.Proofs.Ytcnbbanpnoigdaa

theorem tm_small {n1 n2 n3 n4 : Nat} {FV FT FN FC : Nat → Nat → Int} (h : tmB n1 n2 n3 n4 FV FT FN FC = true) {i k j : Nat} (hi : i < n4) (hk : k < 3) (hj : j < 3) : SM 4096 (pp FV FC i k j) := by
  unfold tmB at h
  obtain ⟨hv, hm⟩ := Bool.and_eq_true_iff.1 h
  unfold msB at hm
  rw [Bool.and_eq_true, Bool.and_eq_true, Bool.and_eq_true, Bool.and_eq_true] at hm
  have t := (allB_iff _ _).1 hm.2.2.2.2 i hi
  have c := (cnB_iff.1 ((allB_iff _ _).1 t k hk)).1
  have z := (allB_iff _ _).1 hv (FC i (k * 3)).toNat (by omega)
  rw [Bool.and_eq_true, Bool.and_eq_true, sB_iff, sB_iff, sB_iff] at z
  unfold pp
  rcases show j = 0 ∨ j = 1 ∨ j = 2 by omega with rfl | rfl | rfl
  · exact z.1
  · exact z.2.1
  · exact z.2.2
theorem pt_small {m x y z : Int} (h0 : SM m x) (h1 : SM m y) (h2 : SM m z) (k : Nat) : SM m (pt x y z k) := by
  unfold pt
  split
  · exact h0
  · split <;> assumption
theorem sh_small {n1 n2 n3 n4 : Nat} {FV FT FN FC : Nat → Nat → Int} (h : tmB n1 n2 n3 n4 FV FT FN FC = true) {i k : Nat} (hi : i < n4) (hk : k < 3) (ax : Nat) : s2 (shX FV FC ax i k) (shY FV FC ax i k) = true := by
  have s := fun j hj => tm_small h hi hk (j := j) hj
  exact s2_iff.2 ⟨pt_small (s 0 (by omega)) (s 1 (by omega)) (s 2 (by omega)) _, pt_small (s 0 (by omega)) (s 1 (by omega)) (s 2 (by omega)) _⟩
theorem sh_right {n1 n2 n3 n4 : Nat} {FV FT FN FC : Nat → Nat → Int} (h : tmB n1 n2 n3 n4 FV FT FN FC = true) {i : Nat} (hi : i < n4) (q : (fcE true (nmA FV FC i) (nmB FV FC i) (nmC FV FC i) == 0) = true) : shR FV FC (fcA true (nmA FV FC i) (nmB FV FC i) (nmC FV FC i)).toNat i = true := by
  have e := fcE_ok q
  rw [fcA_at e, Int.toNat_natCast]
  refine rT_iff.2 ⟨sh_small h hi (by omega) _, sh_small h hi (by omega) _, sh_small h hi (by omega) _, ?_⟩
  rw [shadow_ar FV FC (axF_3 _ _ _) i]
  exact far_part e
/-- What a triangle of a grown chart is. -/
theorem grown_tri {n1 n2 n3 n4 : Nat} {FV FT FN FC : Nat → Nat → Int} (h : tmB n1 n2 n3 n4 FV FT FN FC = true) {x ax sd : Int} (q : (chF true n4 FV FC).fb x ax sd = true) : (∃ i : Nat, x = (i : Int) ∧ i < n4) ∧ shT true n4 x ax = true ∧ shR FV FC ax.toNat x.toNat = true := by
  obtain ⟨k, a, -⟩ := ((chF true n4 FV FC).fb_iff).1 q
  have k' : (plB x n4 && (fcE true (nmA FV FC x.toNat) (nmB FV FC x.toNat) (nmC FV FC x.toNat) == 0)) = true := by
    have z : ((true && plB x n4) && (fcE true (nmA FV FC x.toNat) (nmB FV FC x.toNat) (nmC FV FC x.toNat) == 0)) = true := k
    rwa [Bool.true_and] at z
  obtain ⟨p, f⟩ := Bool.and_eq_true_iff.1 k'
  have pl := plB_iff.1 p
  have a' : vF (true && plB x n4) (fcA true (nmA FV FC x.toNat) (nmB FV FC x.toNat) (nmC FV FC x.toNat)) = ax := a
  rw [Bool.true_and, p, vF_yes] at a'
  have hx : x.toNat < n4 := by omega
  refine ⟨⟨x.toNat, by omega, hx⟩, ?_, ?_⟩
  · unfold shT
    rw [p, Bool.true_and, Bool.true_and, ← a', fcA_at (fcE_ok f)]
    refine decide_eq_true ?_
    unfold axB
    have := axF_3 (nmA FV FC x.toNat) (nmB FV FC x.toNat) (nmC FV FC x.toNat)
    omega
  · rw [← a']
    exact sh_right h hx f
end Go.Proofs.Ytcnbbanpnoigdaa
/-
  The reference limewashref14: Own of an edge. (gen/EgF.py)
-/
namespace Go.Proofs.Ytcnbbanpnoigdaa
open Go.RowKit

theorem ownI_set {w : World} {base : Nat} {v : Value} {L : List Int} (h : OwnI w base v L) {g i : Nat} {x : Value} (hg : g < base) : OwnI (w.setCell ⟨g, i, none⟩ x) base v L := ownsRow_setCell_below h (a := ⟨g, i, none⟩) hg x
/-- An edge's value, and an edge in a block, whose row is the call's own. -/
def EdU (W : World) (B : Nat) (x y : Int) (l : List Int) (u : Value) : Prop := ∃ v, u = .agg #[.int .i64 x, .int .i64 y, v] ∧ OwnI W B v l
theorem EdU.keep {W W' : World} {B : Nat} {x y : Int} {l : List Int} {u : Value} (h : EdU W B x y l u) (hb : Below W.heap.size W W') : EdU W' B x y l u := by
  obtain ⟨v, e, o⟩ := h; exact ⟨v, e, o.keep hb⟩
def EdK (W : World) (g B : Nat) (x y : Int) (l : List Int) : Prop := ∃ v, Lok W g 85 #[.int .i64 x, .int .i64 y, v] ∧ OwnI W B v l
theorem EdK.keep {W W' : World} {g B : Nat} {x y : Int} {l : List Int} (h : EdK W g B x y l) (hb : Below W.heap.size W W') : EdK W' g B x y l := by
  obtain ⟨v, e, o⟩ := h; exact ⟨v, e.keep hb, o.keep hb⟩
end Go.Proofs.Ytcnbbanpnoigdaa
/-
  The reference limewashref14: All, Loose. (gen/EgG.py)
-/
namespace Go.Proofs.Ytcnbbanpnoigdaa
open Go.RowKit

theorem ownBlock_apart {w w' : World} {base B : Nat} {u v : Value} {e : TypeId} {k n : Nat} {xs : List Value} {L : List Int} (h : w.ownsRow base e k u n xs) (q : OwnI w' B v L) (hB : w.heap.size ≤ B) : ∀ g, v.ownBlock = some g → u.ownBlock ≠ some g := fun g hg hu => by
  have := (h.lt g hu).2
  have := (World.ownsRow.lt q g hg).1
  omega
theorem ownI_slice {w : World} {base : Nat} {v : Value} {L : List Int} (h : OwnI w base v L) : ∃ a n c, v = .slice a n c := by
  obtain ⟨a, c, e, _⟩ := rowI_of_own h
  exact ⟨a, _, c, e⟩
theorem map_snoc {Z : List EdZ} {L : List (Int × Int × List Int)} {k : Nat} {x y : Int} {l : List Int} {v : Value} (h : Z.map edC = L.take k) (e : L[k]? = some (x, y, l)) : (Z ++ [(x, y, l, v)]).map edC = L.take (k + 1) := by
  rw [List.map_append, h, List.take_add_one, e]; rfl
/-- Those that have just one triangle. -/
def lsL (L : List (Int × Int × List Int)) : List (Int × Int × List Int) := L.filter fun e => decide (e.2.2.length = 1)
theorem ls_yes {L : List (Int × Int × List Int)} {k : Nat} {e : Int × Int × List Int} (h : L[k]? = some e) (q : e.2.2.length = 1) : lsL (L.take (k + 1)) = lsL (L.take k) ++ [e] := by
  unfold lsL; rw [List.take_add_one, h, List.filter_append]; simp [q]
theorem ls_no {L : List (Int × Int × List Int)} {k : Nat} {e : Int × Int × List Int} (h : L[k]? = some e) (q : ¬ e.2.2.length = 1) : lsL (L.take (k + 1)) = lsL (L.take k) := by
  unfold lsL; rw [List.take_add_one, h, List.filter_append]; simp [q]
theorem ls_len (L : List (Int × Int × List Int)) (k : Nat) : (lsL (L.take k)).length ≤ k := by
  unfold lsL
  exact Nat.le_trans (List.length_filter_le _ _) (by rw [List.length_take]; omega)
end Go.Proofs.Ytcnbbanpnoigdaa
/-
  The reference limewashref14: Find, Big, Few, Same. (gen/EgH.py)
-/
namespace Go.Proofs.Ytcnbbanpnoigdaa
open Go.RowKit

/-- An edge of two places, in whichever order. -/
def fdB (a b : Int) (e : Int × Int × List Int) : Bool := decide (e.1 = a ∧ e.2.1 = b ∨ e.1 = b ∧ e.2.1 = a)
theorem fd_hit {L : List (Int × Int × List Int)} {a b : Int} {k : Nat} {e : Int × Int × List Int} (h : (L.take k).find? (fdB a b) = none) (g : L[k]? = some e) (q : fdB a b e = true) : L.find? (fdB a b) = some e := by
  have z : L.find? (fdB a b) = ((L.take k ++ L.drop k).find? (fdB a b)) := by rw [List.take_append_drop]
  rw [z, List.find?_append, h]
  have hk : k < L.length := by
    rcases Nat.lt_or_ge k L.length with r | r
    · exact r
    · rw [List.getElem?_eq_none r] at g; cases g
  rw [List.drop_eq_getElem_cons hk]
  rw [List.getElem?_eq_getElem hk] at g
  cases Option.some.inj g
  show (List.find? (fdB a b) (L[k] :: _)) = _
  rw [List.find?_cons_of_pos q]
theorem fd_miss {L : List (Int × Int × List Int)} {a b : Int} {k : Nat} {e : Int × Int × List Int} (h : (L.take k).find? (fdB a b) = none) (g : L[k]? = some e) (q : fdB a b e = false) : (L.take (k + 1)).find? (fdB a b) = none := by
  rw [List.take_add_one, g, List.find?_append, h]
  show (List.find? (fdB a b) [e]) = none
  rw [List.find?_cons_of_neg (by rw [q]; decide)]; rfl
def fdV (o : Option (Int × Int × List Int)) : Int × Int × List Int := o.getD (0, 0, [])
/-- Edges that are not looked at. -/
def bigB (L : List (Int × Int × List Int)) : Bool := decide (60 < L.length ∨ ∃ e ∈ L, 60 < e.2.2.length)
theorem big_no {L : List (Int × Int × List Int)} (h : bigB L = false) : L.length ≤ 60 ∧ ∀ e ∈ L, e.2.2.length ≤ 60 := by
  have z := of_decide_eq_false h
  refine ⟨Nat.le_of_not_lt (fun q => z (.inl q)), fun e he => Nat.le_of_not_lt (fun q => z (.inr ⟨e, he, q⟩))⟩
end Go.Proofs.Ytcnbbanpnoigdaa
/-
  The reference limewashref14: Few, Same. (gen/EgI.py)
-/
namespace Go.Proofs.Ytcnbbanpnoigdaa
open Go.RowKit

/-- A mesh of few points and triangles. -/
def fwB (n1 n2 n3 n4 : Nat) : Bool := decide (n1 ≤ 20 ∧ n2 ≤ 60 ∧ n3 ≤ 60 ∧ n4 ≤ 20)
theorem fw_yes {n1 n2 n3 n4 : Nat} (h : fwB n1 n2 n3 n4 = true) : n1 ≤ 20 ∧ n2 ≤ 60 ∧ n3 ≤ 60 ∧ n4 ≤ 20 := of_decide_eq_true h
set_option maxRecDepth 100000 in
set_option maxHeartbeats 4000000 in
theorem rfew_any (pa1 pa2 pa3 pa4 : Option Addr) (n1 n2 n3 n4 c1 c2 c3 c4 : Nat) (w : World) :
    Calls Try.prog 19 #[.agg #[.slice pa1 n1 c1, .slice pa2 n2 c2, .slice pa3 n3 c3, .slice pa4 n4 c4]] w fun e' w' => e' = .returned (.bool (fwB n1 n2 n3 n4)) ∧ Below w.heap.size w w' := by
  have HB := Lib.hid (Below.refl w.heap.size w)
  by_cases p1 : n1 ≤ 20
  case neg =>
    have E : Hid (fwB n1 n2 n3 n4 = false) := Lib.hid (decide_eq_false (by omega))
    have q1 : ¬ (n1 : Int) ≤ 20 := by omega
    go_enter Try.func19, Try.ntmps19
    go_upto_region 1 with fail
    have hbm := below_new1 w (.cells #[.slice pa1 n1 c1, .slice pa2 n2 c2, .slice pa3 n3 c3, .slice pa4 n4 c4] 26)
    have zm : (w.alloc (.cells #[.slice pa1 n1 c1, .slice pa2 n2 c2, .slice pa3 n3 c3, .slice pa4 n4 c4] 26)).heap.size = w.heap.size + 1 := by simp
    have HB := Lib.hid hbm
    have km := Lib.hid (Lok.new w 26 #[.slice pa1 n1 c1, .slice pa2 n2 c2, .slice pa3 n3 c3, .slice pa4 n4 c4])
    clear hbm
    generalize w.alloc (.cells #[.slice pa1 n1 c1, .slice pa2 n2 c2, .slice pa3 n3 c3, .slice pa4 n4 c4] 26) = Vm at *
    clear zm
    have m0 := km.out.cell (i := 0) rfl
    have m1 := km.out.cell (i := 1) rfl
    have m2 := km.out.cell (i := 2) rfl
    have m3 := km.out.cell (i := 3) rfl
    go_wp2
    go_ret
    exact ⟨by rw [E.out]; rfl, HB.out⟩
  have q1 : (n1 : Int) ≤ 20 := by omega
  by_cases p2 : n2 ≤ 60
  case neg =>
    have E : Hid (fwB n1 n2 n3 n4 = false) := Lib.hid (decide_eq_false (by omega))
    have q2 : ¬ (n2 : Int) ≤ 60 := by omega
    go_enter Try.func19, Try.ntmps19
    go_upto_region 1 with fail
    have hbm := below_new1 w (.cells #[.slice pa1 n1 c1, .slice pa2 n2 c2, .slice pa3 n3 c3, .slice pa4 n4 c4] 26)
    have zm : (w.alloc (.cells #[.slice pa1 n1 c1, .slice pa2 n2 c2, .slice pa3 n3 c3, .slice pa4 n4 c4] 26)).heap.size = w.heap.size + 1 := by simp
    have HB := Lib.hid hbm
    have km := Lib.hid (Lok.new w 26 #[.slice pa1 n1 c1, .slice pa2 n2 c2, .slice pa3 n3 c3, .slice pa4 n4 c4])
    clear hbm
    generalize w.alloc (.cells #[.slice pa1 n1 c1, .slice pa2 n2 c2, .slice pa3 n3 c3, .slice pa4 n4 c4] 26) = Vm at *
    clear zm
    have m0 := km.out.cell (i := 0) rfl
    have m1 := km.out.cell (i := 1) rfl
    have m2 := km.out.cell (i := 2) rfl
    have m3 := km.out.cell (i := 3) rfl
    go_wp2
    go_ret
    exact ⟨by rw [E.out]; rfl, HB.out⟩
  have q2 : (n2 : Int) ≤ 60 := by omega
  by_cases p3 : n3 ≤ 60
  case neg =>
    have E : Hid (fwB n1 n2 n3 n4 = false) := Lib.hid (decide_eq_false (by omega))
    have q3 : ¬ (n3 : Int) ≤ 60 := by omega
    go_enter Try.func19, Try.ntmps19
    go_upto_region 1 with fail
    have hbm := below_new1 w (.cells #[.slice pa1 n1 c1, .slice pa2 n2 c2, .slice pa3 n3 c3, .slice pa4 n4 c4] 26)
    have zm : (w.alloc (.cells #[.slice pa1 n1 c1, .slice pa2 n2 c2, .slice pa3 n3 c3, .slice pa4 n4 c4] 26)).heap.size = w.heap.size + 1 := by simp
    have HB := Lib.hid hbm
    have km := Lib.hid (Lok.new w 26 #[.slice pa1 n1 c1, .slice pa2 n2 c2, .slice pa3 n3 c3, .slice pa4 n4 c4])
    clear hbm
    generalize w.alloc (.cells #[.slice pa1 n1 c1, .slice pa2 n2 c2, .slice pa3 n3 c3, .slice pa4 n4 c4] 26) = Vm at *
    clear zm
    have m0 := km.out.cell (i := 0) rfl
    have m1 := km.out.cell (i := 1) rfl
    have m2 := km.out.cell (i := 2) rfl
    have m3 := km.out.cell (i := 3) rfl
    go_wp2
    go_ret
    exact ⟨by rw [E.out]; rfl, HB.out⟩
  have q3 : (n3 : Int) ≤ 60 := by omega
  by_cases p4 : n4 ≤ 20
  · have E : Hid (fwB n1 n2 n3 n4 = true) := Lib.hid (decide_eq_true (by omega))
    have q4 : (n4 : Int) ≤ 20 := by omega
    go_enter Try.func19, Try.ntmps19
    go_upto_region 1 with fail
    have hbm := below_new1 w (.cells #[.slice pa1 n1 c1, .slice pa2 n2 c2, .slice pa3 n3 c3, .slice pa4 n4 c4] 26)
    have zm : (w.alloc (.cells #[.slice pa1 n1 c1, .slice pa2 n2 c2, .slice pa3 n3 c3, .slice pa4 n4 c4] 26)).heap.size = w.heap.size + 1 := by simp
    have HB := Lib.hid hbm
    have km := Lib.hid (Lok.new w 26 #[.slice pa1 n1 c1, .slice pa2 n2 c2, .slice pa3 n3 c3, .slice pa4 n4 c4])
    clear hbm
    generalize w.alloc (.cells #[.slice pa1 n1 c1, .slice pa2 n2 c2, .slice pa3 n3 c3, .slice pa4 n4 c4] 26) = Vm at *
    clear zm
    have m0 := km.out.cell (i := 0) rfl
    have m1 := km.out.cell (i := 1) rfl
    have m2 := km.out.cell (i := 2) rfl
    have m3 := km.out.cell (i := 3) rfl
    go_wp2
    go_ret
    have z : decide ((n4 : Int) ≤ 20) = true := decide_eq_true (by omega)
    exact ⟨by first | (rw [E.out]; rfl) | (show Ending.returned (Value.bool (decide ((n4 : Int) ≤ 20))) = _; rw [E.out, z]), HB.out⟩
  · have E : Hid (fwB n1 n2 n3 n4 = false) := Lib.hid (decide_eq_false (by omega))
    have q4 : ¬ (n4 : Int) ≤ 20 := by omega
    go_enter Try.func19, Try.ntmps19
    go_upto_region 1 with fail
    have hbm := below_new1 w (.cells #[.slice pa1 n1 c1, .slice pa2 n2 c2, .slice pa3 n3 c3, .slice pa4 n4 c4] 26)
    have zm : (w.alloc (.cells #[.slice pa1 n1 c1, .slice pa2 n2 c2, .slice pa3 n3 c3, .slice pa4 n4 c4] 26)).heap.size = w.heap.size + 1 := by simp
    have HB := Lib.hid hbm
    have km := Lib.hid (Lok.new w 26 #[.slice pa1 n1 c1, .slice pa2 n2 c2, .slice pa3 n3 c3, .slice pa4 n4 c4])
    clear hbm
    generalize w.alloc (.cells #[.slice pa1 n1 c1, .slice pa2 n2 c2, .slice pa3 n3 c3, .slice pa4 n4 c4] 26) = Vm at *
    clear zm
    have m0 := km.out.cell (i := 0) rfl
    have m1 := km.out.cell (i := 1) rfl
    have m2 := km.out.cell (i := 2) rfl
    have m3 := km.out.cell (i := 3) rfl
    go_wp2
    go_ret
    have z : decide ((n4 : Int) ≤ 20) = false := decide_eq_false (by omega)
    exact ⟨by first | (rw [E.out]; rfl) | (show Ending.returned (Value.bool (decide ((n4 : Int) ≤ 20))) = _; rw [E.out, z]), HB.out⟩
/-- Two rows of edges are the same. -/
def seB (L M : List (Int × Int × List Int)) : Bool := decide (L = M)
theorem seB_self (L : List (Int × Int × List Int)) : seB L L = true := decide_eq_true rfl
theorem se_no {L M : List (Int × Int × List Int)} {k : Nat} {e f : Int × Int × List Int} (h : L[k]? = some e) (g : M[k]? = some f) (q : ¬ e = f) : seB L M = false := decide_eq_false (fun s => by rw [s, g] at h; exact q (Option.some.inj h).symm)
end Go.Proofs.Ytcnbbanpnoigdaa
/-
  The reference limewashref15: Few of a mesh and no charts. (gen/ChW.py)
-/
namespace Go.Proofs.Ytcnbbanpnoigdaa
open Go.RowKit

def fw15 (n1 n2 n3 n4 : Nat) : Bool := fwB n1 n2 n3 n4 && decide (n4 ≤ 12)
theorem fw15_yes {n1 n2 n3 n4 : Nat} (h : fw15 n1 n2 n3 n4 = true) : (n1 ≤ 20 ∧ n2 ≤ 60 ∧ n3 ≤ 60 ∧ n4 ≤ 20) ∧ n4 ≤ 12 := by
  obtain ⟨a, b⟩ := Bool.and_eq_true_iff.1 h
  exact ⟨fw_yes a, of_decide_eq_true b⟩
set_option maxRecDepth 100000 in
set_option maxHeartbeats 4000000 in
theorem rfew15_any (pa1 pa2 pa3 pa4 : Option Addr) (n1 n2 n3 n4 c1 c2 c3 c4 : Nat) (w : World) :
    Calls Try.prog 7 #[.agg #[.slice pa1 n1 c1, .slice pa2 n2 c2, .slice pa3 n3 c3, .slice pa4 n4 c4], .slice none 0 0] w fun e' w' => e' = .returned (.bool (fw15 n1 n2 n3 n4)) ∧ Below w.heap.size w w' := by
  have HB := Lib.hid (Below.refl w.heap.size w)
  have FW := Lib.hid (fun W => rfew_any pa1 pa2 pa3 pa4 n1 n2 n3 n4 c1 c2 c3 c4 W)
  unfold fw15
  cases hf : fwB n1 n2 n3 n4 with
  | false =>
    rw [hf] at FW
    go_enter Try.func7, Try.ntmps7
    go_upto_region 1 with fail
    have hbm := below_new1 w (.cells #[.slice pa1 n1 c1, .slice pa2 n2 c2, .slice pa3 n3 c3, .slice pa4 n4 c4] 26)
    have zm : (w.alloc (.cells #[.slice pa1 n1 c1, .slice pa2 n2 c2, .slice pa3 n3 c3, .slice pa4 n4 c4] 26)).heap.size = w.heap.size + 1 := by simp
    have HB := Lib.hid hbm
    have km := Lib.hid (Lok.new w 26 #[.slice pa1 n1 c1, .slice pa2 n2 c2, .slice pa3 n3 c3, .slice pa4 n4 c4])
    clear hbm
    generalize w.alloc (.cells #[.slice pa1 n1 c1, .slice pa2 n2 c2, .slice pa3 n3 c3, .slice pa4 n4 c4] 26) = Vm at *
    clear zm
    go_wp2_with fail
    go_loopw [5] (fun x wr => x = .int .i64 0 ∧ Below w.heap.size w wr ∧ Lok wr w.heap.size 26 #[.slice pa1 n1 c1, .slice pa2 n2 c2, .slice pa3 n3 c3, .slice pa4 n4 c4]) (fun _ _ => 0)
    case atStart => exact ⟨rfl, HB.out, km.out⟩
    case round =>
      clear HB km
      obtain ⟨rfl, hB, hM⟩ := hrel
      have HB := Lib.hid hB
      have km := Lib.hid hM
      clear hB hM
      have m0 := km.out.cell (i := 0) rfl
      have m1 := km.out.cell (i := 1) rfl
      have m2 := km.out.cell (i := 2) rfl
      have m3 := km.out.cell (i := 3) rfl
      go_wp2_with fail
      clear m0 m1 m2 m3
      (((with_reducible refine (FW.out _).mono ?_); rintro e w1 ⟨rfl, hb1⟩); replace HB := Lib.hid (HB.out.trans (hb1.mono HB.out.size)); replace km := Lib.hid (km.out.keep hb1); clear hb1)
      have m3 := km.out.cell (i := 3) rfl
      go_wp2
      go_ret
      exact ⟨by first | rfl | (simp [h1]; done), HB.out⟩
  | true =>
    rw [hf] at FW
    by_cases h12 : n4 ≤ 12
    · have h1 : (n4 : Int) ≤ 12 := by omega
      rw [decide_eq_true h12]
      go_enter Try.func7, Try.ntmps7
      go_upto_region 1 with fail
      have hbm := below_new1 w (.cells #[.slice pa1 n1 c1, .slice pa2 n2 c2, .slice pa3 n3 c3, .slice pa4 n4 c4] 26)
      have zm : (w.alloc (.cells #[.slice pa1 n1 c1, .slice pa2 n2 c2, .slice pa3 n3 c3, .slice pa4 n4 c4] 26)).heap.size = w.heap.size + 1 := by simp
      have HB := Lib.hid hbm
      have km := Lib.hid (Lok.new w 26 #[.slice pa1 n1 c1, .slice pa2 n2 c2, .slice pa3 n3 c3, .slice pa4 n4 c4])
      clear hbm
      generalize w.alloc (.cells #[.slice pa1 n1 c1, .slice pa2 n2 c2, .slice pa3 n3 c3, .slice pa4 n4 c4] 26) = Vm at *
      clear zm
      go_wp2_with fail
      go_loopw [5] (fun x wr => x = .int .i64 0 ∧ Below w.heap.size w wr ∧ Lok wr w.heap.size 26 #[.slice pa1 n1 c1, .slice pa2 n2 c2, .slice pa3 n3 c3, .slice pa4 n4 c4]) (fun _ _ => 0)
      case atStart => exact ⟨rfl, HB.out, km.out⟩
      case round =>
        clear HB km
        obtain ⟨rfl, hB, hM⟩ := hrel
        have HB := Lib.hid hB
        have km := Lib.hid hM
        clear hB hM
        have m0 := km.out.cell (i := 0) rfl
        have m1 := km.out.cell (i := 1) rfl
        have m2 := km.out.cell (i := 2) rfl
        have m3 := km.out.cell (i := 3) rfl
        go_wp2_with fail
        clear m0 m1 m2 m3
        (((with_reducible refine (FW.out _).mono ?_); rintro e w1 ⟨rfl, hb1⟩); replace HB := Lib.hid (HB.out.trans (hb1.mono HB.out.size)); replace km := Lib.hid (km.out.keep hb1); clear hb1)
        have m3 := km.out.cell (i := 3) rfl
        go_wp2
        go_ret
        exact ⟨by first | rfl | (simp [h1]; done), HB.out⟩
    · have h1 : ¬ (n4 : Int) ≤ 12 := by omega
      rw [decide_eq_false h12]
      go_enter Try.func7, Try.ntmps7
      go_upto_region 1 with fail
      have hbm := below_new1 w (.cells #[.slice pa1 n1 c1, .slice pa2 n2 c2, .slice pa3 n3 c3, .slice pa4 n4 c4] 26)
      have zm : (w.alloc (.cells #[.slice pa1 n1 c1, .slice pa2 n2 c2, .slice pa3 n3 c3, .slice pa4 n4 c4] 26)).heap.size = w.heap.size + 1 := by simp
      have HB := Lib.hid hbm
      have km := Lib.hid (Lok.new w 26 #[.slice pa1 n1 c1, .slice pa2 n2 c2, .slice pa3 n3 c3, .slice pa4 n4 c4])
      clear hbm
      generalize w.alloc (.cells #[.slice pa1 n1 c1, .slice pa2 n2 c2, .slice pa3 n3 c3, .slice pa4 n4 c4] 26) = Vm at *
      clear zm
      go_wp2_with fail
      go_loopw [5] (fun x wr => x = .int .i64 0 ∧ Below w.heap.size w wr ∧ Lok wr w.heap.size 26 #[.slice pa1 n1 c1, .slice pa2 n2 c2, .slice pa3 n3 c3, .slice pa4 n4 c4]) (fun _ _ => 0)
      case atStart => exact ⟨rfl, HB.out, km.out⟩
      case round =>
        clear HB km
        obtain ⟨rfl, hB, hM⟩ := hrel
        have HB := Lib.hid hB
        have km := Lib.hid hM
        clear hB hM
        have m0 := km.out.cell (i := 0) rfl
        have m1 := km.out.cell (i := 1) rfl
        have m2 := km.out.cell (i := 2) rfl
        have m3 := km.out.cell (i := 3) rfl
        go_wp2_with fail
        clear m0 m1 m2 m3
        (((with_reducible refine (FW.out _).mono ?_); rintro e w1 ⟨rfl, hb1⟩); replace HB := Lib.hid (HB.out.trans (hb1.mono HB.out.size)); replace km := Lib.hid (km.out.keep hb1); clear hb1)
        have m3 := km.out.cell (i := 3) rfl
        go_wp2
        go_ret
        exact ⟨by first | rfl | (simp [h1]; done), HB.out⟩
end Go.Proofs.Ytcnbbanpnoigdaa
