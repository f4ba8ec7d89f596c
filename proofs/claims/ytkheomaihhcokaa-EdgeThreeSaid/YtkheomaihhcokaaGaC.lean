/-
  Texts in one: EgL, EgE, EgF, EgG.
-/
import Derived.Test.YtkheomaihhcokaaGaA
import Derived.Test.YtkheomaihhcokaaGaB
import Derived.Maps.AppendAt
/-
  Rows of ints by their lists: of the call's own, read; the reference's Same and Own (limewashref01).
-/
namespace Go.Proofs.Ytkheomaihhcokaa
open Go.RowKit

/-- A row of ints of the call's own, by its list. -/
def OwnI (w : World) (base : Nat) (v : Value) (L : List Int) : Prop := w.ownsRow base 3 1 v L.length (L.map (Value.int .i64))
theorem OwnI.keep {w w' : World} {base : Nat} {v : Value} {L : List Int} (h : OwnI w base v L) (hb : Below w.heap.size w w') : OwnI w' base v L := ownK_keep h hb
theorem OwnI.nil (w : World) (base : Nat) : OwnI w base (.slice none 0 0) [] := World.ownsRow_nil _ _ _ _
theorem OwnI.drew {w : World} {base : Nat} {v : Value} {L : List Int} (h : OwnI w base v L) : OwnI w.drew base v L := h
theorem ownR_mono {w : World} {base base' : Nat} {e : TypeId} {k : Nat} {v : Value} {n : Nat} {xs : List Value} (h : w.ownsRow base e k v n xs) (hb : base' ≤ base) : w.ownsRow base' e k v n xs := by
  obtain ⟨h1, h2 | ⟨g, cap, cur, hv, hg, hrest⟩⟩ := h
  · exact ⟨h1, .inl h2⟩
  · exact ⟨h1, .inr ⟨g, cap, cur, hv, Nat.le_trans hb hg, hrest⟩⟩
theorem ownI_mono {w : World} {base base' : Nat} {v : Value} {L : List Int} (h : OwnI w base v L) (hb : base' ≤ base) : OwnI w base' v L := ownR_mono h hb
/-- A row of the call's own in its block. -/
theorem OwnI.open {w : World} {base : Nat} {v : Value} {L : List Int} (h : OwnI w base v L) (hl : 0 < L.length) : ∃ g cap cur, v = .slice (some ⟨g, 0, none⟩) L.length cap ∧ base ≤ g ∧ L.length ≤ cap ∧ Lok w g 3 cur ∧ cur.toList.take L.length = L.map (Value.int .i64) ∧ L.length ≤ cur.size := by
  obtain ⟨h1, ⟨_, h0⟩ | ⟨g, cap, cur, hv, hg, hh, hn, hm, hs, ht⟩⟩ := h
  · omega
  · rw [Nat.mul_one] at ht
    exact ⟨g, cap, cur, hv, hg, hn, hh, ht, by omega⟩
theorem OwnI.cells {w : World} {base g n cap : Nat} {L : List Int} (h : OwnI w base (.slice (some ⟨g, 0, none⟩) n cap) L) {i : Nat} (hi : i < L.length) : w.cell? ⟨g, i, none⟩ = some (.int .i64 (L.getD i 0)) ∧ w.frozen? ⟨g, i, none⟩ = false := by
  obtain ⟨g', cap', cur, hv, hg, hn, hh, ht, hs⟩ := h.open (by omega)
  cases hv
  refine ⟨hh.cell ?_, hh.frozen i⟩
  have e : cur.toList[i]? = (L.map (Value.int .i64))[i]? := by rw [← ht, List.getElem?_take_of_lt hi]
  rw [← Array.getElem?_toList, e, List.getElem?_map, List.getD_eq_getElem?_getD, List.getElem?_eq_getElem hi]; rfl
theorem OwnI.set {w : World} {base g n cap : Nat} {L : List Int} (h : OwnI w base (.slice (some ⟨g, 0, none⟩) n cap) L) (i : Nat) (x : Int) : OwnI (w.setCell ⟨g, i, none⟩ (.int .i64 x)) base (.slice (some ⟨g, 0, none⟩) n cap) (L.set i x) := by
  obtain ⟨h1, ⟨hv, h0⟩ | ⟨g', cap', cur, hv, hg, hh, hn, hm, hs, ht⟩⟩ := h
  · cases hv
  · cases hv
    refine ⟨by simp, .inr ⟨g, cap, cur.setIfInBounds i (.int .i64 x), by simp, hg, Lok.set (W := w) (t := 3) hh, by simpa using hn, hm, by simpa using hs, ?_⟩⟩
    rw [List.length_set, Array.toList_setIfInBounds, List.take_set, ht, List.map_set]
theorem OwnI.blk {w : World} {base g n cap : Nat} {L : List Int} (h : OwnI w base (.slice (some ⟨g, 0, none⟩) n cap) L) : base ≤ g ∧ g < w.heap.size := World.ownsRow.lt h g rfl
theorem infoI : (Try.prog.info? 3).map (fun i => (i.zero, i.size, i.bytes)) = some (some (.int .i64 0), 1, 8) := by kernel_rfl
/-- A row of ints, read by its list. -/
def RowI (W : World) (a : Option Addr) (n : Nat) (L : List Int) : Prop := L.length = n ∧ RowK W a n 1 (fun i _ => L.getD i 0)
theorem RowI.keep {W W' : World} {a : Option Addr} {n : Nat} {L : List Int} (h : RowI W a n L) (hb : Below W.heap.size W W') : RowI W' a n L := ⟨h.1, h.2.keep hb⟩
theorem RowI.at {W : World} {a : Option Addr} {n : Nat} {L : List Int} (h : RowI W a n L) {i : Nat} (hi : i < n) : ∃ b off, a = some ⟨b, off, none⟩ ∧ b < W.heap.size ∧ ∀ i, i < n → W.cell? ⟨b, off + i, none⟩ = some (.int .i64 (L.getD i 0)) := by
  obtain ⟨b, off, ha, hb, hc⟩ := h.2.at hi
  refine ⟨b, off, ha, hb, fun i hi => ?_⟩
  have z := hc i hi 0 (by omega)
  rwa [Nat.mul_one, Nat.add_zero] at z
theorem map_vals (L : List Int) : L.map (Value.int .i64) = valsK L.length 1 (fun i _ => L.getD i 0) := by
  apply List.ext_getElem
  · simp [valsK]
  · intro i h1 h2
    have hi : i < L.length := by simpa using h1
    simp [valsK, List.getElem?_eq_getElem hi, Nat.div_one]
theorem rowI_of_own {w : World} {base : Nat} {v : Value} {L : List Int} (h : OwnI w base v L) : ∃ a c, v = .slice a L.length c ∧ (a = none → L.length = 0 ∧ c = 0) ∧ L.length ≤ c ∧ c ≤ 9223372036854775807 ∧ RowI w a L.length L := by
  unfold OwnI at h
  rw [map_vals] at h
  obtain ⟨a, c, e, h1, h2, h3, h4⟩ := rowK_of_own h
  exact ⟨a, c, e, h1, h2, h3, rfl, h4⟩
theorem list_of_getD {L M : List Int} (hl : L.length = M.length) (h : ∀ i, i < L.length → L.getD i 0 = M.getD i 0) : L = M := by
  apply List.ext_getElem hl
  intro i h1 h2
  have z := h i h1
  rw [List.getD_eq_getElem?_getD, List.getD_eq_getElem?_getD, List.getElem?_eq_getElem h1, List.getElem?_eq_getElem h2] at z
  exact z
/-- Two lists are the same. -/
def smB (L M : List Int) : Bool := decide (L = M)
theorem smB_yes {L M : List Int} (h : L = M) : smB L M = true := decide_eq_true h
theorem smB_no {L M : List Int} (h : ¬ L = M) : smB L M = false := decide_eq_false h
theorem smB_self (L : List Int) : smB L L = true := smB_yes rfl
set_option maxRecDepth 100000 in
set_option maxHeartbeats 4000000 in
theorem rsame_list (a b : Option Addr) (n m c d : Nat) (L M : List Int) (w : World) (hl : RowI w a n L) (hm : RowI w b m M) (hn : n ≤ 9223372036854775807) (hk : m ≤ 9223372036854775807) :
    Calls Try.prog 21 #[.slice a n c, .slice b m d] w fun e w' => e = .returned (.bool (smB L M)) ∧ Below w.heap.size w w' := by
  have HB := Lib.hid (Below.refl w.heap.size w)
  by_cases hnm : n = m
  · subst hnm
    have RL := Lib.hid hl
    have RM := Lib.hid hm
    have hlen : L.length = M.length := hl.1.trans hm.1.symm
    have hln := hl.1
    clear hl hm
    go_enter Try.func21, Try.ntmps21
    go_wp2_with fail
    go_loopw [5] (fun x wr => ∃ k : Nat, x = .int .i64 k ∧ k ≤ n ∧ (∀ j, j < k → L.getD j 0 = M.getD j 0) ∧ Below w.heap.size w wr) (fun x _ => n - (intOf x).toNat)
    case atStart => exact ⟨0, rfl, Nat.zero_le _, fun j h => absurd h (by omega), HB.out⟩
    case round =>
      obtain ⟨k, rfl, hk', hR, hB⟩ := hrel
      replace HB := Lib.hid hB
      have HR := Lib.hid hR
      clear hB hR
      by_cases hlt : k < n
      · obtain ⟨p, o, rfl, hb, hc⟩ := (RL.out.keep HB.out).at hlt
        obtain ⟨q, r, rfl, hb2, hc2⟩ := (RM.out.keep HB.out).at hlt
        have c0 := hc k hlt
        have c1 := hc2 k hlt
        have YES : Hid (L.getD k 0 = M.getD k 0 → ∀ j, j < k + 1 → L.getD j 0 = M.getD j 0) := Lib.hid (fun e j hj => by
          by_cases s : j = k
          · rw [s]; exact e
          · exact HR.out j (by omega))
        have NO : Hid (¬ L.getD k 0 = M.getD k 0 → smB L M = false) := Lib.hid (fun e => smB_no (fun h => e (by rw [h])))
        clear hc hc2
        generalize L.getD k 0 = x at *
        generalize M.getD k 0 = y at *
        have i0 : (0 : Int) ≤ (k : Int) := by omega
        have i1 : (k : Int) < (n : Int) := by omega
        have i2 : ((k : Int)).toNat = k := by omega
        go_upto_region 6 with fail
        by_cases hxy : x = y
        · have E := Lib.hid (YES.out hxy)
          clear YES NO
          subst hxy
          go_quiet (fail)
          go_wp2
          go_roundw
          case rel => exact ⟨k + 1, by go_num, hlt, E.out, below_drewN HB.out _⟩
          case measure => simp [intOf]; omega
        · have E := Lib.hid (NO.out hxy)
          have h2 : (x == y) = false := by rw [beq_eq_false_iff_ne]; exact hxy
          have h3 : (x != y) = true := by rw [bne, h2]; rfl
          clear YES NO
          go_quiet (fail)
          go_wp2
          go_ret
          exact ⟨by rw [E.out]; rfl, below_drewN HB.out _⟩
      · obtain rfl : k = n := by omega
        have E := Lib.hid (smB_yes (list_of_getD hlen (fun i hi => HR.out i (by omega))))
        go_wp2
        go_ret
        exact ⟨by rw [E.out]; rfl, HB.out⟩
  · have E := Lib.hid (smB_no (L := L) (M := M) (fun h => hnm (by rw [← hl.1, ← hm.1, h])))
    have h1 : ¬ (n : Int) = (m : Int) := by omega
    have h2 : ((n : Int) == (m : Int)) = false := by rw [beq_eq_false_iff_ne]; exact h1
    clear hl hm
    go_enter Try.func21, Try.ntmps21
    go_wp2
    go_ret
    exact ⟨by rw [E.out]; rfl, HB.out⟩
set_option maxRecDepth 100000 in
set_option maxHeartbeats 4000000 in
theorem rown_list (a : Option Addr) (n c : Nat) (L : List Int) (w : World) (hl : RowI w a n L) (ha : a = none → n = 0 ∧ c = 0) (hn : n ≤ 1000000) :
    Calls Try.prog 46 #[.slice a n c] w fun e w' => (∃ v, e = .returned v ∧ OwnI w' w.heap.size v L) ∧ Below w.heap.size w w' := by
  obtain ⟨i0, hi, hz0, hz1, hz2⟩ := info_parts infoI
  have HL := Lib.hid hl
  have hln := hl.1
  clear hl
  go_enter Try.func46, Try.ntmps46
  go_wp2_with (at_builtin; refine wpList_append_catk rfl _ _ 34 rfl w.heap.size 3 i0 (.int .i64 0) 1 8 Try.underlying34 hi hz0 hz1 hz2 rfl (by decide) (.slice none 0 0) 0 (fun _ _ => 0) rfl (World.ownsRow_nil _ _ _ _) a n c (fun i _ => L.getD i 0) rfl ha HL.out.2 (by unfold maxLen; omega) (by omega) (Nat.le_refl _) ?_)
  intro v1 w1 own1 hb1
  have O : Hid (OwnI w1 w.heap.size v1 L) := Lib.hid (by
    unfold OwnI
    rw [map_vals, hln]
    rw [valsK_congr (G := fun i _ => L.getD i 0) (fun i hi j _ => by rw [catK_hi _ _ _ (Nat.zero_le _), Nat.sub_zero, List.getD_eq_getElem?_getD])] at own1
    exact own1)
  have HB := Lib.hid hb1
  clear own1 hb1
  go_wp2
  go_ret
  exact ⟨⟨_, rfl, O.out⟩, HB.out⟩
end Go.Proofs.Ytkheomaihhcokaa
/-
  Rows of edges (structs of two ints and a row of ints): of the call's own, read; one edge appended.
-/
namespace Go.Proofs.Ytkheomaihhcokaa
open Go.RowKit

/-- An edge: its two places, the triangles that have it, and the value that leads to these. -/
abbrev EdZ := Int × Int × List Int × Value
def edC (z : EdZ) : Int × Int × List Int := (z.1, z.2.1, z.2.2.1)
def cellsE (Z : List EdZ) : List Value := Z.flatMap fun z => [.int .i64 z.1, .int .i64 z.2.1, z.2.2.2]
theorem cellsE_length : ∀ Z : List EdZ, (cellsE Z).length = Z.length * 3
  | [] => rfl
  | z :: Z => by
    show ([_, _, _] ++ cellsE Z).length = (Z.length + 1) * 3
    rw [List.length_append, cellsE_length Z, Nat.add_mul]
    show 3 + _ = _
    omega
theorem cellsE_append (Z Y : List EdZ) : cellsE (Z ++ Y) = cellsE Z ++ cellsE Y := by unfold cellsE; rw [List.flatMap_append]
theorem cellsE_at : ∀ (Z : List EdZ) (i : Nat) (h : i < Z.length), (cellsE Z)[i * 3]? = some (.int .i64 Z[i].1) ∧ (cellsE Z)[i * 3 + 1]? = some (.int .i64 Z[i].2.1) ∧ (cellsE Z)[i * 3 + 2]? = some Z[i].2.2.2
  | [], i, h => absurd h (by simp)
  | z :: Z, 0, h => ⟨rfl, rfl, rfl⟩
  | z :: Z, i + 1, h => by
    have q := cellsE_at Z i (by simpa using h)
    have e : ∀ j, (cellsE (z :: Z))[3 + j]? = (cellsE Z)[j]? := fun j => by
      show ([_, _, _] ++ cellsE Z)[3 + j]? = _
      rw [List.getElem?_append_right (by show 3 ≤ _; omega)]
      show (cellsE Z)[3 + j - 3]? = _
      rw [Nat.add_sub_cancel_left]
    rw [show (i + 1) * 3 = 3 + i * 3 from by omega, Nat.add_assoc, Nat.add_assoc, e, e, e]
    exact q
/-- A row of edges of the call's own: each edge's own row lies in a block of its own. -/
def OwnE (w : World) (base : Nat) (v : Value) (Z : List EdZ) : Prop :=
  w.ownsRow base 39 3 v Z.length (cellsE Z) ∧ ∀ z ∈ Z, OwnI w base z.2.2.2 z.2.2.1 ∧ ∀ g, z.2.2.2.ownBlock = some g → v.ownBlock ≠ some g
theorem OwnE.keep {w w' : World} {base : Nat} {v : Value} {Z : List EdZ} (h : OwnE w base v Z) (hb : Below w.heap.size w w') : OwnE w' base v Z := ⟨ownK_keep h.1 hb, fun z hz => ⟨(h.2 z hz).1.keep hb, (h.2 z hz).2⟩⟩
theorem OwnE.nil (w : World) (base : Nat) : OwnE w base (.slice none 0 0) [] := ⟨World.ownsRow_nil _ _ _ _, fun z hz => by cases hz⟩
theorem OwnE.mono {w : World} {base base' : Nat} {v : Value} {Z : List EdZ} (h : OwnE w base v Z) (hb : base' ≤ base) : OwnE w base' v Z := ⟨ownR_mono h.1 hb, fun z hz => ⟨ownI_mono (h.2 z hz).1 hb, (h.2 z hz).2⟩⟩
theorem ownI_block {w w' : World} {base : Nat} {v : Value} {L : List Int} (h : OwnI w base v L) (k : ∀ g, v.ownBlock = some g → w'.heap[g]? = w.heap[g]?) : OwnI w' base v L := by
  obtain ⟨h1, h2 | ⟨g, cap, cur, hv, hg, hh, hrest⟩⟩ := h
  · exact ⟨h1, .inl h2⟩
  · exact ⟨h1, .inr ⟨g, cap, cur, hv, hg, by rw [k g (by rw [hv]; rfl)]; exact hh, hrest⟩⟩
theorem ownI_one {w : World} {base : Nat} {v : Value} {L : List Int} (h : OwnI w base v L) : v.oneCell' = true := by
  obtain ⟨_, ⟨rfl, _⟩ | ⟨g, cap, cur, rfl, _⟩⟩ := h <;> rfl
theorem infoE : (Try.prog.info? 39).map (fun i => (i.zero, i.size, i.bytes)) = some (some (.agg #[.int .i64 0, .int .i64 0, .slice none 0 0]), 3, 40) := by kernel_rfl
theorem app_edge {W : World} {ops : Array Oper} {rest : List Oper} {o : Oper} {a : Act} {Q : Exit → Act → World → Prop} (hgd : o.guard = none) (s x : Operand)
    (ho : o.op = .call { callee := .builtin .append, args := #[s, x], argTypes := #[27, 27] })
    (base : Nat) (v : Value) (Z : List EdZ) (hs : a.eval s = v) (hO : OwnE W base v Z) (A B : Int) (l : List Int) (t : Value) (hx : a.eval x = .slice (some ⟨W.heap.size, 0, none⟩) 1 1)
    (ht : OwnI W base t l) (hd : ∀ g, t.ownBlock = some g → v.ownBlock ≠ some g) (hk : Z.length ≤ 1000000) (hbase : base ≤ W.heap.size)
    (h : ∀ v' w', OwnE w' base v' (Z ++ [(A, B, l, t)]) → Below base W w' → wpList Try.prog ops Q rest (a.put o.dst v') w') : wpList Try.prog ops Q (o :: rest) a (W.alloc (.cells #[.int .i64 A, .int .i64 B, t] 39)) := by
  obtain ⟨i0, hi, hz0, hz1, hz2⟩ := info_parts infoE
  have o1 := ownI_one ht
  refine wpList_append_own_at _ hgd s x 27 ho base 39 i0 _ 3 40 Try.underlying27 hi hz0 hz1 hz2 rfl (by decide) v Z.length (cellsE Z) hs (hO.1.alloc _) ⟨W.heap.size, 0, none⟩ 1 1 [.int .i64 A, .int .i64 B, t] hx rfl ?_ ?_ ?_ ?_ ?_ ?_
  · intro j u hj
    rw [Go.WideShapes.add_plain, Nat.zero_add]
    exact alloc_cell rfl (by rw [List.getElem?_toArray] at *; exact hj)
  · intro u hu
    simp at hu
    rcases hu with rfl | rfl | rfl
    · rfl
    · rfl
    · exact o1
  · unfold maxLen; omega
  · omega
  · simp; omega
  · intro v' w1 hown' hgrow _ hat
    have hsz : (W.alloc (.cells #[.int .i64 A, .int .i64 B, t] 39)).heap.size = W.heap.size + 1 := by simp
    have hb0 : Below base W (W.alloc (.cells #[.int .i64 A, .int .i64 B, t] 39)) := (Below.refl base W).alloc hbase _
    have old : ∀ g, g < W.heap.size → v.ownBlock ≠ some g → w1.heap[g]? = W.heap[g]? := fun g hg hn =>
      (hgrow.block g (by omega) (fun e => hn e.symm)).trans ((Below.refl W.heap.size W).alloc (Nat.le_refl _) _ |>.block g hg)
    have hnew : ∀ g, g < W.heap.size → v.ownBlock ≠ some g → v'.ownBlock ≠ some g := fun g hg hn e => by
      rcases hat with q | q
      · exact hn (q.symm.trans e)
      · rw [q, hsz] at e
        have := Option.some.inj e
        omega
    refine h v' w1 ⟨?_, ?_⟩ (hb0.grown hgrow (by omega) (fun g hg => (hO.1.lt g hg).1))
    · rw [List.length_append, cellsE_append]
      exact hown'
    · intro z hz
      rcases List.mem_append.1 hz with hz | hz
      · obtain ⟨p, q⟩ := hO.2 z hz
        refine ⟨ownI_block p (fun g hg => old g (World.ownsRow.lt p g hg).2 (q g hg)), fun g hg => hnew g (World.ownsRow.lt p g hg).2 (q g hg)⟩
      · rw [List.mem_singleton] at hz
        subst hz
        exact ⟨ownI_block ht (fun g hg => old g (World.ownsRow.lt ht g hg).2 (hd g hg)), fun g hg => hnew g (World.ownsRow.lt ht g hg).2 (hd g hg)⟩
/-- A row of edges, read by its list. -/
def RowE (W : World) (a : Option Addr) (n : Nat) (L : List (Int × Int × List Int)) : Prop :=
  L.length = n ∧ (n = 0 ∨ ∃ b off, a = some ⟨b, off, none⟩ ∧ b < W.heap.size ∧ ∀ i (hi : i < L.length), W.cell? ⟨b, off + i * 3, none⟩ = some (.int .i64 L[i].1) ∧ W.cell? ⟨b, off + (i * 3 + 1), none⟩ = some (.int .i64 L[i].2.1) ∧
    ∃ t m c, W.cell? ⟨b, off + (i * 3 + 2), none⟩ = some (.slice t m c) ∧ RowI W t m L[i].2.2 ∧ (t = none → m = 0 ∧ c = 0) ∧ m ≤ c ∧ c ≤ 9223372036854775807)
theorem RowE.keep {W W' : World} {a : Option Addr} {n : Nat} {L : List (Int × Int × List Int)} (h : RowE W a n L) (hb : Below W.heap.size W W') : RowE W' a n L := by
  obtain ⟨h1, h2 | ⟨b, off, ha, hl, hc⟩⟩ := h
  · exact ⟨h1, .inl h2⟩
  · refine ⟨h1, .inr ⟨b, off, ha, Nat.lt_of_lt_of_le hl hb.size, fun i hi => ?_⟩⟩
    obtain ⟨p, q, t, m, c, r, s, u⟩ := hc i hi
    exact ⟨keepc hb p, keepc hb q, t, m, c, keepc hb r, s.keep hb, u⟩
theorem RowE.at {W : World} {a : Option Addr} {n : Nat} {L : List (Int × Int × List Int)} (h : RowE W a n L) {i : Nat} (hi : i < n) : ∃ b off t m c, ∃ x y : Int, ∃ l : List Int, a = some ⟨b, off, none⟩ ∧ b < W.heap.size ∧ L[i]? = some (x, y, l) ∧ W.cell? ⟨b, off + i * 3, none⟩ = some (.int .i64 x) ∧ W.cell? ⟨b, off + (i * 3 + 1), none⟩ = some (.int .i64 y) ∧
    W.cell? ⟨b, off + (i * 3 + 2), none⟩ = some (.slice t m c) ∧ RowI W t m l ∧ (t = none → m = 0 ∧ c = 0) ∧ m ≤ c ∧ c ≤ 9223372036854775807 := by
  obtain ⟨h1, h2 | ⟨b, off, ha, hl, hc⟩⟩ := h
  · omega
  · have hi' : i < L.length := by omega
    obtain ⟨p, q, t, m, c, r, s, u⟩ := hc i hi'
    exact ⟨b, off, t, m, c, L[i].1, L[i].2.1, L[i].2.2, ha, hl, by rw [List.getElem?_eq_getElem hi'], p, q, r, s, u⟩
theorem rowE_of_own {w : World} {base : Nat} {v : Value} {Z : List EdZ} (h : OwnE w base v Z) : ∃ a c, v = .slice a Z.length c ∧ (a = none → Z.length = 0 ∧ c = 0) ∧ Z.length ≤ c ∧ c ≤ 9223372036854775807 ∧ RowE w a Z.length (Z.map edC) := by
  obtain ⟨hr, hz⟩ := h
  have hl := hr.lt
  have hc := fun (g : Nat) (hg : v.ownBlock = some g) => hr.cells hg
  obtain ⟨h1, ⟨rfl, h0⟩ | ⟨g, cap, cur, rfl, hb, hh, hk, hm, _, _⟩⟩ := hr
  · exact ⟨none, 0, by rw [h0], (fun _ => ⟨h0, rfl⟩), by omega, by omega, by simp, .inl h0⟩
  · refine ⟨_, cap, rfl, (fun h => by cases h), hk, by unfold maxLen at hm; omega, by simp, .inr ⟨g, 0, rfl, (hl g rfl).2, fun i hi => ?_⟩⟩
    have hi' : i < Z.length := by simpa using hi
    obtain ⟨p, q, r⟩ := cellsE_at Z i hi'
    have cc := hc g rfl
    have p' := cc (i * 3) _ p
    have q' := cc (i * 3 + 1) _ q
    have r' := cc (i * 3 + 2) _ r
    simp only [Go.WideShapes.add_plain] at p' q' r'
    have zi := hz Z[i] (List.getElem_mem hi')
    obtain ⟨t, c, e, f1, f2, f3, f4⟩ := rowI_of_own zi.1
    rw [e] at r'
    refine ⟨by simpa [edC] using p', by simpa [edC] using q', t, _, c, r', by simpa [edC] using f4, f1, f2, f3⟩
end Go.Proofs.Ytkheomaihhcokaa
/-
  The reference limewashref14: Own of an edge. (gen/EgF.py)
-/
namespace Go.Proofs.Ytkheomaihhcokaa
open Go.RowKit

theorem ownI_set {w : World} {base : Nat} {v : Value} {L : List Int} (h : OwnI w base v L) {g i : Nat} {x : Value} (hg : g < base) : OwnI (w.setCell ⟨g, i, none⟩ x) base v L := ownsRow_setCell_below h (a := ⟨g, i, none⟩) hg x
/-- An edge's value, and an edge in a block, whose row is the call's own. -/
def EdU (W : World) (B : Nat) (x y : Int) (l : List Int) (u : Value) : Prop := ∃ v, u = .agg #[.int .i64 x, .int .i64 y, v] ∧ OwnI W B v l
theorem EdU.keep {W W' : World} {B : Nat} {x y : Int} {l : List Int} {u : Value} (h : EdU W B x y l u) (hb : Below W.heap.size W W') : EdU W' B x y l u := by
  obtain ⟨v, e, o⟩ := h; exact ⟨v, e, o.keep hb⟩
def EdK (W : World) (g B : Nat) (x y : Int) (l : List Int) : Prop := ∃ v, Lok W g 39 #[.int .i64 x, .int .i64 y, v] ∧ OwnI W B v l
theorem EdK.keep {W W' : World} {g B : Nat} {x y : Int} {l : List Int} (h : EdK W g B x y l) (hb : Below W.heap.size W W') : EdK W' g B x y l := by
  obtain ⟨v, e, o⟩ := h; exact ⟨v, e.keep hb, o.keep hb⟩
set_option maxRecDepth 100000 in
set_option maxHeartbeats 8000000 in
theorem rownE_any (x y : Int) (t : Option Addr) (m c : Nat) (l : List Int) (w : World) (hl : RowI w t m l) (ht : t = none → m = 0 ∧ c = 0) (hm : m ≤ 1000000) :
    Calls Try.prog 29 #[.agg #[.int .i64 x, .int .i64 y, .slice t m c]] w fun e w' => (∃ v, e = .returned (.agg #[.int .i64 x, .int .i64 y, v]) ∧ OwnI w' w.heap.size v l) ∧ Below w.heap.size w w' := by
  have HB := Lib.hid (Below.refl w.heap.size w)
  have R := Lib.hid hl
  clear hl
  have hxy : w.heap.size < w.heap.size + 1 := Nat.lt_succ_self _
  go_enter Try.func29, Try.ntmps29
  go_upto_region 1 with fail
  have hbe := below_new1 w (.cells #[.int .i64 x, .int .i64 y, .slice t m c] 39)
  have ze : (w.alloc (.cells #[.int .i64 x, .int .i64 y, .slice t m c] 39)).heap.size = w.heap.size + 1 := by simp
  have HB := Lib.hid hbe
  have ke := Lib.hid (Lok.new w 39 #[.int .i64 x, .int .i64 y, .slice t m c])
  clear hbe
  generalize w.alloc (.cells #[.int .i64 x, .int .i64 y, .slice t m c] 39) = Ve at *
  have hbf := below_new1 Ve (.cells #[.int .i64 0, .int .i64 0, .slice none 0 0] 39)
  replace ke := Lib.hid (ke.out.keep hbf)
  have zf : (Ve.alloc (.cells #[.int .i64 0, .int .i64 0, .slice none 0 0] 39)).heap.size = Ve.heap.size + 1 := by simp
  replace HB := Lib.hid (HB.out.trans (hbf.mono HB.out.size))
  have kf := Lib.hid (Lok.new Ve 39 #[.int .i64 0, .int .i64 0, .slice none 0 0])
  clear hbf
  generalize Ve.alloc (.cells #[.int .i64 0, .int .i64 0, .slice none 0 0] 39) = Vf at *
  rw [ze] at kf zf
  clear ze
  have o8 := kf.out
  have hbound : w.heap.size + 1 ≤ Vf.heap.size := by rw [zf]; omega
  have hvf : w.heap.size + 2 ≤ Vf.heap.size := by rw [zf]; omega
  clear zf
  refine wp_region_rel (by kernel_rfl) [3, 4, 5, 6, 7, 8, 9, 10] ?Fr1 ?hFr1
    (fun L u W => Below (w.heap.size + 1) Vf W ∧ (L 0 = true → u 3 = .pointer (some ⟨w.heap.size, 0, none⟩)) ∧ (L 1 = true → u 4 = .int .i64 x) ∧ (L 2 = true → u 5 = .pointer (some ⟨w.heap.size, 1, none⟩)) ∧ (L 3 = true → u 6 = .int .i64 y) ∧ (L 4 = true → u 7 = .pointer (some ⟨w.heap.size, 2, none⟩)) ∧ (L 5 = true → u 8 = .slice t m c) ∧ (L 6 = true → L 7 = false → OwnI W (w.heap.size + 2) (u 9) l) ∧ (L 7 = true → L 8 = false → EdU W (w.heap.size + 2) x y l (u 10)) ∧ (L 8 = true → EdK W (w.heap.size + 1) (w.heap.size + 2) x y l) ∧ (L 8 = false → Lok W (w.heap.size + 1) 39 #[.int .i64 0, .int .i64 0, .slice none 0 0])) (by kernel_rfl) (by kernel_rfl) 9 rfl ?h0r1 ?stepr1 ?finr1
  case hFr1 => intro u; simp only [putAll, Act.put, List.setIfInBounds_toArray, List.set]; exact rfl
  case h0r1 => intro L u hL; exact ⟨(Below.refl _ _).drew, (fun h => by simp [hL] at h), (fun h => by simp [hL] at h), (fun h => by simp [hL] at h), (fun h => by simp [hL] at h), (fun h => by simp [hL] at h), (fun h => by simp [hL] at h), (fun h => by simp [hL] at h), (fun h => by simp [hL] at h), (fun h => by simp [hL] at h), (fun _ => by assumption)⟩
  case stepr1 =>
    refine ops_all (ops_cons ?s0r1 (ops_cons ?s1r1 (ops_cons ?s2r1 (ops_cons ?s3r1 (ops_cons ?s4r1 (ops_cons ?s5r1 (ops_cons ?s6r1 (ops_cons ?s7r1 (ops_cons ?s8r1 (ops_nil))))))))))
    case s0r1 =>
      rintro L u W ⟨hB, c0, c1, c2, c3, c4, c5, c6, c7, c8, pre0⟩ hf hd K hK
      dsimp only at hK
      clear hd
      go_simp
      refine hK _ _ ?_ (fun h => by cases h)
      intro s hs
      cases hs
      exact ⟨hB, (fun _ => rfl), c1, c2, c3, c4, c5, c6, c7, c8, pre0⟩
    case s1r1 =>
      rintro L u W ⟨hB, c0, c1, c2, c3, c4, c5, c6, c7, c8, pre0⟩ hf hd K hK
      dsimp only at hK
      have hd0 : L 0 = true := (by first | (refine hd ⟨0, .data⟩ ?_ rfl; simp; done) | (refine hd ⟨0, .guard⟩ ?_ rfl; simp; done) | (refine hd ⟨0, .phase⟩ ?_ rfl; simp; done) | (refine hd ⟨0, .chain⟩ ?_ rfl; simp; done))
      have e0 := c0 hd0
      rw [e0] at hK
      have t0 := (ke.out.keepB hB hxy).cell (i := 0) rfl
      clear hd0
      clear hd
      go_simp
      refine hK _ _ ?_ (fun h => by cases h)
      intro s hs
      cases hs
      exact ⟨hB, c0, (fun _ => rfl), c2, c3, c4, c5, c6, c7, c8, pre0⟩
    case s2r1 =>
      rintro L u W ⟨hB, c0, c1, c2, c3, c4, c5, c6, c7, c8, pre0⟩ hf hd K hK
      dsimp only at hK
      clear hd
      go_simp
      refine hK _ _ ?_ (fun h => by cases h)
      intro s hs
      cases hs
      exact ⟨hB, c0, c1, (fun _ => rfl), c3, c4, c5, c6, c7, c8, pre0⟩
    case s3r1 =>
      rintro L u W ⟨hB, c0, c1, c2, c3, c4, c5, c6, c7, c8, pre0⟩ hf hd K hK
      dsimp only at hK
      have hd2 : L 2 = true := (by first | (refine hd ⟨2, .data⟩ ?_ rfl; simp; done) | (refine hd ⟨2, .guard⟩ ?_ rfl; simp; done) | (refine hd ⟨2, .phase⟩ ?_ rfl; simp; done) | (refine hd ⟨2, .chain⟩ ?_ rfl; simp; done))
      have e2 := c2 hd2
      rw [e2] at hK
      have t0 := (ke.out.keepB hB hxy).cell (i := 1) rfl
      clear hd2
      clear hd
      go_simp
      refine hK _ _ ?_ (fun h => by cases h)
      intro s hs
      cases hs
      exact ⟨hB, c0, c1, c2, (fun _ => rfl), c4, c5, c6, c7, c8, pre0⟩
    case s4r1 =>
      rintro L u W ⟨hB, c0, c1, c2, c3, c4, c5, c6, c7, c8, pre0⟩ hf hd K hK
      dsimp only at hK
      clear hd
      go_simp
      refine hK _ _ ?_ (fun h => by cases h)
      intro s hs
      cases hs
      exact ⟨hB, c0, c1, c2, c3, (fun _ => rfl), c5, c6, c7, c8, pre0⟩
    case s5r1 =>
      rintro L u W ⟨hB, c0, c1, c2, c3, c4, c5, c6, c7, c8, pre0⟩ hf hd K hK
      dsimp only at hK
      have hd4 : L 4 = true := (by first | (refine hd ⟨4, .data⟩ ?_ rfl; simp; done) | (refine hd ⟨4, .guard⟩ ?_ rfl; simp; done) | (refine hd ⟨4, .phase⟩ ?_ rfl; simp; done) | (refine hd ⟨4, .chain⟩ ?_ rfl; simp; done))
      have e4 := c4 hd4
      rw [e4] at hK
      have t0 := (ke.out.keepB hB hxy).cell (i := 2) rfl
      clear hd4
      clear hd
      go_simp
      refine hK _ _ ?_ (fun h => by cases h)
      intro s hs
      cases hs
      exact ⟨hB, c0, c1, c2, c3, c4, (fun _ => rfl), c6, c7, c8, pre0⟩
    case s6r1 =>
      rintro L u W ⟨hB, c0, c1, c2, c3, c4, c5, c6, c7, c8, pre0⟩ hf hd K hK
      dsimp only at hK
      have hd5 : L 5 = true := (by first | (refine hd ⟨5, .data⟩ ?_ rfl; simp; done) | (refine hd ⟨5, .guard⟩ ?_ rfl; simp; done) | (refine hd ⟨5, .phase⟩ ?_ rfl; simp; done) | (refine hd ⟨5, .chain⟩ ?_ rfl; simp; done))
      have e5 := c5 hd5
      rw [e5] at hK
      clear hd5
      clear hd
      go_simp
      go_wp2_with (go_at_call 46; ((with_reducible refine (rown_list t m c l _ (R.out.keep (HB.out.trans (hB.mono (by omega)))) ht hm).mono ?_); rintro e w5 ⟨⟨v9, rfl, q0⟩, hb⟩))
      have q : OwnI w5 (w.heap.size + 2) v9 l := ownI_mono q0 (Nat.le_trans hvf hB.size)
      refine hK _ _ ?_ (fun h => by cases h)
      intro s hs
      cases hs
      exact ⟨hB.trans (hb.mono (Nat.le_trans hbound hB.size)), c0, c1, c2, c3, c4, c5, (fun _ _ => q), (fun h k => (c7 h k).keep hb), (fun h => (c8 h).keep hb), (fun h => (pre0 h).keep hb)⟩
    case s7r1 =>
      rintro L u W ⟨hB, c0, c1, c2, c3, c4, c5, c6, c7, c8, pre0⟩ hf hd K hK
      dsimp only at hK
      have hd1 : L 1 = true := (by first | (refine hd ⟨1, .data⟩ ?_ rfl; simp; done) | (refine hd ⟨1, .guard⟩ ?_ rfl; simp; done) | (refine hd ⟨1, .phase⟩ ?_ rfl; simp; done) | (refine hd ⟨1, .chain⟩ ?_ rfl; simp; done))
      have hd3 : L 3 = true := (by first | (refine hd ⟨3, .data⟩ ?_ rfl; simp; done) | (refine hd ⟨3, .guard⟩ ?_ rfl; simp; done) | (refine hd ⟨3, .phase⟩ ?_ rfl; simp; done) | (refine hd ⟨3, .chain⟩ ?_ rfl; simp; done))
      have hd6 : L 6 = true := (by first | (refine hd ⟨6, .data⟩ ?_ rfl; simp; done) | (refine hd ⟨6, .guard⟩ ?_ rfl; simp; done) | (refine hd ⟨6, .phase⟩ ?_ rfl; simp; done) | (refine hd ⟨6, .chain⟩ ?_ rfl; simp; done))
      have e1 := c1 hd1
      rw [e1] at hK
      have e3 := c3 hd3
      rw [e3] at hK
      have e6 := c6 hd6 (by first | exact hf | assumption)
      obtain ⟨aQ, cQ, e9, -, -, -, -⟩ := rowI_of_own e6
      rw [e9] at hK e6
      have q : EdU W (w.heap.size + 2) x y l (.agg #[.int .i64 x, .int .i64 y, .slice aQ l.length cQ]) := ⟨_, rfl, e6⟩
      clear hd1
      clear hd3
      clear hd6
      clear hd
      go_simp
      refine hK _ _ ?_ (fun h => by cases h)
      intro s hs
      cases hs
      exact ⟨hB, c0, c1, c2, c3, c4, c5, (fun _ h => by cases h), (fun _ _ => q), c8, pre0⟩
    case s8r1 =>
      rintro L u W ⟨hB, c0, c1, c2, c3, c4, c5, c6, c7, c8, pre0⟩ hf hd K hK
      dsimp only at hK
      have hd7 : L 7 = true := (by first | (refine hd ⟨7, .data⟩ ?_ rfl; simp; done) | (refine hd ⟨7, .guard⟩ ?_ rfl; simp; done) | (refine hd ⟨7, .phase⟩ ?_ rfl; simp; done) | (refine hd ⟨7, .chain⟩ ?_ rfl; simp; done))
      have e7 := c7 hd7 (by first | exact hf | assumption)
      have hdx7 := Lib.hid hd7
      clear hd7
      clear hd
      obtain ⟨v, e10, hO⟩ := e7
      obtain ⟨aQ, cQ, rfl, -, -, -, -⟩ := rowI_of_own hO
      rw [e10] at hK
      have k0 := pre0 hf
      have t0 := k0.cell (i := 0) rfl
      have t1 := k0.cell (i := 1) rfl
      have t2 := k0.cell (i := 2) rfl
      have f0 := k0.frozen 0
      have f1 := k0.frozen 1
      have f2 := k0.frozen 2
      replace k0 := Lib.hid k0
      replace hO := Lib.hid hO
      go_simp
      have hb : Below (w.heap.size + 1) W (((W.setCell ⟨w.heap.size + 1, 0, none⟩ (.int .i64 x)).setCell ⟨w.heap.size + 1, 1, none⟩ (.int .i64 y)).setCell ⟨w.heap.size + 1, 2, none⟩ (.slice aQ l.length cQ)) := (((Below.refl _ W).setCell (p := ⟨w.heap.size + 1, 0, none⟩) (Nat.le_refl _) _).setCell (p := ⟨w.heap.size + 1, 1, none⟩) (Nat.le_refl _) _).setCell (p := ⟨w.heap.size + 1, 2, none⟩) (Nat.le_refl _) _
      have lt : w.heap.size + 1 < w.heap.size + 2 := by omega
      have q : EdK (((W.setCell ⟨w.heap.size + 1, 0, none⟩ (.int .i64 x)).setCell ⟨w.heap.size + 1, 1, none⟩ (.int .i64 y)).setCell ⟨w.heap.size + 1, 2, none⟩ (.slice aQ l.length cQ)) (w.heap.size + 1) (w.heap.size + 2) x y l := ⟨_, ((k0.out.set (i := 0) (v := .int .i64 x)).set (i := 1) (v := .int .i64 y)).set (i := 2) (v := .slice aQ l.length cQ), ownI_set (ownI_set (ownI_set hO.out lt) lt) lt⟩
      refine hK undef _ (fun s h => by cases h) (fun _ => ?_)
      exact ⟨hB.trans hb, c0, c1, c2, c3, c4, c5, (fun _ h => by have z := hdx7.out; rw [show L 7 = false from h] at z; cases z), (fun _ h => by cases h), (fun _ => q), (fun h => by cases h)⟩
  case finr1 =>
    rintro L u W hL ⟨hB, c0, c1, c2, c3, c4, c5, c6, c7, c8, pre0⟩
    have e0 := c0 (hL 0 (by decide))
    have e1 := c1 (hL 1 (by decide))
    have e2 := c2 (hL 2 (by decide))
    have e3 := c3 (hL 3 (by decide))
    have e4 := c4 (hL 4 (by decide))
    have e5 := c5 (hL 5 (by decide))
    have kq8 := c8 (hL 8 (by decide))
    clear hL c0 c1 c2 c3 c4 c5 c6 c7 c8 pre0
    try simp only [e0, e1, e2, e3, e4, e5]
    clear e0 e1 e2 e3 e4 e5
    obtain ⟨v, k8, hO⟩ := kq8
    obtain ⟨aQ, cQ, rfl, -, -, -, -⟩ := rowI_of_own hO
    have y0 := k8.cell (i := 0) rfl
    have y1 := k8.cell (i := 1) rfl
    have y2 := k8.cell (i := 2) rfl
    have HZ := Lib.hid (HB.out.trans (hB.mono (show w.heap.size ≤ w.heap.size + 1 by omega)))
    have HO := Lib.hid (ownI_mono hO (show w.heap.size ≤ w.heap.size + 2 by omega))
    clear k8 hO hB
    go_wp2_with fail
    exact bodyPost_ret (v := .agg #[.int .i64 x, .int .i64 y, .slice aQ l.length cQ]) (by simp [results, Try.results29, go_sem, y0, y1, y2]) rfl ⟨⟨_, rfl, HO.out⟩, HZ.out⟩
end Go.Proofs.Ytkheomaihhcokaa
/-
  The reference limewashref14: All, Loose. (gen/EgG.py)
-/
namespace Go.Proofs.Ytkheomaihhcokaa
open Go.RowKit

theorem ownBlock_apart {w w' : World} {base B : Nat} {u v : Value} {e : TypeId} {k n : Nat} {xs : List Value} {L : List Int} (h : w.ownsRow base e k u n xs) (q : OwnI w' B v L) (hB : w.heap.size ≤ B) : ∀ g, v.ownBlock = some g → u.ownBlock ≠ some g := fun g hg hu => by
  have := (h.lt g hu).2
  have := (World.ownsRow.lt q g hg).1
  omega
theorem ownI_slice {w : World} {base : Nat} {v : Value} {L : List Int} (h : OwnI w base v L) : ∃ a n c, v = .slice a n c := by
  obtain ⟨a, c, e, _⟩ := rowI_of_own h
  exact ⟨a, _, c, e⟩
theorem map_snoc {Z : List EdZ} {L : List (Int × Int × List Int)} {k : Nat} {x y : Int} {l : List Int} {v : Value} (h : Z.map edC = L.take k) (e : L[k]? = some (x, y, l)) : (Z ++ [(x, y, l, v)]).map edC = L.take (k + 1) := by
  rw [List.map_append, h, List.take_add_one, e]; rfl
/-- Those that have just one triangle. -/
def lsL (L : List (Int × Int × List Int)) : List (Int × Int × List Int) := L.filter fun e => decide (e.2.2.length = 1)
theorem ls_yes {L : List (Int × Int × List Int)} {k : Nat} {e : Int × Int × List Int} (h : L[k]? = some e) (q : e.2.2.length = 1) : lsL (L.take (k + 1)) = lsL (L.take k) ++ [e] := by
  unfold lsL; rw [List.take_add_one, h, List.filter_append]; simp [q]
theorem ls_no {L : List (Int × Int × List Int)} {k : Nat} {e : Int × Int × List Int} (h : L[k]? = some e) (q : ¬ e.2.2.length = 1) : lsL (L.take (k + 1)) = lsL (L.take k) := by
  unfold lsL; rw [List.take_add_one, h, List.filter_append]; simp [q]
theorem ls_len (L : List (Int × Int × List Int)) (k : Nat) : (lsL (L.take k)).length ≤ k := by
  unfold lsL
  exact Nat.le_trans (List.length_filter_le _ _) (by rw [List.length_take]; omega)
set_option maxRecDepth 100000 in
set_option maxHeartbeats 8000000 in
theorem rall_edges (a : Option Addr) (n c : Nat) (L : List (Int × Int × List Int)) (w : World) (hl : RowE w a n L) (hn : n ≤ 60) (h60 : ∀ e ∈ L, e.2.2.length ≤ 60) :
    Calls Try.prog 10 #[.slice a n c] w fun e w' => (∃ v Z, e = .returned v ∧ OwnE w' w.heap.size v Z ∧ Z.map edC = L) ∧ Below w.heap.size w w' := by
  have HB := Lib.hid (Below.refl w.heap.size w)
  have R := Lib.hid hl
  have S := Lib.hid h60
  have hln := hl.1
  clear hl h60
  go_enter Try.func10, Try.ntmps10
  go_wp2_with fail
  go_loopw [3, 4] (fun v x wr => ∃ (k : Nat) (Z : List EdZ), x = .int .i64 k ∧ k ≤ n ∧ OwnE wr w.heap.size v Z ∧ Z.map edC = L.take k ∧ Below w.heap.size w wr) (fun _ x _ => n - (intOf x).toNat)
  case atStart => exact ⟨0, [], rfl, Nat.zero_le _, OwnE.nil _ _, rfl, HB.out⟩
  case round =>
    clear HB
    obtain ⟨k, Z, rfl, hk, hO, hZ, hB⟩ := hrel
    have HB := Lib.hid hB
    have OW := Lib.hid hO
    have HZ := Lib.hid hZ
    have zl : Z.length ≤ k := by
      have := congrArg List.length hZ
      rw [List.length_map, List.length_take] at this; omega
    clear hB hO hZ
    by_cases hlt : k < n
    · skip
      obtain ⟨b, o, t, m, ct, x, y, l, rfl, hb, hL, hx, hy, hz, hr, htn, hmc, -⟩ := (R.out.keep HB.out).at hlt
      have hml := Lib.hid hr.1
      have hm60 : l.length ≤ 60 := S.out (x, y, l) (List.mem_of_getElem? hL)
      have HL := Lib.hid hL
      have OWN := Lib.hid (fun (W : World) (h : Below wr.heap.size wr W) => rownE_any x y t m ct l W (hr.keep h) htn (by have := hml.out; omega))
      clear hL htn hmc hr
      have HO0 := Lib.hid OW.out.1
      rw [← Nat.add_assoc] at hy hz
      have i0 : (0 : Int) ≤ (k : Int) := by omega
      have i1 : (k : Int) < (n : Int) := by omega
      have i2 : ((k : Int)).toNat = k := by omega
      go_wp2_with fail
      ((with_reducible refine (OWN.out _ (Below.refl _ _)).mono ?_); rintro e w5 ⟨⟨v5, rfl, hO5⟩, hb5⟩)
      have hap := ownBlock_apart HO0.out hO5 (Nat.le_refl _)
      have O5 := Lib.hid (ownI_mono hO5 HB.out.size)
      replace HB := Lib.hid (HB.out.trans (hb5.mono HB.out.size))
      replace OW := Lib.hid (OW.out.keep hb5)
      have AP := Lib.hid hap
      obtain ⟨aQ, nQ, cQ, rfl⟩ := ownI_slice hO5
      clear hb5 hO5 hap hx hy hz OWN HO0
      go_upto_region 6 with fail
      have hbp := below_new1 w5 (.cells #[.int .i64 x, .int .i64 y, .slice aQ nQ cQ] 39)
      replace OW := Lib.hid (OW.out.keep hbp)
      replace O5 := Lib.hid (O5.out.keep hbp)
      have zp : (w5.alloc (.cells #[.int .i64 x, .int .i64 y, .slice aQ nQ cQ] 39)).heap.size = w5.heap.size + 1 := by simp
      replace HB := Lib.hid (HB.out.trans (hbp.mono HB.out.size))
      have kp := Lib.hid (Lok.new w5 39 #[.int .i64 x, .int .i64 y, .slice aQ nQ cQ])
      clear hbp
      generalize w5.alloc (.cells #[.int .i64 x, .int .i64 y, .slice aQ nQ cQ] 39) = Vp at *
      clear zp
      have p0 := kp.out.cell (i := 0) rfl
      have p1 := kp.out.cell (i := 1) rfl
      have p2 := kp.out.cell (i := 2) rfl
      have ht := O5.out
      have hO := OW.out
      have hbs := HB.out.size
      go_wp2_with (at_builtin; refine app_edge rfl _ _ rfl w.heap.size u3 Z rfl hO x y l _ rfl ht AP.out (by omega) hbs ?_)
      intro v6 w6 hO6 hb6
      replace HB := Lib.hid (HB.out.trans hb6)
      have O6 := Lib.hid hO6
      clear hO6 hb6 ht hO OW O5 AP
      go_wp2
      go_roundw
      case rel => exact ⟨k + 1, _, by go_num, hlt, O6.out, map_snoc HZ.out HL.out, HB.out⟩
      case measure => simp [intOf]; omega
    · obtain rfl : k = n := by omega
      have E := Lib.hid (HZ.out.trans (List.take_of_length_le (by omega)))
      go_wp2
      go_ret
      exact ⟨⟨_, Z, rfl, OW.out, E.out⟩, HB.out⟩
set_option maxRecDepth 100000 in
set_option maxHeartbeats 8000000 in
theorem rloose_edges (a : Option Addr) (n c : Nat) (L : List (Int × Int × List Int)) (w : World) (hl : RowE w a n L) (hn : n ≤ 60) (h60 : ∀ e ∈ L, e.2.2.length ≤ 60) :
    Calls Try.prog 22 #[.slice a n c] w fun e w' => (∃ v Z, e = .returned v ∧ OwnE w' w.heap.size v Z ∧ Z.map edC = lsL L) ∧ Below w.heap.size w w' := by
  have HB := Lib.hid (Below.refl w.heap.size w)
  have R := Lib.hid hl
  have S := Lib.hid h60
  have hln := hl.1
  clear hl h60
  go_enter Try.func22, Try.ntmps22
  go_wp2_with fail
  go_loopw [3, 4] (fun v x wr => ∃ (k : Nat) (Z : List EdZ), x = .int .i64 k ∧ k ≤ n ∧ OwnE wr w.heap.size v Z ∧ Z.map edC = lsL (L.take k) ∧ Below w.heap.size w wr) (fun _ x _ => n - (intOf x).toNat)
  case atStart => exact ⟨0, [], rfl, Nat.zero_le _, OwnE.nil _ _, rfl, HB.out⟩
  case round =>
    clear HB
    obtain ⟨k, Z, rfl, hk, hO, hZ, hB⟩ := hrel
    have HB := Lib.hid hB
    have OW := Lib.hid hO
    have HZ := Lib.hid hZ
    have zl : Z.length ≤ k := by
      have := congrArg List.length hZ
      rw [List.length_map] at this
      have := ls_len L k
      omega
    clear hB hO hZ
    by_cases hlt : k < n
    · skip
      obtain ⟨b, o, t, m, ct, x, y, l, rfl, hb, hL, hx, hy, hz, hr, htn, hmc, -⟩ := (R.out.keep HB.out).at hlt
      have hml := Lib.hid hr.1
      have hm60 : l.length ≤ 60 := S.out (x, y, l) (List.mem_of_getElem? hL)
      have HL := Lib.hid hL
      have OWN := Lib.hid (fun (W : World) (h : Below wr.heap.size wr W) => rownE_any x y t m ct l W (hr.keep h) htn (by have := hml.out; omega))
      clear hL htn hmc hr
      have HO0 := Lib.hid OW.out.1
      rw [← Nat.add_assoc] at hy hz
      have i0 : (0 : Int) ≤ (k : Int) := by omega
      have i1 : (k : Int) < (n : Int) := by omega
      have i2 : ((k : Int)).toNat = k := by omega
      by_cases h1 : m = 1
      · subst h1
        go_wp2_with fail
        ((with_reducible refine (OWN.out _ (Below.refl _ _)).mono ?_); rintro e w5 ⟨⟨v5, rfl, hO5⟩, hb5⟩)
        have hap := ownBlock_apart HO0.out hO5 (Nat.le_refl _)
        have O5 := Lib.hid (ownI_mono hO5 HB.out.size)
        replace HB := Lib.hid (HB.out.trans (hb5.mono HB.out.size))
        replace OW := Lib.hid (OW.out.keep hb5)
        have AP := Lib.hid hap
        obtain ⟨aQ, nQ, cQ, rfl⟩ := ownI_slice hO5
        clear hb5 hO5 hap hx hy hz OWN HO0
        have ht := O5.out
        have hO := OW.out
        have hbs := HB.out.size
        go_wp2_with (at_builtin; refine app_edge rfl _ _ rfl w.heap.size u3 Z rfl hO x y l _ rfl ht AP.out (by omega) hbs ?_)
        intro v6 w6 hO6 hb6
        replace HB := Lib.hid (HB.out.trans hb6)
        have O6 := Lib.hid hO6
        clear hO6 hb6 ht hO OW O5 AP
        go_wp2
        go_roundw
        case rel => exact ⟨k + 1, _, by go_num, hlt, O6.out, by rw [List.map_append, HZ.out, ls_yes HL.out hml.out]; rfl, HB.out⟩
        case measure => simp [intOf]; omega
      · have h2 : ¬ (m : Int) = 1 := by omega
        have h3 : ((m : Int) == 1) = false := by rw [beq_eq_false_iff_ne]; exact h2
        clear OWN HO0
        go_wp2
        go_roundw
        case rel => exact ⟨k + 1, Z, by go_num, hlt, OW.out, by rw [HZ.out, ls_no HL.out (by rw [show (x, y, l).2.2.length = m from hml.out]; exact h1)], HB.out⟩
        case measure => simp [intOf]; omega
    · obtain rfl : k = n := by omega
      have E := Lib.hid (HZ.out.trans (by rw [List.take_of_length_le (show L.length ≤ k by omega)]))
      go_wp2
      go_ret
      exact ⟨⟨_, Z, rfl, OW.out, E.out⟩, HB.out⟩
end Go.Proofs.Ytkheomaihhcokaa
