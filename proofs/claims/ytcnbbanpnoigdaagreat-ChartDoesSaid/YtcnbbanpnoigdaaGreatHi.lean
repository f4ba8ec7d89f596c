import Derived.Test.YtcnbbanpnoigdaaGreatHh
import Derived.Maps.AppendAt
import Derived.Test.YtcnbbanpnoigdaaGreatHg
namespace Go.Proofs.YtcnbbanpnoigdaaGreat
open Go.RowKit

abbrev EdZ := Int × Int × List Int × Value
def edC (z : EdZ) : Int × Int × List Int := (z.1, z.2.1, z.2.2.1)
def cellsE (Z : List EdZ) : List Value := Z.flatMap fun z => [.int .i64 z.1, .int .i64 z.2.1, z.2.2.2]
theorem cellsE_at : ∀ (Z : List EdZ) (i : Nat) (h : i < Z.length), (cellsE Z)[i * 3]? = some (.int .i64 Z[i].1) ∧ (cellsE Z)[i * 3 + 1]? = some (.int .i64 Z[i].2.1) ∧ (cellsE Z)[i * 3 + 2]? = some Z[i].2.2.2
 | [], i, h => absurd h (by simp)
 | z :: Z, 0, h => ⟨rfl, rfl, rfl⟩
 | z :: Z, i + 1, h => by
  have q := cellsE_at Z i (by simpa using h)
  have e : ∀ j, (cellsE (z :: Z))[3 + j]? = (cellsE Z)[j]? := fun j => by
   show ([_, _, _] ++ cellsE Z)[3 + j]? = _
   rw [List.getElem?_append_right (by show 3 ≤ _; omega)]
   show (cellsE Z)[3 + j - 3]? = _
   rw [Nat.add_sub_cancel_left]
  rw [show (i + 1) * 3 = 3 + i * 3 from by omega, Nat.add_assoc, Nat.add_assoc, e, e, e]
  exact q
def OwnE (w : World) (base : Nat) (v : Value) (Z : List EdZ) : Prop :=
 w.ownsRow base 100 3 v Z.length (cellsE Z) ∧ ∀ z ∈ Z, OwnI w base z.2.2.2 z.2.2.1 ∧ ∀ g, z.2.2.2.ownBlock = some g → v.ownBlock ≠ some g
theorem OwnE.nil (w : World) (base : Nat) : OwnE w base (.slice none 0 0) [] := ⟨World.ownsRow_nil _ _ _ _, fun z hz => by cases hz⟩
theorem ownI_block {w w' : World} {base : Nat} {v : Value} {L : List Int} (h : OwnI w base v L) (k : ∀ g, v.ownBlock = some g → w'.heap[g]? = w.heap[g]?) : OwnI w' base v L := by
 obtain ⟨h1, h2 | ⟨g, cap, cur, hv, hg, hh, hrest⟩⟩ := h
 ·exact ⟨h1, .inl h2⟩
 ·exact ⟨h1, .inr ⟨g, cap, cur, hv, hg, by rw [k g (by rw [hv]; rfl)]; exact hh, hrest⟩⟩
theorem ownI_one {w : World} {base : Nat} {v : Value} {L : List Int} (h : OwnI w base v L) : v.oneCell' = true := by
 obtain ⟨_, ⟨rfl, _⟩ | ⟨g, cap, cur, rfl, _⟩⟩ := h <;> rfl
theorem infoE : (Tryz.prog.info? 100).map (fun i => (i.zero, i.size, i.bytes)) = some (some (.agg #[.int .i64 0, .int .i64 0, .slice none 0 0]), 3, 40) := by kernel_rfl
def RowE (W : World) (a : Option Addr) (n : Nat) (L : List (Int × Int × List Int)) : Prop :=
 L.length = n ∧ (n = 0 ∨ ∃ b off, a = some ⟨b, off, none⟩ ∧ b < W.heap.size ∧ ∀ i (hi : i < L.length), W.cell? ⟨b, off + i * 3, none⟩ = some (.int .i64 L[i].1) ∧ W.cell? ⟨b, off + (i * 3 + 1), none⟩ = some (.int .i64 L[i].2.1) ∧
  ∃ t m c, W.cell? ⟨b, off + (i * 3 + 2), none⟩ = some (.slice t m c) ∧ RowI W t m L[i].2.2 ∧ (t = none → m = 0 ∧ c = 0) ∧ m ≤ c ∧ c ≤ 9223372036854775807)
theorem RowE.at {W : World} {a : Option Addr} {n : Nat} {L : List (Int × Int × List Int)} (h : RowE W a n L) {i : Nat} (hi : i < n) : ∃ b off t m c, ∃ x y : Int, ∃ l : List Int, a = some ⟨b, off, none⟩ ∧ b < W.heap.size ∧ L[i]? = some (x, y, l) ∧ W.cell? ⟨b, off + i * 3, none⟩ = some (.int .i64 x) ∧ W.cell? ⟨b, off + (i * 3 + 1), none⟩ = some (.int .i64 y) ∧
  W.cell? ⟨b, off + (i * 3 + 2), none⟩ = some (.slice t m c) ∧ RowI W t m l ∧ (t = none → m = 0 ∧ c = 0) ∧ m ≤ c ∧ c ≤ 9223372036854775807 := by
 obtain ⟨h1, h2 | ⟨b, off, ha, hl, hc⟩⟩ := h
 ·omega
 ·have hi' : i < L.length := by omega
  obtain ⟨p, q, t, m, c, r, s, u⟩ := hc i hi'
  exact ⟨b, off, t, m, c, L[i].1, L[i].2.1, L[i].2.2, ha, hl, by rw [List.getElem?_eq_getElem hi'], p, q, r, s, u⟩
end Go.Proofs.YtcnbbanpnoigdaaGreat
namespace Go.Proofs.YtcnbbanpnoigdaaGreat
open Go.RowKit

abbrev CtZ := Int × Int × List Int × Value
def ctC (z : CtZ) : Int × Int × List Int := (z.1, z.2.1, z.2.2.1)
def cellsC (Z : List CtZ) : List Value := Z.flatMap fun z => [.int .i64 z.1, .int .i64 z.2.1, z.2.2.2]
theorem cellsC_append (Z Y : List CtZ) : cellsC (Z ++ Y) = cellsC Z ++ cellsC Y := by unfold cellsC; rw [List.flatMap_append]
theorem cellsC_at : ∀ (Z : List CtZ) (i : Nat) (h : i < Z.length), (cellsC Z)[i * 3]? = some (.int .i64 Z[i].1) ∧ (cellsC Z)[i * 3 + 1]? = some (.int .i64 Z[i].2.1) ∧ (cellsC Z)[i * 3 + 2]? = some Z[i].2.2.2
 | [], i, h => absurd h (by simp)
 | z :: Z, 0, h => ⟨rfl, rfl, rfl⟩
 | z :: Z, i + 1, h => by
  have q := cellsC_at Z i (by simpa using h)
  have e : ∀ j, (cellsC (z :: Z))[3 + j]? = (cellsC Z)[j]? := fun j => by
   show ([_, _, _] ++ cellsC Z)[3 + j]? = _
   rw [List.getElem?_append_right (by show 3 ≤ _; omega)]
   show (cellsC Z)[3 + j - 3]? = _
   rw [Nat.add_sub_cancel_left]
  rw [show (i + 1) * 3 = 3 + i * 3 from by omega, Nat.add_assoc, Nat.add_assoc, e, e, e]
  exact q
def OwnC (w : World) (base : Nat) (v : Value) (Z : List CtZ) : Prop :=
 w.ownsRow base 29 3 v Z.length (cellsC Z) ∧ ∀ z ∈ Z, OwnI w base z.2.2.2 z.2.2.1 ∧ ∀ g, z.2.2.2.ownBlock = some g → v.ownBlock ≠ some g
theorem OwnC.keep {w w' : World} {base : Nat} {v : Value} {Z : List CtZ} (h : OwnC w base v Z) (hb : Below w.heap.size w w') : OwnC w' base v Z := ⟨ownK_keep h.1 hb, fun z hz => ⟨(h.2 z hz).1.keep hb, (h.2 z hz).2⟩⟩
theorem OwnC.nil (w : World) (base : Nat) : OwnC w base (.slice none 0 0) [] := ⟨World.ownsRow_nil _ _ _ _, fun z hz => by cases hz⟩
theorem OwnC.mono {w : World} {base base' : Nat} {v : Value} {Z : List CtZ} (h : OwnC w base v Z) (hb : base' ≤ base) : OwnC w base' v Z := ⟨ownR_mono h.1 hb, fun z hz => ⟨ownI_mono (h.2 z hz).1 hb, (h.2 z hz).2⟩⟩
theorem infoC : (Tryz.prog.info? 29).map (fun i => (i.zero, i.size, i.bytes)) = some (some (.agg #[.int .i64 0, .int .i64 0, .slice none 0 0]), 3, 40) := by kernel_rfl
theorem app_chart {W : World} {ops : Array Oper} {rest : List Oper} {o : Oper} {a : Act} {Q : Exit → Act → World → Prop} (hgd : o.guard = none) (s x : Operand)
  (ho : o.op = .call { callee := .builtin .append, args := #[s, x], argTypes := #[30, 30] })
  (base : Nat) (v : Value) (Z : List CtZ) (hs : a.eval s = v) (hO : OwnC W base v Z) (A B : Int) (l : List Int) (t : Value) (hx : a.eval x = .slice (some ⟨W.heap.size, 0, none⟩) 1 1)
  (ht : OwnI W base t l) (hd : ∀ g, t.ownBlock = some g → v.ownBlock ≠ some g) (hk : Z.length ≤ 1000000) (hbase : base ≤ W.heap.size)
  (h : ∀ v' w', OwnC w' base v' (Z ++ [(A, B, l, t)]) → Below base W w' → wpList Tryz.prog ops Q rest (a.put o.dst v') w') : wpList Tryz.prog ops Q (o :: rest) a (W.alloc (.cells #[.int .i64 A, .int .i64 B, t] 29)) := by
 obtain ⟨i0, hi, hz0, hz1, hz2⟩ := info_parts infoC;have o1 := ownI_one ht
 refine wpList_append_own_at _ hgd s x 30 ho base 29 i0 _ 3 40 Tryz.underlying30 hi hz0 hz1 hz2 rfl (by decide) v Z.length (cellsC Z) hs (hO.1.alloc _) ⟨W.heap.size, 0, none⟩ 1 1 [.int .i64 A, .int .i64 B, t] hx rfl ?_ ?_ ?_ ?_ ?_ ?_
 ·intro j u hj
  rw [Go.WideShapes.add_plain, Nat.zero_add]
  exact alloc_cell rfl (by rw [List.getElem?_toArray] at *; exact hj)
 ·intro u hu
  simp at hu
  rcases hu with rfl | rfl | rfl
  ·rfl
  ·rfl
  ·exact o1
 ·unfold maxLen; omega
 ·omega
 ·simp; omega
 ·intro v' w1 hown' hgrow _ hat
  have hsz : (W.alloc (.cells #[.int .i64 A, .int .i64 B, t] 29)).heap.size = W.heap.size + 1 := by simp
  have hb0 : Below base W (W.alloc (.cells #[.int .i64 A, .int .i64 B, t] 29)) := (Below.refl base W).alloc hbase _
  have old : ∀ g, g < W.heap.size → v.ownBlock ≠ some g → w1.heap[g]? = W.heap[g]? := fun g hg hn =>
   (hgrow.block g (by omega) (fun e => hn e.symm)).trans ((Below.refl W.heap.size W).alloc (Nat.le_refl _) _ |>.block g hg)
  have hnew : ∀ g, g < W.heap.size → v.ownBlock ≠ some g → v'.ownBlock ≠ some g := fun g hg hn e => by
   rcases hat with q | q
   ·exact hn (q.symm.trans e)
   ·rw [q, hsz] at e
    have := Option.some.inj e
    omega
  refine h v' w1 ⟨?_, ?_⟩ (hb0.grown hgrow (by omega) (fun g hg => (hO.1.lt g hg).1))
  ·rw [List.length_append, cellsC_append]
   exact hown'
  ·intro z hz
   rcases List.mem_append.1 hz with hz | hz
   ·obtain ⟨p, q⟩ := hO.2 z hz
    refine ⟨ownI_block p (fun g hg => old g (World.ownsRow.lt p g hg).2 (q g hg)), fun g hg => hnew g (World.ownsRow.lt p g hg).2 (q g hg)⟩
   ·rw [List.mem_singleton] at hz
    subst hz
    exact ⟨ownI_block ht (fun g hg => old g (World.ownsRow.lt ht g hg).2 (hd g hg)), fun g hg => hnew g (World.ownsRow.lt ht g hg).2 (hd g hg)⟩
def RowC (W : World) (a : Option Addr) (n : Nat) (L : List (Int × Int × List Int)) : Prop :=
 L.length = n ∧ (n = 0 ∨ ∃ b off, a = some ⟨b, off, none⟩ ∧ b < W.heap.size ∧ ∀ i (hi : i < L.length), W.cell? ⟨b, off + i * 3, none⟩ = some (.int .i64 L[i].1) ∧ W.cell? ⟨b, off + (i * 3 + 1), none⟩ = some (.int .i64 L[i].2.1) ∧
  ∃ t m c, W.cell? ⟨b, off + (i * 3 + 2), none⟩ = some (.slice t m c) ∧ RowI W t m L[i].2.2 ∧ (t = none → m = 0 ∧ c = 0) ∧ m ≤ c ∧ c ≤ 9223372036854775807)
theorem RowC.keep {W W' : World} {a : Option Addr} {n : Nat} {L : List (Int × Int × List Int)} (h : RowC W a n L) (hb : Below W.heap.size W W') : RowC W' a n L := by
 obtain ⟨h1, h2 | ⟨b, off, ha, hl, hc⟩⟩ := h
 ·exact ⟨h1, .inl h2⟩
 ·refine ⟨h1, .inr ⟨b, off, ha, Nat.lt_of_lt_of_le hl hb.size, fun i hi => ?_⟩⟩
  obtain ⟨p, q, t, m, c, r, s, u⟩ := hc i hi
  exact ⟨keepc hb p, keepc hb q, t, m, c, keepc hb r, s.keep hb, u⟩
theorem RowC.at {W : World} {a : Option Addr} {n : Nat} {L : List (Int × Int × List Int)} (h : RowC W a n L) {i : Nat} (hi : i < n) : ∃ b off t m c, ∃ x y : Int, ∃ l : List Int, a = some ⟨b, off, none⟩ ∧ b < W.heap.size ∧ L[i]? = some (x, y, l) ∧ W.cell? ⟨b, off + i * 3, none⟩ = some (.int .i64 x) ∧ W.cell? ⟨b, off + (i * 3 + 1), none⟩ = some (.int .i64 y) ∧
  W.cell? ⟨b, off + (i * 3 + 2), none⟩ = some (.slice t m c) ∧ RowI W t m l ∧ (t = none → m = 0 ∧ c = 0) ∧ m ≤ c ∧ c ≤ 9223372036854775807 := by
 obtain ⟨h1, h2 | ⟨b, off, ha, hl, hc⟩⟩ := h
 ·omega
 ·have hi' : i < L.length := by omega
  obtain ⟨p, q, t, m, c, r, s, u⟩ := hc i hi'
  exact ⟨b, off, t, m, c, L[i].1, L[i].2.1, L[i].2.2, ha, hl, by rw [List.getElem?_eq_getElem hi'], p, q, r, s, u⟩
theorem rowC_of_own {w : World} {base : Nat} {v : Value} {Z : List CtZ} (h : OwnC w base v Z) : ∃ a c, v = .slice a Z.length c ∧ (a = none → Z.length = 0 ∧ c = 0) ∧ Z.length ≤ c ∧ c ≤ 9223372036854775807 ∧ RowC w a Z.length (Z.map ctC) := by
 obtain ⟨hr, hz⟩ := h;have hl := hr.lt;have hc := fun (g : Nat) (hg : v.ownBlock = some g) => hr.cells hg;obtain ⟨h1, ⟨rfl, h0⟩ | ⟨g, cap, cur, rfl, hb, hh, hk, hm, _, _⟩⟩ := hr
 ·exact ⟨none, 0, by rw [h0], (fun _ => ⟨h0, rfl⟩), by omega, by omega, by simp, .inl h0⟩
 ·refine ⟨_, cap, rfl, (fun h => by cases h), hk, by unfold maxLen at hm; omega, by simp, .inr ⟨g, 0, rfl, (hl g rfl).2, fun i hi => ?_⟩⟩
  have hi' : i < Z.length := by simpa using hi
  obtain ⟨p, q, r⟩ := cellsC_at Z i hi';have cc := hc g rfl;have p' := cc (i * 3) _ p;have q' := cc (i * 3 + 1) _ q;have r' := cc (i * 3 + 2) _ r
  simp only [Go.WideShapes.add_plain] at p' q' r'
  have zi := hz Z[i] (List.getElem_mem hi');obtain ⟨t, c, e, f1, f2, f3, f4⟩ := rowI_of_own zi.1;rw [e] at r'
  refine ⟨by simpa [ctC] using p', by simpa [ctC] using q', t, _, c, r', by simpa [ctC] using f4, f1, f2, f3⟩
end Go.Proofs.YtcnbbanpnoigdaaGreat
namespace Go.Proofs.YtcnbbanpnoigdaaGreat
open Go.RowKit

def shT (t : Bool) (n : Nat) (i ax : Int) : Bool := (t && plB i n) && decide (axB ax)
def chA (t : Bool) (n : Nat) (FV FC : Nat → Nat → Int) : List ChT := if t then (chF t n FV FC).grow n else []
structure ChOK : Prop where
 tame : ∀ (pa1 pa2 pa3 pa4 : Option Addr) (n1 n2 n3 n4 c1 c2 c3 c4 : Nat) (FV FT FN FC : Nat → Nat → Int) (w : World) (_ : MsW w pa1 pa2 pa3 pa4 n1 n2 n3 n4 FV FT FN FC) (_ : n1 ≤ 20) (_ : n4 ≤ 12), Calls Tryz.prog 17 #[.agg #[.slice pa1 n1 c1, .slice pa2 n2 c2, .slice pa3 n3 c3, .slice pa4 n4 c4]] w fun e w' => e = .returned (.bool (tmB n1 n2 n3 n4 FV FT FN FC)) ∧ Below w.heap.size w w'
 facing : ∀ (pa1 pa2 pa3 pa4 : Option Addr) (n1 n2 n3 n4 c1 c2 c3 c4 : Nat) (FV FT FN FC : Nat → Nat → Int) (i : Int) (w : World) (_ : MsW w pa1 pa2 pa3 pa4 n1 n2 n3 n4 FV FT FN FC) (_ : n1 ≤ 20) (_ : n4 ≤ 12), Calls Tryz.prog 6 #[.agg #[.slice pa1 n1 c1, .slice pa2 n2 c2, .slice pa3 n3 c3, .slice pa4 n4 c4], .int .i64 i] w fun e w' => e = .returned (.tuple #[.int .i64 ((chF (tmB n1 n2 n3 n4 FV FT FN FC) n4 FV FC).A i), .int .i64 ((chF (tmB n1 n2 n3 n4 FV FT FN FC) n4 FV FC).S i), .bool ((chF (tmB n1 n2 n3 n4 FV FT FN FC) n4 FV FC).K i)]) ∧ Below w.heap.size w w'
 shadow : ∀ (pa1 pa2 pa3 pa4 : Option Addr) (n1 n2 n3 n4 c1 c2 c3 c4 : Nat) (FV FT FN FC : Nat → Nat → Int) (i ax : Int) (w : World) (_ : MsW w pa1 pa2 pa3 pa4 n1 n2 n3 n4 FV FT FN FC) (_ : n1 ≤ 20) (_ : n4 ≤ 12), Calls Tryz.prog 8 #[.agg #[.slice pa1 n1 c1, .slice pa2 n2 c2, .slice pa3 n3 c3, .slice pa4 n4 c4], .int .i64 i, .int .i64 ax] w fun e w' => e = .returned (.tuple #[.agg #[.int .i64 (vF (shT (tmB n1 n2 n3 n4 FV FT FN FC) n4 i ax) (shX FV FC ax.toNat i.toNat 0)), .int .i64 (vF (shT (tmB n1 n2 n3 n4 FV FT FN FC) n4 i ax) (shY FV FC ax.toNat i.toNat 0)), .int .i64 (vF (shT (tmB n1 n2 n3 n4 FV FT FN FC) n4 i ax) (shX FV FC ax.toNat i.toNat 1)), .int .i64 (vF (shT (tmB n1 n2 n3 n4 FV FT FN FC) n4 i ax) (shY FV FC ax.toNat i.toNat 1)), .int .i64 (vF (shT (tmB n1 n2 n3 n4 FV FT FN FC) n4 i ax) (shX FV FC ax.toNat i.toNat 2)), .int .i64 (vF (shT (tmB n1 n2 n3 n4 FV FT FN FC) n4 i ax) (shY FV FC ax.toNat i.toNat 2))], .int .i64 (agE (shT (tmB n1 n2 n3 n4 FV FT FN FC) n4 i ax))]) ∧ Below w.heap.size w w'
 fits : ∀ (pa1 pa2 pa3 pa4 : Option Addr) (n1 n2 n3 n4 c1 c2 c3 c4 : Nat) (FV FT FN FC : Nat → Nat → Int) (ax sd : Int) (a : Option Addr) (m c : Nat) (l : List Int) (i : Int) (w : World) (_ : MsW w pa1 pa2 pa3 pa4 n1 n2 n3 n4 FV FT FN FC) (_ : n1 ≤ 20) (_ : n4 ≤ 12) (_ : RowI w a m l) (_ : m ≤ 20), Calls Tryz.prog 13 #[.agg #[.slice pa1 n1 c1, .slice pa2 n2 c2, .slice pa3 n3 c3, .slice pa4 n4 c4], .agg #[.int .i64 ax, .int .i64 sd, .slice a m c], .int .i64 i] w fun e w' => e = .returned (.bool ((chF (tmB n1 n2 n3 n4 FV FT FN FC) n4 FV FC).fits ax sd l i)) ∧ Below w.heap.size w w'
 grow : ∀ (pa1 pa2 pa3 pa4 : Option Addr) (n1 n2 n3 n4 c1 c2 c3 c4 : Nat) (FV FT FN FC : Nat → Nat → Int) (w : World) (_ : MsW w pa1 pa2 pa3 pa4 n1 n2 n3 n4 FV FT FN FC) (_ : n1 ≤ 20) (_ : n4 ≤ 12), Calls Tryz.prog 10 #[.agg #[.slice pa1 n1 c1, .slice pa2 n2 c2, .slice pa3 n3 c3, .slice pa4 n4 c4]] w fun e w' => (∃ v Z, e = .returned (.tuple #[v, .int .i64 (agE (tmB n1 n2 n3 n4 FV FT FN FC))]) ∧ OwnC w' w.heap.size v Z ∧ Z.map ctC = chA (tmB n1 n2 n3 n4 FV FT FN FC) n4 FV FC) ∧ Below w.heap.size w w'
 right : ∀ (pa1 pa2 pa3 pa4 : Option Addr) (n1 n2 n3 n4 c1 c2 c3 c4 : Nat) (FV FT FN FC : Nat → Nat → Int) (a : Option Addr) (m c : Nat) (L : List ChT) (w : World) (_ : MsW w pa1 pa2 pa3 pa4 n1 n2 n3 n4 FV FT FN FC) (_ : n1 ≤ 20) (_ : n4 ≤ 12) (_ : RowC w a m L) (_ : m ≤ 20) (_ : ∀ e ∈ L, e.2.2.length ≤ 20), Calls Tryz.prog 15 #[.agg #[.slice pa1 n1 c1, .slice pa2 n2 c2, .slice pa3 n3 c3, .slice pa4 n4 c4], .slice a m c] w fun e w' => e = .returned (.bool (tmB n1 n2 n3 n4 FV FT FN FC && (chF (tmB n1 n2 n3 n4 FV FT FN FC) n4 FV FC).rightB L)) ∧ Below w.heap.size w w'
end Go.Proofs.YtcnbbanpnoigdaaGreat
