/-
  Texts in one: EcP, EcS, EcC, MpA, EcQ.
-/
import Derived.Test.YtkheomaihhcokaaEgZ
import Derived.Test.YtkheomaihhcokaaGaA
import Derived.ChangeKeysEq
import Derived.Test.YtkheomaihhcokaaMsB
import Derived.Lib.MinMax
import Derived.Test.YtkheomaihhcokaaGaC
import Derived.Maps.OwnOps
import Derived.Maps.RangeWalk
import Derived.DeepKeys4
/-
  The edges of a triangle, each once, the lesser place first; rows of two places. No program.
-/
namespace Go.Proofs.Ytkheomaihhcokaa
open Go.RowKit

/-- One pair more, if it is none yet. -/
def sdA (L : List (Int × Int)) (x y : Int) : List (Int × Int) := if ¬ x = y ∧ ¬ (min x y, max x y) ∈ L then L ++ [(min x y, max x y)] else L
def sdL (x y z : Int) : List (Int × Int) := sdA (sdA (sdA [] x y) y z) z x
theorem sdA_yes {L : List (Int × Int)} {x y : Int} (h : ¬ x = y) (k : ¬ (min x y, max x y) ∈ L) : sdA L x y = L ++ [(min x y, max x y)] := by unfold sdA; rw [if_pos ⟨h, k⟩]
theorem sdA_same {L : List (Int × Int)} {x y : Int} (h : x = y) : sdA L x y = L := by unfold sdA; rw [if_neg (fun q => q.1 h)]
theorem sdA_there {L : List (Int × Int)} {x y : Int} (h : (min x y, max x y) ∈ L) : sdA L x y = L := by unfold sdA; rw [if_neg (fun q => q.2 h)]
theorem sdA_len (L : List (Int × Int)) (x y : Int) : (sdA L x y).length ≤ L.length + 1 := by
  unfold sdA
  split
  · simp
  · omega
theorem sdL_len (x y z : Int) : (sdL x y z).length ≤ 3 := by
  have h1 := sdA_len [] x y
  have h2 := sdA_len (sdA [] x y) y z
  have h3 := sdA_len (sdA (sdA [] x y) y z) z x
  unfold sdL
  simp only [List.length_nil] at h1
  omega
theorem sdA_nodup {L : List (Int × Int)} (h : L.Nodup) (x y : Int) : (sdA L x y).Nodup := by
  unfold sdA
  split
  · rename_i q
    exact List.nodup_append.2 ⟨h, by simp, fun a ha b hb e => by
      simp only [List.mem_singleton] at hb
      exact q.2 (by rw [← hb, ← e]; exact ha)⟩
  · exact h
theorem sdL_nodup (x y z : Int) : (sdL x y z).Nodup := sdA_nodup (sdA_nodup (sdA_nodup List.nodup_nil x y) y z) z x
theorem sdA_mem {L : List (Int × Int)} {x y : Int} {p : Int × Int} : p ∈ sdA L x y ↔ p ∈ L ∨ p.1 < p.2 ∧ ed3 x y p.1 p.2 = true := by
  have e : (p.1 < p.2 ∧ ed3 x y p.1 p.2 = true) ↔ ¬ x = y ∧ p = (min x y, max x y) := by
    obtain ⟨a, b⟩ := p
    rw [ed3_iff, Prod.mk.injEq]
    omega
  rw [e]
  unfold sdA
  split
  · rename_i q
    rw [List.mem_append, List.mem_singleton]
    exact ⟨fun h => h.imp id (fun h => ⟨q.1, h⟩), fun h => h.imp id (fun h => h.2)⟩
  · rename_i q
    refine ⟨.inl, fun h => h.elim id (fun h => Classical.byContradiction fun n => q ⟨h.1, ?_⟩)⟩
    rw [← h.2]; exact n
theorem sdL_mem {x y z : Int} {p : Int × Int} : p ∈ sdL x y z ↔ p.1 < p.2 ∧ hasB x y z p.1 p.2 = true := by
  unfold sdL
  rw [sdA_mem, sdA_mem, sdA_mem, hasB_iff]
  simp only [List.not_mem_nil, false_or]
  constructor
  · rintro ((h | h) | h)
    · exact ⟨h.1, .inl h.2⟩
    · exact ⟨h.1, .inr (.inl h.2)⟩
    · exact ⟨h.1, .inr (.inr h.2)⟩
  · rintro ⟨h, q | q | q⟩
    · exact .inl (.inl ⟨h, q⟩)
    · exact .inl (.inr ⟨h, q⟩)
    · exact .inr ⟨h, q⟩
/-- Rows of two places. -/
def pF (L : List (Int × Int)) (i j : Nat) : Int := if j = 0 then (L.getD i (0, 0)).1 else (L.getD i (0, 0)).2
def RowP (W : World) (a : Option Addr) (n : Nat) (L : List (Int × Int)) : Prop := L.length = n ∧ RowK W a n 2 (pF L)
theorem RowP.keep {W W' : World} {a : Option Addr} {n : Nat} {L : List (Int × Int)} (h : RowP W a n L) (hb : Below W.heap.size W W') : RowP W' a n L := ⟨h.1, h.2.keep hb⟩
def OwnP (w : World) (base : Nat) (v : Value) (L : List (Int × Int)) : Prop := w.ownsRow base 58 2 v L.length (valsK L.length 2 (pF L))
theorem OwnP.keep {w w' : World} {base : Nat} {v : Value} {L : List (Int × Int)} (h : OwnP w base v L) (hb : Below w.heap.size w w') : OwnP w' base v L := ownK_keep h hb
theorem OwnP.nil (w : World) (base : Nat) : OwnP w base (.slice none 0 0) [] := World.ownsRow_nil _ _ _ _
theorem rowP_of_own {w : World} {base : Nat} {v : Value} {L : List (Int × Int)} (h : OwnP w base v L) : ∃ a c, v = .slice a L.length c ∧ (a = none → L.length = 0 ∧ c = 0) ∧ L.length ≤ c ∧ c ≤ 9223372036854775807 ∧ RowP w a L.length L := by
  obtain ⟨a, c, e, h1, h2, h3, h4⟩ := rowK_of_own h
  exact ⟨a, c, e, h1, h2, h3, rfl, h4⟩
theorem RowP.at {W : World} {a : Option Addr} {n : Nat} {L : List (Int × Int)} (h : RowP W a n L) {i : Nat} (hi : i < n) : ∃ b off x y, a = some ⟨b, off, none⟩ ∧ b < W.heap.size ∧ L[i]? = some (x, y) ∧ W.cell? ⟨b, off + i * 2, none⟩ = some (.int .i64 x) ∧ W.cell? ⟨b, off + i * 2 + 1, none⟩ = some (.int .i64 y) := by
  obtain ⟨b, off, ha, hb, hc⟩ := h.2.at hi
  have hil : i < L.length := by rw [h.1]; exact hi
  have e : L[i]? = some (L[i].1, L[i].2) := List.getElem?_eq_getElem hil
  have z0 := hc i hi 0 (by omega)
  have z1 := hc i hi 1 (by omega)
  unfold pF at z0 z1
  rw [List.getD_eq_getElem?_getD, e] at z0 z1
  exact ⟨b, off, _, _, ha, hb, e, z0, by rw [Nat.add_assoc]; exact z1⟩
theorem pF_snoc (L : List (Int × Int)) (p : Int × Int) : valsK (L ++ [p]).length 2 (pF (L ++ [p])) = valsK L.length 2 (pF L) ++ [.int .i64 p.1, .int .i64 p.2] := by
  rw [List.length_append, List.length_singleton, valsK_succ]
  congr 1
  · refine valsK_congr fun i hi j _ => ?_
    unfold pF
    rw [List.getD_eq_getElem?_getD, List.getD_eq_getElem?_getD, List.getElem?_append_left hi]
  · rw [show List.range 2 = [0, 1] from rfl]
    unfold pF
    rw [List.getD_eq_getElem?_getD, List.getElem?_append_right (Nat.le_refl _), Nat.sub_self]
    rfl
theorem infoP : (Try.prog.info? 58).map (fun i => (i.zero, i.size, i.bytes)) = some (some (.agg #[.int .i64 0, .int .i64 0]), 2, 16) := by kernel_rfl
end Go.Proofs.Ytkheomaihhcokaa
/-
  The program's slices.Index and slices.Contains of a row of two places.
-/
namespace Go.Proofs.Ytkheomaihhcokaa
open Go.RowKit

theorem infoIn : ∃ i, Try.prog.info? 3 = some i := by
  obtain ⟨i, h, _⟩ := info_parts infoI
  exact ⟨i, h⟩
def e2 (a b c d : Int) : Bool := a == c && b == d
theorem e2_yes {a b c d : Int} (h : a = c) (k : b = d) : e2 a b c d = true := by unfold e2; rw [h, k]; simp
theorem e2_no {a b c d : Int} (h : ¬ (a = c ∧ b = d)) : e2 a b c d = false := by
  unfold e2
  rw [Bool.and_eq_false_iff, beq_eq_false_iff_ne, beq_eq_false_iff_ne]
  by_cases q : a = c
  · exact .inr (fun r => h ⟨q, r⟩)
  · exact .inl q
theorem cellsIn : Try.prog.cellsOf 3 = 1 := by kernel_rfl
theorem eqn_int (W : World) (a b : Int) : (Op.equalIn 9999 3 (.int .i64 a) (.int .i64 b)).run Try.prog W = .ok (a == b) W := by
  simp [go_sem]
set_option maxRecDepth 100000 in
@[go_sem high] theorem eql_side (w : World) (a b c d : Int) : (binOp .eql 58 (.agg #[.int .i64 a, .int .i64 b]) (.agg #[.int .i64 c, .int .i64 d])).run Try.prog w = .ok (.bool (e2 a b c d)) w := by
  obtain ⟨i, hi⟩ := infoIn
  rw [run_eql_struct, run_equalIn_array w 9999 _ _ Try.underlying58 hi, cellsIn]
  have r : List.range 2 = [0, 1] := rfl
  rw [r]
  unfold e2
  by_cases h1 : a = c
  · subst h1
    by_cases h2 : b = d
    · subst h2; simp [Op.eqItems, go_sem]
    · have q2 : (b == d) = false := by rw [beq_eq_false_iff_ne]; exact h2
      simp [Op.eqItems, go_sem, q2]
  · have q1 : (a == c) = false := by rw [beq_eq_false_iff_ne]; exact h1
    simp [Op.eqItems, go_sem, q1]
set_option maxRecDepth 100000 in
set_option maxHeartbeats 8000000 in
theorem index_any (a : Option Addr) (n c : Nat) (L : List (Int × Int)) (p q : Int) (w : World) (hl : RowP w a n L) (hn : n ≤ 1000) :
    Calls Try.prog 81 #[.slice a n c, .agg #[.int .i64 p, .int .i64 q]] w fun e w' => (∃ r : Int, e = .returned (.int .i64 r) ∧ (0 ≤ r ↔ (p, q) ∈ L)) ∧ Below w.heap.size w w' := by
  have HB := Lib.hid (Below.refl w.heap.size w)
  have R := Lib.hid hl
  have hln := Lib.hid hl.1
  clear hl
  go_enter Try.func81, Try.ntmps81
  go_upto_region 1 with fail
  have hby := below_new1 w (.cells #[.int .i64 p, .int .i64 q] 58)
  have zy : (w.alloc (.cells #[.int .i64 p, .int .i64 q] 58)).heap.size = w.heap.size + 1 := by simp
  have HB := Lib.hid hby
  have ky := Lib.hid (Lok.new w 58 #[.int .i64 p, .int .i64 q])
  clear hby
  generalize w.alloc (.cells #[.int .i64 p, .int .i64 q] 58) = Vy at *
  clear zy
  have HB0 := HB
  have ky0 := ky
  clear HB ky
  go_wp2_with fail
  go_loopw [8] (fun x wr => ∃ k : Nat, x = .int .i64 k ∧ k ≤ n ∧ (∀ j, j < k → L[j]? ≠ some (p, q)) ∧ Below Vy.heap.size Vy wr) (fun x _ => n - (intOf x).toNat)
  case atStart => exact ⟨0, rfl, Nat.zero_le _, fun j h => absurd h (by omega), Below.refl _ _⟩
  case round =>
    obtain ⟨k, rfl, hk, hN, hB⟩ := hrel
    have HB := Lib.hid (HB0.out.trans (hB.mono HB0.out.size))
    have BV := Lib.hid hB
    have ky := Lib.hid (ky0.out.keep hB)
    have HN := Lib.hid hN
    clear hB hN
    by_cases hlt : k < n
    · obtain ⟨b, o, x, y, rfl, hb, hL, hx, hy⟩ := (R.out.keep HB.out).at hlt
      have HL := Lib.hid hL
      clear hL
      have y0 := ky.out.cell (i := 0) rfl
      have y1 := ky.out.cell (i := 1) rfl
      have i0 : (0 : Int) ≤ (k : Int) := by omega
      have i1 : (k : Int) < (n : Int) := by omega
      have i2 : ((k : Int)).toNat = k := by omega
      go_upto_region 4 with fail
      by_cases e : p = x ∧ q = y
      · have E : Hid ((0 : Int) ≤ (k : Int) ↔ (p, q) ∈ L) := Lib.hid ⟨fun _ => by rw [e.1, e.2]; exact List.mem_of_getElem? HL.out, fun _ => i0⟩
        have ee := e2_yes e.1 e.2
        clear e
        go_quiet (fail)
        go_wp2
        go_ret
        exact ⟨⟨_, rfl, E.out⟩, below_drewN HB.out _⟩
      · have E : Hid (∀ j, j < k + 1 → L[j]? ≠ some (p, q)) := Lib.hid (fun j hj => by
          by_cases s : j = k
          · rw [s, HL.out]
            intro z
            cases z
            exact e ⟨rfl, rfl⟩
          · exact HN.out j (by omega))
        have ee := e2_no e
        clear e
        go_quiet (fail)
        go_wp2
        go_roundw
        case rel => exact ⟨k + 1, by go_num, hlt, E.out, below_drewN BV.out _⟩
        case measure => simp [intOf]; omega
    · obtain rfl : k = n := by omega
      have E : Hid ((0 : Int) ≤ -1 ↔ (p, q) ∈ L) := Lib.hid ⟨fun h => absurd h (by omega), fun h => by
        obtain ⟨j, hj⟩ := List.getElem?_of_mem h
        refine absurd hj (HN.out j ?_)
        have := (List.getElem?_eq_some_iff.1 hj).1
        have := hln.out
        omega⟩
      go_wp2
      go_ret
      exact ⟨⟨_, rfl, E.out⟩, HB.out⟩
set_option maxRecDepth 100000 in
set_option maxHeartbeats 8000000 in
theorem contains_any (a : Option Addr) (n c : Nat) (L : List (Int × Int)) (p q : Int) (w : World) (hl : RowP w a n L) (hn : n ≤ 1000) :
    Calls Try.prog 64 #[.slice a n c, .agg #[.int .i64 p, .int .i64 q]] w fun e w' => e = .returned (.bool (decide ((p, q) ∈ L))) ∧ Below w.heap.size w w' := by
  have HB := Lib.hid (Below.refl w.heap.size w)
  have R := Lib.hid hl
  clear hl
  go_enter Try.func64, Try.ntmps64
  go_upto_region 1 with fail
  have hby := below_new1 w (.cells #[.int .i64 p, .int .i64 q] 58)
  have zy : (w.alloc (.cells #[.int .i64 p, .int .i64 q] 58)).heap.size = w.heap.size + 1 := by simp
  have HB := Lib.hid hby
  have ky := Lib.hid (Lok.new w 58 #[.int .i64 p, .int .i64 q])
  clear hby
  generalize w.alloc (.cells #[.int .i64 p, .int .i64 q] 58) = Vy at *
  clear zy
  have y0 := ky.out.cell (i := 0) rfl
  have y1 := ky.out.cell (i := 1) rfl
  go_wp2_with fail
  ((with_reducible refine (index_any a n c L p q Vy (R.out.keep HB.out) hn).mono ?_); rintro e w5 ⟨⟨r, rfl, hr⟩, hb5⟩)
  replace HB := Lib.hid (HB.out.trans (hb5.mono HB.out.size))
  have E : Hid (decide (r ≥ 0) = decide ((p, q) ∈ L)) := Lib.hid (decide_eq_decide.2 hr)
  clear y0 y1 hb5 hr
  go_wp2
  go_ret
  exact ⟨by rw [E.out]; rfl, HB.out⟩
end Go.Proofs.Ytkheomaihhcokaa
/-
  The program's package edge: sides. (gen/EcC.py)
-/
namespace Go.Proofs.Ytkheomaihhcokaa
open Go.RowKit

set_option maxRecDepth 100000 in
set_option maxHeartbeats 8000000 in
theorem sides_any (x tx ux y ty uy z tz uz : Int) (w : World) :
    Calls Try.prog 47 #[.agg #[.int .i64 x, .int .i64 tx, .int .i64 ux, .int .i64 y, .int .i64 ty, .int .i64 uy, .int .i64 z, .int .i64 tz, .int .i64 uz]] w fun e w' => (∃ v, e = .returned v ∧ OwnP w' w.heap.size v (sdL x y z)) ∧ Below w.heap.size w w' := by
  have HB := Lib.hid (Below.refl w.heap.size w)
  obtain ⟨L0, hL0⟩ : ∃ L : List (Int × Int), L = [] := ⟨_, rfl⟩
  obtain ⟨L1, hL1⟩ : ∃ L, L = sdA L0 x y := ⟨_, rfl⟩
  obtain ⟨L2, hL2⟩ : ∃ L, L = sdA L1 y z := ⟨_, rfl⟩
  obtain ⟨L3, hL3⟩ : ∃ L, L = sdA L2 z x := ⟨_, rfl⟩
  have hl0 : L0.length ≤ 0 := by rw [hL0]; exact Nat.le_refl _
  have hl1 : L1.length ≤ 1 := by have := sdA_len L0 x y; rw [hL1]; omega
  have hl2 : L2.length ≤ 2 := by have := sdA_len L1 y z; rw [hL2]; omega
  have E3 : Hid (sdL x y z = L3) := Lib.hid (by rw [hL3, hL2, hL1, hL0]; rfl)
  replace hL0 := Lib.hid hL0
  replace hL1 := Lib.hid hL1
  replace hL2 := Lib.hid hL2
  replace hL3 := Lib.hid hL3
  have ix0 : ∀ W, (Instr.index 51 (.agg #[.int .i64 x, .int .i64 tx, .int .i64 ux, .int .i64 y, .int .i64 ty, .int .i64 uy, .int .i64 z, .int .i64 tz, .int .i64 uz]) (.int .i64 0)).run Try.prog W = .ok (.agg #[.int .i64 x, .int .i64 tx, .int .i64 ux]) W := fun _ => by kernel_rfl
  have ix1 : ∀ W, (Instr.index 51 (.agg #[.int .i64 x, .int .i64 tx, .int .i64 ux, .int .i64 y, .int .i64 ty, .int .i64 uy, .int .i64 z, .int .i64 tz, .int .i64 uz]) (.int .i64 1)).run Try.prog W = .ok (.agg #[.int .i64 y, .int .i64 ty, .int .i64 uy]) W := fun _ => by kernel_rfl
  have ix2 : ∀ W, (Instr.index 51 (.agg #[.int .i64 x, .int .i64 tx, .int .i64 ux, .int .i64 y, .int .i64 ty, .int .i64 uy, .int .i64 z, .int .i64 tz, .int .i64 uz]) (.int .i64 2)).run Try.prog W = .ok (.agg #[.int .i64 z, .int .i64 tz, .int .i64 uz]) W := fun _ => by kernel_rfl
  go_enter Try.func47, Try.ntmps47
  go_upto_region 1 with fail
  have hbt := below_new1 w (.cells #[.int .i64 x, .int .i64 tx, .int .i64 ux, .int .i64 y, .int .i64 ty, .int .i64 uy, .int .i64 z, .int .i64 tz, .int .i64 uz] 51)
  have zt : (w.alloc (.cells #[.int .i64 x, .int .i64 tx, .int .i64 ux, .int .i64 y, .int .i64 ty, .int .i64 uy, .int .i64 z, .int .i64 tz, .int .i64 uz] 51)).heap.size = w.heap.size + 1 := by simp
  have HB := Lib.hid hbt
  have kt := Lib.hid (Lok.new w 51 #[.int .i64 x, .int .i64 tx, .int .i64 ux, .int .i64 y, .int .i64 ty, .int .i64 uy, .int .i64 z, .int .i64 tz, .int .i64 uz])
  clear hbt
  generalize w.alloc (.cells #[.int .i64 x, .int .i64 tx, .int .i64 ux, .int .i64 y, .int .i64 ty, .int .i64 uy, .int .i64 z, .int .i64 tz, .int .i64 uz] 51) = Vt at *
  clear zt
  have htl : w.heap.size < Vt.heap.size := kt.out.lt
  have HB0 := HB
  have kt0 := kt
  have t0 := kt.out.cell (i := 0) rfl
  have t1 := kt.out.cell (i := 1) rfl
  have t2 := kt.out.cell (i := 2) rfl
  have t3 := kt.out.cell (i := 3) rfl
  have t4 := kt.out.cell (i := 4) rfl
  have t5 := kt.out.cell (i := 5) rfl
  have t6 := kt.out.cell (i := 6) rfl
  have t7 := kt.out.cell (i := 7) rfl
  have t8 := kt.out.cell (i := 8) rfl
  go_wp2_with fail
  clear t0 t1 t2 t3 t4 t5 t6 t7 t8 HB kt
  go_loopw [3, 9] (fun v x' wr => ((x' = .int .i64 0 ∧ OwnP wr Vt.heap.size v L0) ∨ (x' = .int .i64 1 ∧ OwnP wr Vt.heap.size v L1) ∨ (x' = .int .i64 2 ∧ OwnP wr Vt.heap.size v L2) ∨ (x' = .int .i64 3 ∧ OwnP wr Vt.heap.size v L3)) ∧ Below Vt.heap.size Vt wr) (fun _ x' _ => 3 - (intOf x').toNat)
  case atStart => exact ⟨.inl ⟨rfl, by rw [hL0.out]; exact OwnP.nil _ _⟩, Below.refl _ _⟩
  case round =>
    obtain ⟨hR, hB⟩ := hrel
    have HB := Lib.hid (HB0.out.trans (hB.mono HB0.out.size))
    have BV := Lib.hid hB
    have kt := Lib.hid (kt0.out.keep hB)
    have hyw : w.heap.size < wr.heap.size := kt.out.lt
    clear hB
    rcases hR with ⟨rfl, hO⟩ | ⟨rfl, hO⟩ | ⟨rfl, hO⟩ | ⟨rfl, hO⟩
    · have OW := Lib.hid hO
      clear hO
      have t0 := kt.out.cell (i := 0) rfl
      have t1 := kt.out.cell (i := 1) rfl
      have t2 := kt.out.cell (i := 2) rfl
      have t3 := kt.out.cell (i := 3) rfl
      have t4 := kt.out.cell (i := 4) rfl
      have t5 := kt.out.cell (i := 5) rfl
      have t6 := kt.out.cell (i := 6) rfl
      have t7 := kt.out.cell (i := 7) rfl
      have t8 := kt.out.cell (i := 8) rfl
      go_upto_region 5 with fail
      have hbf := Lib.hid ((Below.refl Vt.heap.size wr).alloc BV.out.size (.cells #[.int .i64 x, .int .i64 tx, .int .i64 ux] 50))
      replace BV := Lib.hid (BV.out.trans hbf.out)
      clear hbf
      have hbf := below_new1 wr (.cells #[.int .i64 x, .int .i64 tx, .int .i64 ux] 50)
      replace kt := Lib.hid (kt.out.keep hbf)
      replace OW := Lib.hid (OW.out.keep hbf)
      have zf : (wr.alloc (.cells #[.int .i64 x, .int .i64 tx, .int .i64 ux] 50)).heap.size = wr.heap.size + 1 := by simp
      replace HB := Lib.hid (HB.out.trans (hbf.mono HB.out.size))
      have kf := Lib.hid (Lok.new wr 50 #[.int .i64 x, .int .i64 tx, .int .i64 ux])
      clear hbf
      generalize wr.alloc (.cells #[.int .i64 x, .int .i64 tx, .int .i64 ux] 50) = Vf at *
      clear zf t0 t1 t2 t3 t4 t5 t6 t7 t8
      generalize wr.heap.size = gf at *
      have t0 := kt.out.cell (i := 0) rfl
      have t1 := kt.out.cell (i := 1) rfl
      have t2 := kt.out.cell (i := 2) rfl
      have t3 := kt.out.cell (i := 3) rfl
      have t4 := kt.out.cell (i := 4) rfl
      have t5 := kt.out.cell (i := 5) rfl
      have t6 := kt.out.cell (i := 6) rfl
      have t7 := kt.out.cell (i := 7) rfl
      have t8 := kt.out.cell (i := 8) rfl
      go_upto_region 6 with fail
      have hbg := Lib.hid ((Below.refl Vt.heap.size Vf).alloc BV.out.size (.cells #[.int .i64 y, .int .i64 ty, .int .i64 uy] 50))
      replace BV := Lib.hid (BV.out.trans hbg.out)
      clear hbg
      have hbg := below_new1 Vf (.cells #[.int .i64 y, .int .i64 ty, .int .i64 uy] 50)
      replace kt := Lib.hid (kt.out.keep hbg)
      replace kf := Lib.hid (kf.out.keep hbg)
      replace OW := Lib.hid (OW.out.keep hbg)
      have zg : (Vf.alloc (.cells #[.int .i64 y, .int .i64 ty, .int .i64 uy] 50)).heap.size = Vf.heap.size + 1 := by simp
      replace HB := Lib.hid (HB.out.trans (hbg.mono HB.out.size))
      have kg := Lib.hid (Lok.new Vf 50 #[.int .i64 y, .int .i64 ty, .int .i64 uy])
      clear hbg
      generalize Vf.alloc (.cells #[.int .i64 y, .int .i64 ty, .int .i64 uy] 50) = Vg at *
      clear zg t0 t1 t2 t3 t4 t5 t6 t7 t8
      generalize Vf.heap.size = gg at *
      have f0 := kf.out.cell (i := 0) rfl
      have g0 := kg.out.cell (i := 0) rfl
      go_upto_region 7 with fail
      have hbh := Lib.hid ((Below.refl Vt.heap.size Vg).alloc BV.out.size (.cells #[.int .i64 (min x y), .int .i64 (max x y)] 58))
      replace BV := Lib.hid (BV.out.trans hbh.out)
      clear hbh
      have hbh := below_new1 Vg (.cells #[.int .i64 (min x y), .int .i64 (max x y)] 58)
      replace kt := Lib.hid (kt.out.keep hbh)
      replace kf := Lib.hid (kf.out.keep hbh)
      replace kg := Lib.hid (kg.out.keep hbh)
      replace OW := Lib.hid (OW.out.keep hbh)
      have zh : (Vg.alloc (.cells #[.int .i64 (min x y), .int .i64 (max x y)] 58)).heap.size = Vg.heap.size + 1 := by simp
      replace HB := Lib.hid (HB.out.trans (hbh.mono HB.out.size))
      have kh := Lib.hid (Lok.new Vg 58 #[.int .i64 (min x y), .int .i64 (max x y)])
      clear hbh
      generalize Vg.alloc (.cells #[.int .i64 (min x y), .int .i64 (max x y)] 58) = Vh at *
      clear zh f0 g0
      generalize Vg.heap.size = gh at *
      have f0 := kf.out.cell (i := 0) rfl
      have g0 := kg.out.cell (i := 0) rfl
      have h0 := kh.out.cell (i := 0) rfl
      have h1 := kh.out.cell (i := 1) rfl
      by_cases e : x = y
      · have ne : (x != y) = false := by rw [bne_eq_false_iff_eq]; exact e
        have E := Lib.hid (hL1.out.trans (sdA_same e))
        have ee := Lib.hid e
        clear e
        go_wp2
        go_roundw
        case rel => exact ⟨.inr (.inl ⟨by go_num, by rw [E.out]; exact OW.out⟩), BV.out⟩
        case measure => simp [intOf]
      · have ne : (x != y) = true := by rw [bne_iff_ne]; exact e
        obtain ⟨aL, cL, rfl, hn1, hn2, hn3, hR⟩ := rowP_of_own OW.out
        have C := Lib.hid (contains_any aL _ cL _ (min x y) (max x y) Vh hR (by first | omega | (simp only [List.length_nil]; omega)))
        clear hn1 hn2 hn3 hR
        by_cases hc : (min x y, max x y) ∈ L0
        · have hd : decide ((min x y, max x y) ∈ L0) = true := decide_eq_true hc
          have E := Lib.hid (hL1.out.trans (sdA_there hc))
          rw [hd] at C
          clear hc hd
          go_wp2_with fail
          ((with_reducible refine C.out.mono ?_); rintro e' w5 ⟨rfl, hb5⟩)
          replace BV := Lib.hid (BV.out.trans (hb5.mono BV.out.size))
          replace OW := Lib.hid (OW.out.keep hb5)
          clear hb5 C
          go_wp2
          go_roundw
          case rel => exact ⟨.inr (.inl ⟨by go_num, by rw [E.out]; exact OW.out⟩), BV.out⟩
          case measure => simp [intOf]
        · have hd : decide ((min x y, max x y) ∈ L0) = false := decide_eq_false hc
          have E := Lib.hid (hL1.out.trans (sdA_yes e hc))
          rw [hd] at C
          clear hc hd
          have ee := Lib.hid e
          clear e f0 g0 h0 h1
          have f0 := kf.out.cell (i := 0) rfl
          have g0 := kg.out.cell (i := 0) rfl
          have h0 := kh.out.cell (i := 0) rfl
          have h1 := kh.out.cell (i := 1) rfl
          go_wp2_with fail
          ((with_reducible refine C.out.mono ?_); rintro e' w5 ⟨rfl, hb5⟩)
          replace BV := Lib.hid (BV.out.trans (hb5.mono BV.out.size))
          replace HB := Lib.hid (HB0.out.trans (BV.out.mono HB0.out.size))
          replace OW := Lib.hid (OW.out.keep hb5)
          replace kh := Lib.hid (kh.out.keep hb5)
          clear hb5 C f0 g0 h0 h1
          generalize Value.slice aL (L0).length cL = v3 at OW ⊢
          have h0 := kh.out.cell (i := 0) rfl
          have h1 := kh.out.cell (i := 1) rfl
          have hO := OW.out
          have hbs := BV.out.size
          have q1 : Hid ((L0.length + 1) * 16 ≤ 140737488355328) := Lib.hid (by omega)
          have q2 : Hid (L0.length ≤ 1000000) := Lib.hid (by omega)
          have q3 : Hid (∀ u ∈ [Value.int .i64 (min x y), .int .i64 (max x y)], u.oneCell' = true) := Lib.hid (by intro u hu; simp only [List.mem_cons, List.not_mem_nil, or_false] at hu; rcases hu with rfl | rfl <;> rfl)
          go_wp2_with (at_builtin; refine app_one rfl _ _ 73 58 (.agg #[.int .i64 0, .int .i64 0]) 2 16 Try.underlying73 infoP rfl (by decide) rfl Vt.heap.size v3 L0.length (valsK L0.length 2 (pF L0)) [.int .i64 (min x y), .int .i64 (max x y)] rfl q3.out rfl hO rfl q1.out q2.out hbs ?_)
          intro v6 w6 hO6 hb6
          have O6 : Hid (OwnP w6 Vt.heap.size v6 (L0 ++ [(min x y, max x y)])) := Lib.hid (by unfold OwnP; rw [pF_snoc, List.length_append]; exact hO6)
          have BV6 := Lib.hid (BV.out.trans hb6)
          clear hO6 hb6 hO OW
          go_wp2
          go_roundw
          case rel => exact ⟨.inr (.inl ⟨by go_num, by rw [E.out]; exact O6.out⟩), BV6.out⟩
          case measure => simp [intOf]
    · have OW := Lib.hid hO
      clear hO
      have t0 := kt.out.cell (i := 0) rfl
      have t1 := kt.out.cell (i := 1) rfl
      have t2 := kt.out.cell (i := 2) rfl
      have t3 := kt.out.cell (i := 3) rfl
      have t4 := kt.out.cell (i := 4) rfl
      have t5 := kt.out.cell (i := 5) rfl
      have t6 := kt.out.cell (i := 6) rfl
      have t7 := kt.out.cell (i := 7) rfl
      have t8 := kt.out.cell (i := 8) rfl
      go_upto_region 5 with fail
      have hbf := Lib.hid ((Below.refl Vt.heap.size wr).alloc BV.out.size (.cells #[.int .i64 y, .int .i64 ty, .int .i64 uy] 50))
      replace BV := Lib.hid (BV.out.trans hbf.out)
      clear hbf
      have hbf := below_new1 wr (.cells #[.int .i64 y, .int .i64 ty, .int .i64 uy] 50)
      replace kt := Lib.hid (kt.out.keep hbf)
      replace OW := Lib.hid (OW.out.keep hbf)
      have zf : (wr.alloc (.cells #[.int .i64 y, .int .i64 ty, .int .i64 uy] 50)).heap.size = wr.heap.size + 1 := by simp
      replace HB := Lib.hid (HB.out.trans (hbf.mono HB.out.size))
      have kf := Lib.hid (Lok.new wr 50 #[.int .i64 y, .int .i64 ty, .int .i64 uy])
      clear hbf
      generalize wr.alloc (.cells #[.int .i64 y, .int .i64 ty, .int .i64 uy] 50) = Vf at *
      clear zf t0 t1 t2 t3 t4 t5 t6 t7 t8
      generalize wr.heap.size = gf at *
      have t0 := kt.out.cell (i := 0) rfl
      have t1 := kt.out.cell (i := 1) rfl
      have t2 := kt.out.cell (i := 2) rfl
      have t3 := kt.out.cell (i := 3) rfl
      have t4 := kt.out.cell (i := 4) rfl
      have t5 := kt.out.cell (i := 5) rfl
      have t6 := kt.out.cell (i := 6) rfl
      have t7 := kt.out.cell (i := 7) rfl
      have t8 := kt.out.cell (i := 8) rfl
      go_upto_region 6 with fail
      have hbg := Lib.hid ((Below.refl Vt.heap.size Vf).alloc BV.out.size (.cells #[.int .i64 z, .int .i64 tz, .int .i64 uz] 50))
      replace BV := Lib.hid (BV.out.trans hbg.out)
      clear hbg
      have hbg := below_new1 Vf (.cells #[.int .i64 z, .int .i64 tz, .int .i64 uz] 50)
      replace kt := Lib.hid (kt.out.keep hbg)
      replace kf := Lib.hid (kf.out.keep hbg)
      replace OW := Lib.hid (OW.out.keep hbg)
      have zg : (Vf.alloc (.cells #[.int .i64 z, .int .i64 tz, .int .i64 uz] 50)).heap.size = Vf.heap.size + 1 := by simp
      replace HB := Lib.hid (HB.out.trans (hbg.mono HB.out.size))
      have kg := Lib.hid (Lok.new Vf 50 #[.int .i64 z, .int .i64 tz, .int .i64 uz])
      clear hbg
      generalize Vf.alloc (.cells #[.int .i64 z, .int .i64 tz, .int .i64 uz] 50) = Vg at *
      clear zg t0 t1 t2 t3 t4 t5 t6 t7 t8
      generalize Vf.heap.size = gg at *
      have f0 := kf.out.cell (i := 0) rfl
      have g0 := kg.out.cell (i := 0) rfl
      go_upto_region 7 with fail
      have hbh := Lib.hid ((Below.refl Vt.heap.size Vg).alloc BV.out.size (.cells #[.int .i64 (min y z), .int .i64 (max y z)] 58))
      replace BV := Lib.hid (BV.out.trans hbh.out)
      clear hbh
      have hbh := below_new1 Vg (.cells #[.int .i64 (min y z), .int .i64 (max y z)] 58)
      replace kt := Lib.hid (kt.out.keep hbh)
      replace kf := Lib.hid (kf.out.keep hbh)
      replace kg := Lib.hid (kg.out.keep hbh)
      replace OW := Lib.hid (OW.out.keep hbh)
      have zh : (Vg.alloc (.cells #[.int .i64 (min y z), .int .i64 (max y z)] 58)).heap.size = Vg.heap.size + 1 := by simp
      replace HB := Lib.hid (HB.out.trans (hbh.mono HB.out.size))
      have kh := Lib.hid (Lok.new Vg 58 #[.int .i64 (min y z), .int .i64 (max y z)])
      clear hbh
      generalize Vg.alloc (.cells #[.int .i64 (min y z), .int .i64 (max y z)] 58) = Vh at *
      clear zh f0 g0
      generalize Vg.heap.size = gh at *
      have f0 := kf.out.cell (i := 0) rfl
      have g0 := kg.out.cell (i := 0) rfl
      have h0 := kh.out.cell (i := 0) rfl
      have h1 := kh.out.cell (i := 1) rfl
      by_cases e : y = z
      · have ne : (y != z) = false := by rw [bne_eq_false_iff_eq]; exact e
        have E := Lib.hid (hL2.out.trans (sdA_same e))
        have ee := Lib.hid e
        clear e
        go_wp2
        go_roundw
        case rel => exact ⟨.inr (.inr (.inl ⟨by go_num, by rw [E.out]; exact OW.out⟩)), BV.out⟩
        case measure => simp [intOf]
      · have ne : (y != z) = true := by rw [bne_iff_ne]; exact e
        obtain ⟨aL, cL, rfl, hn1, hn2, hn3, hR⟩ := rowP_of_own OW.out
        have C := Lib.hid (contains_any aL _ cL _ (min y z) (max y z) Vh hR (by first | omega | (simp only [List.length_nil]; omega)))
        clear hn1 hn2 hn3 hR
        by_cases hc : (min y z, max y z) ∈ L1
        · have hd : decide ((min y z, max y z) ∈ L1) = true := decide_eq_true hc
          have E := Lib.hid (hL2.out.trans (sdA_there hc))
          rw [hd] at C
          clear hc hd
          go_wp2_with fail
          ((with_reducible refine C.out.mono ?_); rintro e' w5 ⟨rfl, hb5⟩)
          replace BV := Lib.hid (BV.out.trans (hb5.mono BV.out.size))
          replace OW := Lib.hid (OW.out.keep hb5)
          clear hb5 C
          go_wp2
          go_roundw
          case rel => exact ⟨.inr (.inr (.inl ⟨by go_num, by rw [E.out]; exact OW.out⟩)), BV.out⟩
          case measure => simp [intOf]
        · have hd : decide ((min y z, max y z) ∈ L1) = false := decide_eq_false hc
          have E := Lib.hid (hL2.out.trans (sdA_yes e hc))
          rw [hd] at C
          clear hc hd
          have ee := Lib.hid e
          clear e f0 g0 h0 h1
          have f0 := kf.out.cell (i := 0) rfl
          have g0 := kg.out.cell (i := 0) rfl
          have h0 := kh.out.cell (i := 0) rfl
          have h1 := kh.out.cell (i := 1) rfl
          go_wp2_with fail
          ((with_reducible refine C.out.mono ?_); rintro e' w5 ⟨rfl, hb5⟩)
          replace BV := Lib.hid (BV.out.trans (hb5.mono BV.out.size))
          replace HB := Lib.hid (HB0.out.trans (BV.out.mono HB0.out.size))
          replace OW := Lib.hid (OW.out.keep hb5)
          replace kh := Lib.hid (kh.out.keep hb5)
          clear hb5 C f0 g0 h0 h1
          generalize Value.slice aL (L1).length cL = v3 at OW ⊢
          have h0 := kh.out.cell (i := 0) rfl
          have h1 := kh.out.cell (i := 1) rfl
          have hO := OW.out
          have hbs := BV.out.size
          have q1 : Hid ((L1.length + 1) * 16 ≤ 140737488355328) := Lib.hid (by omega)
          have q2 : Hid (L1.length ≤ 1000000) := Lib.hid (by omega)
          have q3 : Hid (∀ u ∈ [Value.int .i64 (min y z), .int .i64 (max y z)], u.oneCell' = true) := Lib.hid (by intro u hu; simp only [List.mem_cons, List.not_mem_nil, or_false] at hu; rcases hu with rfl | rfl <;> rfl)
          go_wp2_with (at_builtin; refine app_one rfl _ _ 73 58 (.agg #[.int .i64 0, .int .i64 0]) 2 16 Try.underlying73 infoP rfl (by decide) rfl Vt.heap.size v3 L1.length (valsK L1.length 2 (pF L1)) [.int .i64 (min y z), .int .i64 (max y z)] rfl q3.out rfl hO rfl q1.out q2.out hbs ?_)
          intro v6 w6 hO6 hb6
          have O6 : Hid (OwnP w6 Vt.heap.size v6 (L1 ++ [(min y z, max y z)])) := Lib.hid (by unfold OwnP; rw [pF_snoc, List.length_append]; exact hO6)
          have BV6 := Lib.hid (BV.out.trans hb6)
          clear hO6 hb6 hO OW
          go_wp2
          go_roundw
          case rel => exact ⟨.inr (.inr (.inl ⟨by go_num, by rw [E.out]; exact O6.out⟩)), BV6.out⟩
          case measure => simp [intOf]
    · have OW := Lib.hid hO
      clear hO
      have t0 := kt.out.cell (i := 0) rfl
      have t1 := kt.out.cell (i := 1) rfl
      have t2 := kt.out.cell (i := 2) rfl
      have t3 := kt.out.cell (i := 3) rfl
      have t4 := kt.out.cell (i := 4) rfl
      have t5 := kt.out.cell (i := 5) rfl
      have t6 := kt.out.cell (i := 6) rfl
      have t7 := kt.out.cell (i := 7) rfl
      have t8 := kt.out.cell (i := 8) rfl
      go_upto_region 5 with fail
      have hbf := Lib.hid ((Below.refl Vt.heap.size wr).alloc BV.out.size (.cells #[.int .i64 z, .int .i64 tz, .int .i64 uz] 50))
      replace BV := Lib.hid (BV.out.trans hbf.out)
      clear hbf
      have hbf := below_new1 wr (.cells #[.int .i64 z, .int .i64 tz, .int .i64 uz] 50)
      replace kt := Lib.hid (kt.out.keep hbf)
      replace OW := Lib.hid (OW.out.keep hbf)
      have zf : (wr.alloc (.cells #[.int .i64 z, .int .i64 tz, .int .i64 uz] 50)).heap.size = wr.heap.size + 1 := by simp
      replace HB := Lib.hid (HB.out.trans (hbf.mono HB.out.size))
      have kf := Lib.hid (Lok.new wr 50 #[.int .i64 z, .int .i64 tz, .int .i64 uz])
      clear hbf
      generalize wr.alloc (.cells #[.int .i64 z, .int .i64 tz, .int .i64 uz] 50) = Vf at *
      clear zf t0 t1 t2 t3 t4 t5 t6 t7 t8
      generalize wr.heap.size = gf at *
      have t0 := kt.out.cell (i := 0) rfl
      have t1 := kt.out.cell (i := 1) rfl
      have t2 := kt.out.cell (i := 2) rfl
      have t3 := kt.out.cell (i := 3) rfl
      have t4 := kt.out.cell (i := 4) rfl
      have t5 := kt.out.cell (i := 5) rfl
      have t6 := kt.out.cell (i := 6) rfl
      have t7 := kt.out.cell (i := 7) rfl
      have t8 := kt.out.cell (i := 8) rfl
      go_upto_region 6 with fail
      have hbg := Lib.hid ((Below.refl Vt.heap.size Vf).alloc BV.out.size (.cells #[.int .i64 x, .int .i64 tx, .int .i64 ux] 50))
      replace BV := Lib.hid (BV.out.trans hbg.out)
      clear hbg
      have hbg := below_new1 Vf (.cells #[.int .i64 x, .int .i64 tx, .int .i64 ux] 50)
      replace kt := Lib.hid (kt.out.keep hbg)
      replace kf := Lib.hid (kf.out.keep hbg)
      replace OW := Lib.hid (OW.out.keep hbg)
      have zg : (Vf.alloc (.cells #[.int .i64 x, .int .i64 tx, .int .i64 ux] 50)).heap.size = Vf.heap.size + 1 := by simp
      replace HB := Lib.hid (HB.out.trans (hbg.mono HB.out.size))
      have kg := Lib.hid (Lok.new Vf 50 #[.int .i64 x, .int .i64 tx, .int .i64 ux])
      clear hbg
      generalize Vf.alloc (.cells #[.int .i64 x, .int .i64 tx, .int .i64 ux] 50) = Vg at *
      clear zg t0 t1 t2 t3 t4 t5 t6 t7 t8
      generalize Vf.heap.size = gg at *
      have f0 := kf.out.cell (i := 0) rfl
      have g0 := kg.out.cell (i := 0) rfl
      go_upto_region 7 with fail
      have hbh := Lib.hid ((Below.refl Vt.heap.size Vg).alloc BV.out.size (.cells #[.int .i64 (min z x), .int .i64 (max z x)] 58))
      replace BV := Lib.hid (BV.out.trans hbh.out)
      clear hbh
      have hbh := below_new1 Vg (.cells #[.int .i64 (min z x), .int .i64 (max z x)] 58)
      replace kt := Lib.hid (kt.out.keep hbh)
      replace kf := Lib.hid (kf.out.keep hbh)
      replace kg := Lib.hid (kg.out.keep hbh)
      replace OW := Lib.hid (OW.out.keep hbh)
      have zh : (Vg.alloc (.cells #[.int .i64 (min z x), .int .i64 (max z x)] 58)).heap.size = Vg.heap.size + 1 := by simp
      replace HB := Lib.hid (HB.out.trans (hbh.mono HB.out.size))
      have kh := Lib.hid (Lok.new Vg 58 #[.int .i64 (min z x), .int .i64 (max z x)])
      clear hbh
      generalize Vg.alloc (.cells #[.int .i64 (min z x), .int .i64 (max z x)] 58) = Vh at *
      clear zh f0 g0
      generalize Vg.heap.size = gh at *
      have f0 := kf.out.cell (i := 0) rfl
      have g0 := kg.out.cell (i := 0) rfl
      have h0 := kh.out.cell (i := 0) rfl
      have h1 := kh.out.cell (i := 1) rfl
      by_cases e : z = x
      · have ne : (z != x) = false := by rw [bne_eq_false_iff_eq]; exact e
        have E := Lib.hid (hL3.out.trans (sdA_same e))
        have ee := Lib.hid e
        clear e
        go_wp2
        go_roundw
        case rel => exact ⟨.inr (.inr (.inr ⟨by go_num, by rw [E.out]; exact OW.out⟩)), BV.out⟩
        case measure => simp [intOf]
      · have ne : (z != x) = true := by rw [bne_iff_ne]; exact e
        obtain ⟨aL, cL, rfl, hn1, hn2, hn3, hR⟩ := rowP_of_own OW.out
        have C := Lib.hid (contains_any aL _ cL _ (min z x) (max z x) Vh hR (by first | omega | (simp only [List.length_nil]; omega)))
        clear hn1 hn2 hn3 hR
        by_cases hc : (min z x, max z x) ∈ L2
        · have hd : decide ((min z x, max z x) ∈ L2) = true := decide_eq_true hc
          have E := Lib.hid (hL3.out.trans (sdA_there hc))
          rw [hd] at C
          clear hc hd
          go_wp2_with fail
          ((with_reducible refine C.out.mono ?_); rintro e' w5 ⟨rfl, hb5⟩)
          replace BV := Lib.hid (BV.out.trans (hb5.mono BV.out.size))
          replace OW := Lib.hid (OW.out.keep hb5)
          clear hb5 C
          go_wp2
          go_roundw
          case rel => exact ⟨.inr (.inr (.inr ⟨by go_num, by rw [E.out]; exact OW.out⟩)), BV.out⟩
          case measure => simp [intOf]
        · have hd : decide ((min z x, max z x) ∈ L2) = false := decide_eq_false hc
          have E := Lib.hid (hL3.out.trans (sdA_yes e hc))
          rw [hd] at C
          clear hc hd
          have ee := Lib.hid e
          clear e f0 g0 h0 h1
          have f0 := kf.out.cell (i := 0) rfl
          have g0 := kg.out.cell (i := 0) rfl
          have h0 := kh.out.cell (i := 0) rfl
          have h1 := kh.out.cell (i := 1) rfl
          go_wp2_with fail
          ((with_reducible refine C.out.mono ?_); rintro e' w5 ⟨rfl, hb5⟩)
          replace BV := Lib.hid (BV.out.trans (hb5.mono BV.out.size))
          replace HB := Lib.hid (HB0.out.trans (BV.out.mono HB0.out.size))
          replace OW := Lib.hid (OW.out.keep hb5)
          replace kh := Lib.hid (kh.out.keep hb5)
          clear hb5 C f0 g0 h0 h1
          generalize Value.slice aL (L2).length cL = v3 at OW ⊢
          have h0 := kh.out.cell (i := 0) rfl
          have h1 := kh.out.cell (i := 1) rfl
          have hO := OW.out
          have hbs := BV.out.size
          have q1 : Hid ((L2.length + 1) * 16 ≤ 140737488355328) := Lib.hid (by omega)
          have q2 : Hid (L2.length ≤ 1000000) := Lib.hid (by omega)
          have q3 : Hid (∀ u ∈ [Value.int .i64 (min z x), .int .i64 (max z x)], u.oneCell' = true) := Lib.hid (by intro u hu; simp only [List.mem_cons, List.not_mem_nil, or_false] at hu; rcases hu with rfl | rfl <;> rfl)
          go_wp2_with (at_builtin; refine app_one rfl _ _ 73 58 (.agg #[.int .i64 0, .int .i64 0]) 2 16 Try.underlying73 infoP rfl (by decide) rfl Vt.heap.size v3 L2.length (valsK L2.length 2 (pF L2)) [.int .i64 (min z x), .int .i64 (max z x)] rfl q3.out rfl hO rfl q1.out q2.out hbs ?_)
          intro v6 w6 hO6 hb6
          have O6 : Hid (OwnP w6 Vt.heap.size v6 (L2 ++ [(min z x, max z x)])) := Lib.hid (by unfold OwnP; rw [pF_snoc, List.length_append]; exact hO6)
          have BV6 := Lib.hid (BV.out.trans hb6)
          clear hO6 hb6 hO OW
          go_wp2
          go_roundw
          case rel => exact ⟨.inr (.inr (.inr ⟨by go_num, by rw [E.out]; exact O6.out⟩)), BV6.out⟩
          case measure => simp [intOf]
    · go_wp2
      go_ret
      exact ⟨⟨_, rfl, by rw [E3.out]; exact ownR_mono hO (Nat.le_of_lt htl)⟩, HB.out⟩
end Go.Proofs.Ytkheomaihhcokaa
/-
  A map of rows of ints by two places, that the call has made: each row in a block of its own; looked up, appended to, gone through.
-/
namespace Go.Proofs.Ytkheomaihhcokaa
open Go.RowKit Go.MapKept Go.ChangeMaps

def keyV (a c : Int) : Value := .agg #[.int .i64 a, .int .i64 c]
theorem keyV_inj {a c x y : Int} (h : keyV a c = keyV x y) : a = x ∧ c = y := by
  unfold keyV at h
  simp only [Value.agg.injEq, Array.mk.injEq, List.cons.injEq, Value.int.injEq, true_and, and_true] at h
  exact h
def okK (a c : Int) : Prop := (0 ≤ a ∧ a < 2000) ∧ 0 ≤ c ∧ c < 2000
set_option maxRecDepth 100000 in
theorem keyLaw : WideMaps.KeyLaw Try.prog 58 := deep_law_laid (m := 4) (by kernel_rfl) (by decide) (of_decide_eq_true (show decide (58 < Try.prog.types.size) = true by kernel_rfl)) (by kernel_rfl) (by kernel_rfl)
set_option maxRecDepth 100000 in
theorem key_pair {a c : Int} (w1 : (Lit.int .i64 a).wf = true) (w2 : (Lit.int .i64 c).wf = true) (d : Nat) : Try.prog.keyLits (d + 2) 58 [.int .i64 a, .int .i64 c] = some [.int .i64 a, .int .i64 c] := by
  have c1 : Try.prog.cellsOf 58 = 2 := by kernel_rfl
  have c2 : Try.prog.cellsOf 3 = 1 := by kernel_rfl
  have e : ∀ x, (Lit.int .i64 x).wf = true → Try.prog.keyLits (d + 1) 3 [.int .i64 x] = some [.int .i64 x] := fun x hx => by
    unfold Program.keyLits
    rw [Try.underlying3]
    simp only [hx, and_self, if_true]
  unfold Program.keyLits
  rw [Try.underlying58]
  simp only [c1, c2, List.length_cons, List.length_nil, Nat.zero_add, Nat.reduceAdd, if_true]
  rw [show List.range 2 = [0, 1] from rfl]
  simp only [List.mapM_cons, List.mapM_nil, Nat.zero_mul, Nat.one_mul, List.drop_zero, List.take_succ_cons, List.take_zero, List.drop_succ_cons, e a w1, e c w2]
  rfl
set_option maxRecDepth 100000 in
theorem key_lit {a c : Int} (h : okK a c) : ∃ l, keyOf Try.prog 58 (keyV a c) = some l := by
  obtain ⟨⟨h1, h2⟩, h3, h4⟩ := h
  have w1 : (Lit.int .i64 a).wf = true := WalkArith.wf_i64 (by omega)
  have w2 : (Lit.int .i64 c).wf = true := WalkArith.wf_i64 (by omega)
  have hs : decide (0 < Try.prog.types.size) = true := by kernel_rfl
  have hs := of_decide_eq_true hs
  have k1 : Try.prog.keyType 58 = true := by kernel_rfl
  have c1 : Try.prog.cellsOf 58 = 2 := by kernel_rfl
  have k2 : (keyV a c).formed Try.prog 58 = true := by
    unfold keyV Value.formed
    rw [Try.underlying58, c1]; rfl
  refine ⟨.string (keyBytes [.int .i64 a, .int .i64 c]), ?_⟩
  unfold keyOf
  rw [Try.underlying58]
  simp only [k1, k2, Bool.and_self, if_true]
  rw [show Try.prog.types.size + 1 = (Try.prog.types.size - 1) + 2 from by omega, show (keyV a c).cells.toList = [.int .i64 a, .int .i64 c] from rfl, key_pair w1 w2]
  rfl
theorem finds_born {l : List MapEntry} (hn : (l.map (·.born)).Nodup) {j : Nat} {e0 : MapEntry} (h : l[j]? = some e0) : l.findIdx? (fun e => ((e.born : Nat) : Int) == ((e0.born : Nat) : Int)) = some j := by
  induction l generalizing j with
  | nil => simp at h
  | cons a r ih =>
    simp only [List.map_cons, List.nodup_cons] at hn
    cases j with
    | zero =>
      simp only [List.getElem?_cons_zero, Option.some.injEq] at h
      subst h
      simp [List.findIdx?_cons]
    | succ j =>
      simp only [List.getElem?_cons_succ] at h
      have hne : a.born ≠ e0.born := fun e1 => hn.1 (List.mem_map.2 ⟨e0, List.mem_of_getElem? h, e1.symm⟩)
      have hb : (((a.born : Nat) : Int) == ((e0.born : Nat) : Int)) = false := by
        simp only [beq_eq_false_iff_ne, ne_eq, Int.natCast_inj]
        exact hne
      rw [List.findIdx?_cons, hb]
      simp [ih hn.2 h]
theorem finds_arr (xs : Array MapEntry) (p : MapEntry → Bool) : xs.findIdx? p = xs.toList.findIdx? p := by
  cases xs
  simp
theorem sets_last {α : Type} (f : α → α) (a : α) : ∀ l : List α, (l ++ [a]).modify l.length f = l ++ [f a]
  | [] => rfl
  | b :: r => by simp [List.modify_succ_cons, sets_last f a r]
theorem sets_self {α : Type} : ∀ (l : List α) (j : Nat) (a : α), l[j]? = some a → l.set j a = l
  | [], _, _, h => by simp at h
  | b :: r, 0, a, h => by simp at h; simp [h]
  | b :: r, j + 1, a, h => by simp at h; simp [sets_self r j a h]
/-- A map: whatever S tells at two places is a row of its own, in no block of which N holds; nothing else is in it. -/
def MapG (W : World) (base b : Nat) (N : Nat → Prop) (S : Int → Int → List Int) : Prop :=
  ∃ es clock, W.heap[b]? = some (.map es clock) ∧ Stamped es clock ∧ b < base ∧
    (∀ e ∈ es.toList, ∃ a c : Int, e.key = keyV a c ∧ okK a c ∧ S a c ≠ [] ∧ OwnI W base e.val (S a c)) ∧
    (∀ a c, S a c ≠ [] → ∃ e ∈ es.toList, e.key = keyV a c) ∧
    (∀ x ∈ es.toList, ∀ y ∈ es.toList, x.key ≠ y.key → ∀ g, x.val.ownBlock = some g → y.val.ownBlock ≠ some g) ∧ ∀ x ∈ es.toList, ∀ g, x.val.ownBlock = some g → ¬ N g
theorem MapG.ban {W : World} {base b : Nat} {N N' : Nat → Prop} {S : Int → Int → List Int} (h : MapG W base b N S) (k : ∀ g, N' g → W.heap.size ≤ g) : MapG W base b N' S := by
  obtain ⟨es, clock, h1, h2, h3, h4, h5, h6, _⟩ := h
  refine ⟨es, clock, h1, h2, h3, h4, h5, h6, fun x hx g hg hn => ?_⟩
  obtain ⟨_, _, _, _, _, o⟩ := h4 x hx
  have := (World.ownsRow.lt o _ hg).2
  have := k g hn
  omega
theorem MapG.free {W : World} {base b : Nat} {N : Nat → Prop} {S : Int → Int → List Int} (h : MapG W base b N S) : MapG W base b (fun _ => False) S := h.ban (fun _ q => q.elim)
theorem MapG.lt {W : World} {base b : Nat} {N : Nat → Prop} {S : Int → Int → List Int} (h : MapG W base b N S) : b < W.heap.size ∧ b < base := by
  obtain ⟨es, clock, h1, _, h3, _⟩ := h
  exact ⟨(Array.getElem?_eq_some_iff.1 h1).1, h3⟩
theorem MapG.keep {W W' : World} {base b : Nat} {N : Nat → Prop} {S : Int → Int → List Int} (h : MapG W base b N S) (hb : Below W.heap.size W W') : MapG W' base b N S := by
  obtain ⟨es, clock, h1, h2, h3, h4, h5, h6, h7⟩ := h
  refine ⟨es, clock, (hb.block b (Array.getElem?_eq_some_iff.1 h1).1).trans h1, h2, h3, fun e he => ?_, h5, h6, h7⟩
  obtain ⟨a, c, q1, q2, q3, q4⟩ := h4 e he
  exact ⟨a, c, q1, q2, q3, q4.keep hb⟩
theorem MapG.made (W : World) : MapG (W.alloc (.map #[] 0)) (W.heap.size + 1) W.heap.size (fun _ => False) (fun _ _ => []) :=
  ⟨#[], 0, (heap_alloc W _).1, stamped_empty 0, Nat.lt_succ_self _, by simp, by simp, by simp, by simp⟩
/-- What is at two places. -/
theorem MapG.look {W : World} {base b : Nat} {N : Nat → Prop} {S : Int → Int → List Int} {a c : Int} (h : MapG W base b N S) (k : okK a c) :
    ∃ v, (Instr.lookup 55 (.map (some b)) (keyV a c) false).run Try.prog W = .ok v W ∧ OwnI W base v (S a c) := by
  obtain ⟨es, clock, h1, h2, h3, h4, h5, h6, -⟩ := h
  obtain ⟨l, hl⟩ := key_lit k
  have hk : ∀ e ∈ es.toList, ∃ l, keyOf Try.prog 58 e.key = some l := fun e he => by
    obtain ⟨x, y, q1, q2, _⟩ := h4 e he
    rw [q1]; exact key_lit q2
  have hz : ∀ w : World, (zeroValue 34).run Try.prog w = .ok (.slice none 0 0) w := fun w => by kernel_rfl
  rcases keyLaw.find W hl es.toList hk with ⟨f1, f2⟩ | ⟨j, e0, f1, f2, f3⟩
  · refine ⟨.slice none 0 0, ?_, ?_⟩
    · simp [Instr.lookup, run_underlying Try.underlying55, MapKept.run_getObj_map h1, keyLaw.check W _ hl, f1, hz, Result.andThen]
    · have e : S a c = [] := by
        apply Classical.byContradiction
        intro ne
        obtain ⟨e, he, ek⟩ := h5 a c ne
        exact f2 e he ek
      rw [e]; exact OwnI.nil W base
  · have he := List.mem_of_getElem? f2
    obtain ⟨x, y, q1, q2, q3, q4⟩ := h4 e0 he
    obtain ⟨rfl, rfl⟩ := keyV_inj (q1.symm.trans f3)
    refine ⟨e0.val, ?_, q4⟩
    simp [Instr.lookup, run_underlying Try.underlying55, MapKept.run_getObj_map h1, keyLaw.check W _ hl, f1, Result.andThen]
/-- What S tells, but for two places. -/
def upS (S : Int → Int → List Int) (a c : Int) (L : List Int) : Int → Int → List Int := fun x y => if x = a ∧ y = c then L else S x y
theorem upS_same (S : Int → Int → List Int) (a c : Int) (L : List Int) : upS S a c L a c = L := by unfold upS; rw [if_pos ⟨rfl, rfl⟩]
theorem upS_other {S : Int → Int → List Int} {a c x y : Int} {L : List Int} (h : ¬ (x = a ∧ y = c)) : upS S a c L x y = S x y := by unfold upS; rw [if_neg h]
theorem setB_grown {W : World} {b : Nat} {es : Array MapEntry} {clock : Nat} (h : W.heap[b]? = some (.map es clock)) (es' : Array MapEntry) (clock' : Nat) : W.grownBy (setBlock W b (.map es' clock')) (some b) :=
  ⟨rfl, rfl, rfl, by simp [setBlock], fun i _ hi => heap_setBlock_other h _ (fun e => hi (by rw [e]))⟩
theorem ownI_grown {W W' : World} {base : Nat} {row : Option Nat} {v : Value} {L : List Int} (h : OwnI W base v L) (hg : W.grownBy W' row) (hne : ∀ g, v.ownBlock = some g → row ≠ some g) : OwnI W' base v L :=
  World.ownsRow.kept h hg (by
    cases e : v.ownBlock with
    | none => exact .inl rfl
    | some g => exact .inr (fun q => hne g e q.symm))
/-- The row at two places is to be another one: what is handed out, and the way back. -/
theorem MapG.entry {W : World} {base b : Nat} {N : Nat → Prop} {S : Int → Int → List Int} {a c : Int} (h : MapG W base b N S) (k : okK a c) (hN : ∀ g, N g → g < W.heap.size) :
    ∃ v st W1, (Instr.mapEntry 55 (.map (some b)) (keyV a c)).run Try.prog W = .ok (.tuple #[v, .int .i64 st]) W1 ∧ OwnI W1 base v (S a c) ∧ W.grownBy W1 (some b) ∧ W1.heap.size = W.heap.size ∧ (∀ g, v.ownBlock = some g → ¬ N g) ∧
      ∀ (W2 : World) (v' : Value) (L : List Int), W1.grownBy W2 v.ownBlock → OwnI W2 base v' L → L ≠ [] → (v'.ownBlock = v.ownBlock ∨ ∃ g, v'.ownBlock = some g ∧ W1.heap.size ≤ g) →
        ∃ W3, (Instr.entryStore 55 (.map (some b)) (.int .i64 st) v').run Try.prog W2 = .ok () W3 ∧ MapG W3 base b N (upS S a c L) ∧ W2.grownBy W3 (some b) := by
  obtain ⟨es, clock, h1, ⟨s1, s2, s3⟩, h3, h4, h5, h6, h7⟩ := h
  obtain ⟨l, hl⟩ := key_lit k
  have hk : ∀ e ∈ es.toList, ∃ l, keyOf Try.prog 58 e.key = some l := fun e he => by
    obtain ⟨x, y, q1, q2, _⟩ := h4 e he
    rw [q1]; exact key_lit q2
  have hblt : b < W.heap.size := (Array.getElem?_eq_some_iff.1 h1).1
  have hz : ∀ w : World, (zeroValue 34).run Try.prog w = .ok (.slice none 0 0) w := fun w => by kernel_rfl
  have own_ne : ∀ {w : World} {u : Value} {ys : List Int}, OwnI w base u ys → ∀ g, u.ownBlock = some g → some b ≠ some g := fun {w u ys} ho g hg e => by
    have := (World.ownsRow.lt ho g hg).1
    cases e; omega
  rcases keyLaw.find W hl es.toList hk with ⟨f1, f2⟩ | ⟨j, e0, f1, f2, f3⟩
  · have hS : S a c = [] := by
      apply Classical.byContradiction
      intro ne
      obtain ⟨e, he, ek⟩ := h5 a c ne
      exact f2 e he ek
    refine ⟨.slice none 0 0, clock, setBlock W b (.map (es.push ⟨keyV a c, .slice none 0 0, clock⟩) (clock + 1)), ?_, by rw [hS]; exact OwnI.nil _ _, setB_grown h1 _ _, by simp [setBlock], (fun g hg => by cases hg), ?_⟩
    · simp [Instr.mapEntry, run_underlying Try.underlying55, MapKept.run_getObj_map h1, keyLaw.check W false hl, f1, hz, MapKept.run_setObj_map _ h1, Result.andThen, setBlock, goInt]
    · intro W2 v' L hg ho hL hloc
      have g1 := setB_grown h1 (es.push ⟨keyV a c, .slice none 0 0, clock⟩) (clock + 1)
      have hb2 : W2.heap[b]? = some (.map (es.push ⟨keyV a c, .slice none 0 0, clock⟩) (clock + 1)) := (hg.block b (Nat.lt_of_lt_of_le hblt g1.size) (by intro e; cases e)).trans (heap_setBlock_same h1 _)
      have hidx : (es.push ⟨keyV a c, .slice none 0 0, clock⟩).findIdx? (fun e => ((e.born : Nat) : Int) == ((clock : Nat) : Int)) = some es.size := by
        rw [finds_arr]
        have := finds_born (l := (es.push ⟨keyV a c, .slice none 0 0, clock⟩).toList) (j := es.size) (e0 := ⟨keyV a c, .slice none 0 0, clock⟩) (by
          simp only [Array.toList_push, List.map_append, List.map_cons, List.map_nil]
          refine List.nodup_append.2 ⟨s2, by simp, fun x hx y hy e1 => ?_⟩
          simp only [List.mem_singleton] at hy
          obtain ⟨z, hz, rfl⟩ := List.mem_map.1 hx
          have := s1 z hz
          omega) (by simp)
        exact this
      have hmod : (es.push ⟨keyV a c, .slice none 0 0, clock⟩).modify es.size (fun e => { e with val := v' }) = es.push ⟨keyV a c, v', clock⟩ := by
        apply Array.ext'
        rw [Array.toList_modify, Array.toList_push, Array.toList_push, ← Array.length_toList, sets_last]
      have g3 := setB_grown hb2 (es.push ⟨keyV a c, v', clock⟩) (clock + 1)
      refine ⟨setBlock W2 b (.map (es.push ⟨keyV a c, v', clock⟩) (clock + 1)), ?_, ?_, g3⟩
      · simp [Instr.entryStore, MapKept.run_getObj_map hb2, asInt, asIntOf, hidx, hmod, MapKept.run_setObj_map _ hb2, Result.andThen, setBlock]
      · have keeps : ∀ {u : Value} {ys : List Int}, OwnI W base u ys → OwnI (setBlock W2 b (.map (es.push ⟨keyV a c, v', clock⟩) (clock + 1))) base u ys := fun {u ys} q =>
          ownI_grown (ownI_grown (ownI_grown q g1 (own_ne q)) hg (fun g _ e => by cases e)) g3 (own_ne q)
        have apart : ∀ x ∈ es.toList, ∀ g, x.val.ownBlock = some g → v'.ownBlock ≠ some g := fun x hx g hxg e => by
          rcases hloc with z | ⟨q, z1, z2⟩
          · rw [z] at e; cases e
          · rw [z1] at e; cases e
            obtain ⟨_, _, _, _, _, o⟩ := h4 x hx
            have := (World.ownsRow.lt o _ hxg).2
            simp [setBlock] at z2
            omega
        have nv : ∀ g, v'.ownBlock = some g → ¬ N g := fun g e hn => by
          rcases hloc with z | ⟨q, z1, z2⟩
          · rw [z] at e; cases e
          · rw [z1] at e; cases e
            have := hN _ hn
            simp [setBlock] at z2
            omega
        refine ⟨es.push ⟨keyV a c, v', clock⟩, clock + 1, heap_setBlock_same hb2 _, stamped_push ⟨s1, s2, s3⟩ (fun x hx => f2 x hx), h3, ?_, ?_, ?_, ?_⟩
        · intro e he
          rw [Array.toList_push, List.mem_append, List.mem_singleton] at he
          rcases he with he | rfl
          · obtain ⟨x, y, q1, q2, q3, q4⟩ := h4 e he
            have ne : ¬ (x = a ∧ y = c) := fun q => f2 e he (by rw [q1, q.1, q.2])
            exact ⟨x, y, q1, q2, by rw [upS_other ne]; exact q3, by rw [upS_other ne]; exact keeps q4⟩
          · exact ⟨a, c, rfl, k, by rw [upS_same]; exact hL, by rw [upS_same]; exact ownI_grown ho g3 (own_ne ho)⟩
        · intro x y ne
          by_cases q : x = a ∧ y = c
          · exact ⟨⟨keyV a c, v', clock⟩, by simp, by rw [q.1, q.2]⟩
          · rw [upS_other q] at ne
            obtain ⟨e, he, ek⟩ := h5 x y ne
            exact ⟨e, by simp only [Array.toList_push, List.mem_append]; exact .inl he, ek⟩
        · intro x hx y hy ne g hxg
          rw [Array.toList_push, List.mem_append, List.mem_singleton] at hx hy
          rcases hx with hx | rfl <;> rcases hy with hy | rfl
          · exact h6 x hx y hy ne g hxg
          · exact apart x hx g hxg
          · exact fun e => apart y hy g e hxg
          · exact absurd rfl ne
        · intro x hx
          rw [Array.toList_push, List.mem_append, List.mem_singleton] at hx
          rcases hx with hx | rfl
          · exact h7 x hx
          · exact nv
  · have he0 := List.mem_of_getElem? f2
    obtain ⟨x0, y0, p1, p2, p3, p4⟩ := h4 e0 he0
    obtain ⟨rfl, rfl⟩ := keyV_inj (p1.symm.trans f3)
    have hj : es[j]? = some e0 := by simpa using f2
    have hsame : es.modify j (fun e => { e with key := keyV x0 y0 }) = es := by
      apply Array.ext'
      rw [Array.toList_modify, modify_eq_set _ _ _ _ f2]
      have : ({ e0 with key := keyV x0 y0 } : MapEntry) = e0 := by rw [← f3]
      rw [this]
      exact sets_self _ _ _ f2
    have g1 := setB_grown h1 es clock
    refine ⟨e0.val, e0.born, setBlock W b (.map es clock), ?_, ownI_grown p4 g1 (own_ne p4), g1, by simp [setBlock], h7 e0 he0, ?_⟩
    · simp [Instr.mapEntry, run_underlying Try.underlying55, MapKept.run_getObj_map h1, keyLaw.check W false hl, f1, hj, f3, keyLaw.stays W hl, hsame, MapKept.run_setObj_map _ h1, Result.andThen, setBlock, goInt]
    · intro W2 v' L hg ho hL hloc
      have hb2 : W2.heap[b]? = some (.map es clock) := (hg.block b (Nat.lt_of_lt_of_le hblt g1.size) (fun e => own_ne p4 b e.symm rfl)).trans (heap_setBlock_same h1 _)
      have hidx : es.findIdx? (fun e => ((e.born : Nat) : Int) == ((e0.born : Nat) : Int)) = some j := by
        rw [finds_arr]
        exact finds_born s2 f2
      have hmod : (es.modify j (fun e => { e with val := v' })).toList = es.toList.set j { e0 with val := v' } := by
        rw [Array.toList_modify, modify_eq_set _ _ _ _ f2]
      have g3 := setB_grown hb2 (es.modify j (fun e => { e with val := v' })) clock
      refine ⟨setBlock W2 b (.map (es.modify j (fun e => { e with val := v' })) clock), ?_, ?_, g3⟩
      · simp [Instr.entryStore, MapKept.run_getObj_map hb2, asInt, asIntOf, hidx, MapKept.run_setObj_map _ hb2, Result.andThen, setBlock]
      · have one : ∀ x ∈ es.toList, x.key = keyV x0 y0 → x = e0 := fun x hx ek => entry_eq_of_key ((stamped_iff es clock).1 ⟨s1, s2, s3⟩).2.2 hx he0 (ek.trans f3.symm)
        have parts : ∀ x ∈ (es.modify j (fun e => { e with val := v' })).toList, x = { e0 with val := v' } ∨ x ∈ es.toList ∧ x.key ≠ keyV x0 y0 := fun x hx => by
          rw [hmod] at hx
          obtain ⟨i, hi, rfl⟩ := List.mem_iff_getElem.1 hx
          by_cases q : j = i
          · left; subst q; simp
          · right
            have hi' : i < es.toList.length := by simpa using hi
            have e1 : (es.toList.set j { e0 with val := v' })[i] = es.toList[i] := by rw [List.getElem_set_ne q]
            rw [e1]
            refine ⟨List.getElem_mem _, fun ek => q ?_⟩
            obtain ⟨hj', ej⟩ := List.getElem?_eq_some_iff.1 f2
            have : es.toList[i] = es.toList[j] := (one _ (List.getElem_mem _) ek).trans ej.symm
            have b1 : (es.toList.map (·.born))[i]'(by simpa using hi') = (es.toList.map (·.born))[j]'(by simpa using hj') := by simp [this]
            exact ((List.getElem_inj s2).1 b1).symm
        have keeps : ∀ x ∈ es.toList, x.key ≠ keyV x0 y0 → ∀ {ys : List Int}, OwnI W base x.val ys → OwnI (setBlock W2 b (.map (es.modify j (fun e => { e with val := v' })) clock)) base x.val ys := fun x hx ne {ys} q =>
          ownI_grown (ownI_grown (ownI_grown q g1 (own_ne q)) hg (fun g hxg => h6 x hx e0 he0 (by rw [f3]; exact ne) g hxg)) g3 (own_ne q)
        have apart : ∀ x ∈ es.toList, x.key ≠ keyV x0 y0 → ∀ g, x.val.ownBlock = some g → v'.ownBlock ≠ some g := fun x hx ne g hxg e => by
          rcases hloc with z | ⟨q, z1, z2⟩
          · rw [z] at e
            exact h6 x hx e0 he0 (by rw [f3]; exact ne) g hxg e
          · rw [z1] at e; cases e
            obtain ⟨_, _, _, _, _, o⟩ := h4 x hx
            have := (World.ownsRow.lt o _ hxg).2
            simp [setBlock] at z2
            omega
        have nv : ∀ g, v'.ownBlock = some g → ¬ N g := fun g e hn => by
          rcases hloc with z | ⟨q, z1, z2⟩
          · rw [z] at e; exact h7 e0 he0 g e hn
          · rw [z1] at e; cases e
            have := hN _ hn
            simp [setBlock] at z2
            omega
        refine ⟨es.modify j (fun e => { e with val := v' }), clock, heap_setBlock_same hb2 _, stamped_modify ⟨s1, s2, s3⟩ j _ (fun _ _ => rfl) (fun _ _ _ => rfl), h3, ?_, ?_, ?_, ?_⟩
        · intro e he
          rcases parts e he with rfl | ⟨he, ne⟩
          · exact ⟨x0, y0, f3, k, by rw [upS_same]; exact hL, by rw [upS_same]; exact ownI_grown ho g3 (own_ne ho)⟩
          · obtain ⟨x, y, q1, q2, q3, q4⟩ := h4 e he
            have ne' : ¬ (x = x0 ∧ y = y0) := fun q => ne (by rw [q1, q.1, q.2])
            exact ⟨x, y, q1, q2, by rw [upS_other ne']; exact q3, by rw [upS_other ne']; exact keeps e he ne q4⟩
        · intro x y ne
          by_cases q : x = x0 ∧ y = y0
          · refine ⟨{ e0 with val := v' }, ?_, by rw [q.1, q.2]; exact f3⟩
            rw [hmod]
            obtain ⟨hj', _⟩ := List.getElem?_eq_some_iff.1 f2
            exact List.mem_iff_getElem.2 ⟨j, by simpa using hj', by simp⟩
          · rw [upS_other q] at ne
            obtain ⟨e, he, ek⟩ := h5 x y ne
            refine ⟨e, ?_, ek⟩
            rw [hmod]
            obtain ⟨i, hi, rfl⟩ := List.mem_iff_getElem.1 he
            refine List.mem_iff_getElem.2 ⟨i, by simpa using hi, ?_⟩
            rw [List.getElem_set_ne]
            rintro rfl
            obtain ⟨hj', ej⟩ := List.getElem?_eq_some_iff.1 f2
            rw [ej, f3] at ek
            exact q (keyV_inj ek.symm)
        · intro x hx y hy ne g hxg
          rcases parts x hx with rfl | ⟨hx, nx⟩ <;> rcases parts y hy with rfl | ⟨hy, ny⟩
          · exact absurd rfl ne
          · exact fun e => apart y hy ny g e hxg
          · exact apart x hx nx g hxg
          · exact h6 x hx y hy ne g hxg
        · intro x hx
          rcases parts x hx with rfl | ⟨hx, nx⟩
          · exact nv
          · exact h7 x hx
def BackG (W1 : World) (base b : Nat) (N : Nat → Prop) (st : Int) (a c : Int) (S : Int → Int → List Int) (v : Value) : Prop :=
  ∀ (W2 : World) (v' : Value) (L : List Int), W1.grownBy W2 v.ownBlock → OwnI W2 base v' L → L ≠ [] → (v'.ownBlock = v.ownBlock ∨ ∃ g, v'.ownBlock = some g ∧ W1.heap.size ≤ g) →
    ∃ W3, (Instr.entryStore 55 (.map (some b)) (.int .i64 st) v').run Try.prog W2 = .ok () W3 ∧ MapG W3 base b N (upS S a c L) ∧ W2.grownBy W3 (some b)
section
variable {w : World} {ops : Array Oper} {rest : List Oper} {o : Oper} {a : Act} {Q : Exit → Act → World → Prop}
theorem wpList_lookG (hg : o.guard = none) (m x : Operand) (hop : o.op = Op.lookup 55 m x false) {base b : Nat} {N : Nat → Prop} {S : Int → Int → List Int} {p q : Int} (hm : a.eval m = .map (some b)) (hx : a.eval x = keyV p q)
    (h : MapG w base b N S) (k : okK p q) (hK : ∀ v, OwnI w base v (S p q) → wpList Try.prog ops Q rest (a.put o.dst v) w) : wpList Try.prog ops Q (o :: rest) a w := by
  refine wpList_plain hg fun K' hK' => ?_
  obtain ⟨v, hrun, ho⟩ := h.look k
  unfold Oper.wp
  simp [execOp, hop, hm, hx, hrun, Result.andThen]
  exact hK' _ _ (hK v ho)
theorem wpList_entryG (hg : o.guard = none) (m x : Operand) (hop : o.op = Op.mapEntry 55 m x) {base b : Nat} {N : Nat → Prop} {S : Int → Int → List Int} {p q : Int} (hm : a.eval m = .map (some b)) (hx : a.eval x = keyV p q)
    (h : MapG w base b N S) (k : okK p q) (hN : ∀ g, N g → g < w.heap.size)
    (hK : ∀ v st w1, OwnI w1 base v (S p q) → w.grownBy w1 (some b) → w1.heap.size = w.heap.size → (∀ g, v.ownBlock = some g → ¬ N g) → BackG w1 base b N st p q S v → wpList Try.prog ops Q rest (a.put o.dst (.tuple #[v, .int .i64 st])) w1) : wpList Try.prog ops Q (o :: rest) a w := by
  refine wpList_plain hg fun K' hK' => ?_
  obtain ⟨v, st, w1, hrun, h1, h2, h3, h4, h5⟩ := h.entry k hN
  unfold Oper.wp
  simp [execOp, hop, hm, hx, hrun, Result.andThen]
  exact hK' _ _ (hK v st w1 h1 h2 h3 h4 h5)
theorem wpList_storeG (hg : o.guard = none) (m s x : Operand) (hop : o.op = Op.entryStore 55 m s x) {base b : Nat} {N : Nat → Prop} {S : Int → Int → List Int} {p q st : Int} {v v' : Value} {L : List Int} {w1 : World} (hm : a.eval m = .map (some b)) (hs : a.eval s = .int .i64 st) (hx : a.eval x = v')
    (h : BackG w1 base b N st p q S v) (h1 : w1.grownBy w v.ownBlock) (h2 : OwnI w base v' L) (h3 : L ≠ []) (h4 : v'.ownBlock = v.ownBlock ∨ ∃ g, v'.ownBlock = some g ∧ w1.heap.size ≤ g)
    (hK : ∀ w3, MapG w3 base b N (upS S p q L) → w.grownBy w3 (some b) → wpList Try.prog ops Q rest (a.put o.dst undef) w3) : wpList Try.prog ops Q (o :: rest) a w := by
  refine wpList_plain hg fun K' hK' => ?_
  obtain ⟨w3, hrun, h5, h6⟩ := h w v' L h1 h2 h3 h4
  unfold Oper.wp
  simp [execOp, hop, hm, hs, hx, hrun, Result.andThen]
  exact hK' _ _ (hK w3 h5 h6)
end
end Go.Proofs.Ytkheomaihhcokaa
/-
  What a map of the edges tells, triangle by triangle, edge by edge. No program.
-/
namespace Go.Proofs.Ytkheomaihhcokaa

/-- Behind k triangles: those that have an edge, at its two places, the lesser one first. -/
def ownS (F : Nat → Nat → Int) (k : Nat) : Int → Int → List Int := fun a c => if a < c then thL F a c k else []
/-- One more triangle's first j edges. -/
def sdN (S : Int → Int → List Int) (i : Int) (L : List (Int × Int)) : Nat → Int → Int → List Int
  | 0 => S
  | j + 1 => upS (sdN S i L j) (L.getD j (0, 0)).1 (L.getD j (0, 0)).2 (sdN S i L j (L.getD j (0, 0)).1 (L.getD j (0, 0)).2 ++ [i])
theorem sdN_at {S : Int → Int → List Int} {i : Int} {L : List (Int × Int)} (hd : L.Nodup) : ∀ j, j ≤ L.length → ∀ a c, sdN S i L j a c = if (a, c) ∈ L.take j then S a c ++ [i] else S a c
  | 0, _, a, c => by simp [sdN]
  | j + 1, h, a, c => by
    have hj : j < L.length := h
    have ih := sdN_at (S := S) (i := i) hd j (Nat.le_of_lt hj)
    have e : L.getD j (0, 0) = L[j] := by rw [List.getD_eq_getElem?_getD, List.getElem?_eq_getElem hj]; rfl
    have ht : L.take (j + 1) = L.take j ++ [L[j]] := by rw [List.take_add_one, List.getElem?_eq_getElem hj]; rfl
    have hn : ¬ L[j] ∈ L.take j := fun q => by
      have z : (L.take j ++ [L[j]]).Nodup := by rw [← ht]; exact hd.sublist (List.take_sublist _ _)
      exact (List.nodup_append.1 z).2.2 _ q _ (by simp) rfl
    show upS (sdN S i L j) (L.getD j (0, 0)).1 (L.getD j (0, 0)).2 (sdN S i L j (L.getD j (0, 0)).1 (L.getD j (0, 0)).2 ++ [i]) a c = _
    rw [e, ht]
    by_cases q : a = L[j].1 ∧ c = L[j].2
    · have eq : (a, c) = L[j] := by rw [q.1, q.2]
      have hm : (L[j].1, L[j].2) ∈ L.take j ++ [L[j]] := List.mem_append.2 (.inr (List.mem_singleton.2 rfl))
      rw [q.1, q.2, upS_same, ih, if_neg hn, if_pos hm]
    · have ne : ¬ (a, c) = L[j] := fun z => q (by rw [← z]; exact ⟨rfl, rfl⟩)
      rw [upS_other q, ih]
      by_cases m : (a, c) ∈ L.take j
      · rw [if_pos m, if_pos (List.mem_append.2 (.inl m))]
      · rw [if_neg m, if_neg (fun z => by
          rcases List.mem_append.1 z with z | z
          · exact m z
          · exact ne (List.mem_singleton.1 z))]
theorem sdN_all (F : Nat → Nat → Int) (k : Nat) : sdN (ownS F k) k (sdL (F k 0) (F k 3) (F k 6)) (sdL (F k 0) (F k 3) (F k 6)).length = ownS F (k + 1) := by
  funext a c
  rw [sdN_at (sdL_nodup _ _ _) _ (Nat.le_refl _), List.take_of_length_le (Nat.le_refl _)]
  unfold ownS
  by_cases m : (a, c) ∈ sdL (F k 0) (F k 3) (F k 6)
  · have z := sdL_mem.1 m
    rw [if_pos m, if_pos z.1, if_pos z.1]
    show _ = thL F a c k ++ (if hasB (F k 0) (F k 3) (F k 6) a c then [(k : Int)] else [])
    rw [if_pos z.2]
  · rw [if_neg m]
    by_cases q : a < c
    · rw [if_pos q, if_pos q]
      show _ = thL F a c k ++ (if hasB (F k 0) (F k 3) (F k 6) a c then [(k : Int)] else [])
      rw [if_neg (fun z => m (sdL_mem.2 ⟨q, z⟩)), List.append_nil]
    · rw [if_neg q, if_neg q]
theorem sdN_len {F : Nat → Nat → Int} {k j : Nat} {a c : Int} (h : j ≤ (sdL (F k 0) (F k 3) (F k 6)).length) : (sdN (ownS F k) k (sdL (F k 0) (F k 3) (F k 6)) j a c).length ≤ k + 1 := by
  rw [sdN_at (sdL_nodup _ _ _) _ h]
  have z : (ownS F k a c).length ≤ k := by
    unfold ownS
    split
    · exact thL_len F a c k
    · simp
  split
  · rw [List.length_append, List.length_singleton]; omega
  · omega
theorem sdL_ok {x y z : Int} {p : Int × Int} {m : Int} (h : p ∈ sdL x y z) (hx : 0 ≤ x ∧ x < m) (hy : 0 ≤ y ∧ y < m) (hz : 0 ≤ z ∧ z < m) : (0 ≤ p.1 ∧ p.1 < m) ∧ 0 ≤ p.2 ∧ p.2 < m := by
  have q := (sdL_mem.1 h).2
  rw [hasB_iff, ed3_iff, ed3_iff, ed3_iff] at q
  rcases q with q | q | q <;> omega
end Go.Proofs.Ytkheomaihhcokaa
