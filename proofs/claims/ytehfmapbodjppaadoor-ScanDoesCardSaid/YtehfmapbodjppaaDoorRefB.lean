/-
  The reference's numbers as digits: OfInt.
-/
import Derived.Test.YtehfmapbodjppaaDoorRefA
import Derived.Laws.AppendOwn
import Derived.OwnWalk
namespace Go.Proofs.YtehfmapbodjppaaDoor
open Go.RowKit

theorem infoI : (Tryd.prog.info? 3).map (fun i => (i.zero, i.size, i.bytes)) = some (some (.int .i64 0), 1, 8) := by kernel_rfl
/-- The values of the first k. -/
def upto (D : Nat → Int) (k : Nat) : List Value := (List.range k).map fun i => .int .i64 (D i)
theorem upto_succ (D : Nat → Int) (k : Nat) : upto D (k + 1) = upto D k ++ [.int .i64 (D k)] := by
  unfold upto; rw [List.range_succ, List.map_append]; rfl
theorem upto_at (D : Nat → Int) (k i : Nat) (h : i < k) : (upto D k)[i]? = some (.int .i64 (D i)) := by
  unfold upto; simp [h]
theorem addr_add (g o i : Nat) : (⟨g, o, none⟩ : Addr).add i = ⟨g, o + i, none⟩ := by
  unfold Addr.add; split
  · rename_i h; rw [h, Nat.add_zero]
  · rfl
/-- A row of the call's own, read. -/
theorem row_of_own {w : World} {base k : Nat} {v : Value} {D : Nat → Int} (h : w.ownsRow base 3 1 v k (upto D k)) : ∃ a c, v = .slice a k c ∧ RowF w a k c D ∧ c ≤ 9223372036854775807 ∧ (∀ b off, a = some ⟨b, off, none⟩ → base ≤ b) := by
  have hc := fun (g : Nat) (hg : v.ownBlock = some g) => h.cells hg
  have hl := h.lt
  obtain ⟨h1, ⟨rfl, rfl⟩ | ⟨g, cap, cur, rfl, hb, hh, hk, hm, _, _⟩⟩ := h
  · exact ⟨none, 0, rfl, .inl ⟨rfl, rfl, rfl⟩, by omega, fun _ _ e => by cases e⟩
  · refine ⟨_, cap, rfl, .inr ⟨g, 0, rfl, (hl g rfl).2, hk, fun i hi => ?_⟩, by unfold maxLen at hm; omega, fun b off e => by cases e; exact hb⟩
    have := hc g rfl i _ (upto_at D k i hi)
    rw [addr_add] at this
    exact this

/-- A value of the reference's type Num that stands for N: its side, and its digits, the least one first, no 0 at the end. -/
def NumV (W : World) (v : Value) (N : Int) : Prop :=
  ∃ a n c D, v = .agg #[.bool (decide (N < 0)), .slice a n c] ∧ RowF W a n c D ∧ c ≤ 9223372036854775807 ∧ Dg D n ∧ (n = 0 ∨ D (n - 1) ≠ 0) ∧ vs D 0 n = N.natAbs
theorem NumV.keep {W W' : World} {v : Value} {N : Int} (h : NumV W v N) (hb : Below W.heap.size W W') : NumV W' v N := by
  obtain ⟨a, n, c, D, h1, h2, h3⟩ := h
  exact ⟨a, n, c, D, h1, h2.keep hb, h3⟩
def RetNum (N : Int) (w : World) (e : Ending) (w' : World) : Prop := Below w.heap.size w w' ∧ ∃ v, e = .returned v ∧ NumV w' v N

theorem RowF.sub {W : World} {a : Option Addr} {n m c : Nat} {D : Nat → Int} (h : RowF W a n c D) (hm : m ≤ n) : RowF W a m c D := by
  rcases h with ⟨h1, h2, h3⟩ | ⟨b, off, ha, hl, hc, h⟩
  · exact .inl ⟨h1, by omega, h3⟩
  · exact .inr ⟨b, off, ha, hl, by omega, fun i hi => h i (by omega)⟩
/-- A cell of another block written. -/
theorem RowF.set {W : World} {a : Option Addr} {n c : Nat} {D : Nat → Int} (h : RowF W a n c D) {p : Addr} (hp : ∀ b off, a = some ⟨b, off, none⟩ → b ≠ p.block) (v : Value) : RowF (W.setCell p v) a n c D := by
  rcases h with h | ⟨b, off, ha, hl, hc, h⟩
  · exact .inl h
  · refine .inr ⟨b, off, ha, Nat.lt_of_lt_of_le hl ((Below.refl 0 W).setCell (Nat.zero_le _) v).size, hc, fun i hi => ?_⟩
    exact (World.cell?_of_block (w := W) (w' := W.setCell p v) (Below.heap_setCell W p v b (hp b off ha))).trans (h i hi)
theorem num_of_trim {W : World} {s : Bool} {a : Option Addr} {n c : Nat} {D : Nat → Int} (hr : RowF W a n c D) (hc : c ≤ 9223372036854775807) (hd : Dg D n) :
    NumV W (.agg #[.bool (s && decide (0 < tl D n)), .slice a (tl D n) c]) (if s then -(vs D 0 n) else vs D 0 n) := by
  have hle := tl_le D n
  have hv := tl_vs D n
  have hd' : Dg D (tl D n) := fun i hi => hd i (by omega)
  have b0 := vs_bd hd' (tl D n) 0 (by omega)
  have hz : (0 < tl D n) ↔ 0 < vs D 0 n := by
    constructor
    · intro h
      rcases tl_top D n with h0 | h0
      · omega
      · obtain ⟨j, hj⟩ : ∃ j, tl D n = j + 1 := ⟨tl D n - 1, by omega⟩
        rw [hj] at h0 b0
        have e := vs_snoc D j 0
        have b1 := vs_bd hd' j 0 (by omega)
        have t := hd' j (by omega)
        have p := p10_pos j
        rw [← hv, hj, e, Nat.zero_add]
        have h0' : D j ≠ 0 := h0
        have : p10 j * 1 ≤ p10 j * D j := Int.mul_le_mul_of_nonneg_left (by omega) (by omega)
        omega
    · intro h
      rcases Nat.eq_zero_or_pos (tl D n) with h0 | h0
      · rw [h0] at hv
        have : vs D 0 0 = 0 := rfl
        omega
      · exact h0
  refine ⟨a, tl D n, c, D, ?_, hr.sub hle, hc, hd', tl_top D n, ?_⟩
  · cases s
    · simp only [Bool.false_and, Bool.false_eq_true, if_false]
      rw [decide_eq_false (by omega)]
    · simp only [Bool.true_and, if_true]
      have : decide (0 < tl D n) = decide (-(vs D 0 n) < 0) := decide_eq_decide.2 (by omega)
      rw [this]
  · rw [hv]
    cases s
    · simp only [Bool.false_eq_true, if_false]; omega
    · simp only [if_true]; omega

def mk (m : Nat) : Nat → Nat
  | 0 => m
  | k + 1 => mk m k / 10
def dOf (m : Nat) (i : Nat) : Int := (mk m i % 10 : Nat)
theorem dOf_Dg (m n : Nat) : Dg (dOf m) n := fun i _ => by unfold dOf; omega
theorem dOf_vs (m k : Nat) : ∀ i, vs (dOf m) i k + p10 k * (mk m (i + k) : Nat) = (mk m i : Nat) := by
  induction k with
  | zero => intro i; show 0 + 1 * ((mk m i : Nat) : Int) = _; omega
  | succ k ih =>
    intro i
    have h := ih (i + 1)
    rw [show i + 1 + k = i + (k + 1) from by omega] at h
    show dOf m i + 10 * vs (dOf m) (i + 1) k + 10 * p10 k * _ = _
    rw [Int.mul_assoc]
    have e : mk m (i + 1) = mk m i / 10 := rfl
    have e2 : dOf m i = ((mk m i % 10 : Nat) : Int) := rfl
    rw [e2]
    omega

theorem own_keep {w w' : World} {base : Nat} {v : Value} {n : Nat} {xs : List Value} (h : w.ownsRow base 3 1 v n xs) (hb : Below w.heap.size w w') : w'.ownsRow base 3 1 v n xs :=
  h.kept (row := none) ⟨hb.os, hb.tape, hb.output, hb.size, fun k hk _ => hb.block k hk⟩ (by
    rcases h.2 with ⟨rfl, _⟩ | ⟨g, cap, cur, rfl, _⟩
    · exact .inl rfl
    · exact .inr (by simp [Value.ownBlock]))

theorem mk_lt (n k : Nat) (hk : k + 1 ≤ 19) (h : (mk n k : Int) < p10 (19 - k)) : (mk n (k + 1) : Int) < p10 (19 - (k + 1)) := by
  rw [show 19 - k = (19 - (k + 1)) + 1 from by omega] at h
  have e : p10 (19 - (k + 1) + 1) = 10 * p10 (19 - (k + 1)) := rfl
  have e1 : mk n (k + 1) = mk n k / 10 := rfl
  omega
/-- What the loop leaves, and trim makes of it. -/
theorem ofInt_end {W : World} {a : Option Addr} {n k c : Nat} (hz : mk n k = 0) (hr : RowF W a k c (dOf n)) (hc : c ≤ 9223372036854775807) (s : Bool) :
    NumV W (.agg #[.bool (s && decide (0 < tl (dOf n) k)), .slice a (tl (dOf n) k) c]) (if s then -(n : Int) else n) := by
  have h := num_of_trim (s := s) hr hc (dOf_Dg n k)
  have e := dOf_vs n k 0
  rw [Nat.zero_add, hz] at e
  have e0 : mk n 0 = n := rfl
  rw [e0] at e
  have e1 : vs (dOf n) 0 k = (n : Int) := by simpa using e
  rw [e1] at h
  exact h

set_option maxRecDepth 100000 in
set_option maxHeartbeats 1000000 in
theorem ofInt_pos (n : Nat) (w : World) (hn : n ≤ 9223372036854775807) :
    Calls Tryd.prog 23 #[.int .i64 (n : Int)] w (RetNum (n : Int) w) := by
  obtain ⟨i0, hi, hz0, hz1, hz2⟩ := info_parts infoI
  go_enter Tryd.func23, Tryd.ntmps23
  go_wp2_with fail
  go_loopw [0, 3] (fun x v wr => ∃ k : Nat, k ≤ 19 ∧ x = .int .i64 (mk n k : Nat) ∧ mk n k ≤ n ∧ (mk n k : Int) < p10 (19 - k) ∧ wr.ownsRow (w.heap.size + 1) 3 1 v k (upto (dOf n) k) ∧ Below w.heap.size w wr ∧ w.heap.size < wr.heap.size ∧ wr.cell? ⟨w.heap.size, 0, none⟩ = some (.bool false) ∧ wr.cell? ⟨w.heap.size, 1, none⟩ = some (.slice none 0 0) ∧ (∀ o, wr.frozen? ⟨w.heap.size, o, none⟩ = false))
    (fun x _ _ => (intOf x).toNat)
  case atStart => exact ⟨0, by omega, rfl, Nat.le_refl _, by show (n : Int) < 10000000000000000000; omega, World.ownsRow_nil _ _ _ _, by (repeat (first | exact Below.refl _ _ | assumption | refine Below.drew ?_ | refine below_drewN ?_ _ | refine Below.setCell ?_ (by first | omega | (simp; done) | (simp; omega)) _ | refine Below.alloc ?_ (by first | omega | (simp; done) | (simp; omega)) _)), by simp, by simp, by simp, by simp⟩
  case round =>
    obtain ⟨k, hk, rfl, hm, hp, hown, hB, hz, r0, r1, r2⟩ := hrel
    have HP := Lib.hid hp
    have HB := Lib.hid hB
    clear hp hB
    by_cases h0 : mk n k = 0
    · obtain ⟨a, c, rfl, hrow, hc, hblk⟩ := row_of_own hown
      have hB := HB.out
      clear HP hm hown
      have b0 : ((mk n k : Nat) : Int) = 0 := by omega
      have b1 : (((mk n k : Nat) : Int) != 0) = false := by rw [b0]; rfl
      have H0 := Lib.hid h0
      clear h0
      go_wp2_with ((go_at_call 34; refine ((trim_any _ _ _ _ (dOf n) _ hrow hc)).mono ?_; rintro e w1 ⟨rfl, hb1⟩; have hB1 : Below w.heap.size w w1 := (by refine Below.trans ?_ (hb1.mono (by first | omega | (simp; done) | (simp; omega))); (repeat (first | exact Below.refl _ _ | assumption | refine Below.drew ?_ | refine below_drewN ?_ _ | refine Below.setCell ?_ (by first | omega | (simp; done) | (simp; omega)) _ | refine Below.alloc ?_ (by first | omega | (simp; done) | (simp; omega)) _))); have hsz1 : w.heap.size ≤ w1.heap.size := hB1.size; replace r0 := keepc hb1 (by first | exact r0 | exact keepa r0 | exact keepa (keepa r0) | (simp [go_sem, *]; done)); replace r1 := keepc hb1 (by first | exact r1 | exact keepa r1 | exact keepa (keepa r1) | (simp [go_sem, *]; done))); have f0 := (hb1.frozen (p := ⟨w.heap.size, 0, none⟩) hz).trans (r2 0); have f1 := (hb1.frozen (p := ⟨w.heap.size, 1, none⟩) hz).trans (r2 1))
      rw [decide_eq_false (show ¬ ((n : Int) < 0) from by omega)] at *
      have hnum := ofInt_end H0.out (((hrow.keep hb1).set (p := ⟨w.heap.size, 0, none⟩) (fun b off e => by have := hblk b off e; simp; omega) (.bool (false && decide (0 < tl (dOf n) k)))).set (p := ⟨w.heap.size, 1, none⟩) (fun b off e => by have := hblk b off e; simp; omega) (.slice a (tl (dOf n) k) c)) hc false
      exact bodyPost_ret (v := .agg #[.bool (false && decide (0 < tl (dOf n) k)), .slice a (tl (dOf n) k) c]) (by simp [results, Tryd.results23, go_sem, *]) rfl ⟨by (repeat (first | exact Below.refl _ _ | assumption | refine Below.drew ?_ | refine below_drewN ?_ _ | refine Below.setCell ?_ (by first | omega | (simp; done) | (simp; omega)) _ | refine Below.alloc ?_ (by first | omega | (simp; done) | (simp; omega)) _)), _, rfl, by simpa using hnum⟩
    · have hk' : k + 1 ≤ 19 := by
        rcases Nat.lt_or_ge k 19 with h | h
        · exact h
        · have : k = 19 := by omega
          subst this
          have := HP.out
          have e : p10 (19 - 19) = 1 := rfl
          omega
      have hD : dOf n k = ((mk n k : Nat) : Int) % 10 := by unfold dOf; omega
      have HD := Lib.hid hD
      have HN := Lib.hid (show mk n (k + 1) = mk n k / 10 from rfl)
      have HU := Lib.hid (upto_succ (dOf n) k)
      have HL := Lib.hid (mk_lt n k hk' HP.out)
      generalize hM : mk n k = M at *
      have h0' : ((M : Int) == 0) = false := by rw [beq_eq_false_iff_ne]; omega
      clear hD hM
      have hw0 : w.heap.size + 1 ≤ wr.heap.size := hz
      go_wp2_with (first
        | (at_builtin; refine wpList_append_own _ rfl _ _ 27 rfl (w.heap.size + 1) 3 i0 (.int .i64 0) 1 8 Tryd.underlying27 hi hz0 hz1 hz2 rfl (by decide) _ _ _ rfl (hown.alloc _) ⟨wr.heap.size, 0, none⟩ 1 1 [.int .i64 ((M : Int) % 10)] rfl rfl ?c1 ?c2 ?c3 ?c4 ?c5 ?_))
      case c1 =>
        intro j u hj
        match j, hj with
        | 0, hj => simp at hj; subst hj; simp [Addr.add]
      case c2 => intro u hu; simp at hu; subst hu; rfl
      case c3 => unfold maxLen; omega
      case c4 => omega
      case c5 => simp; omega
      intro v' w1 hown' hgrow _
      have hob : ∀ g, u3.ownBlock = some g → w.heap.size + 1 ≤ g := fun g hg => (hown.lt g hg).1
      have hB1 : Below w.heap.size w w1 := ((HB.out.alloc (by omega) _).grown hgrow (by simp; omega) (fun g hg => by have := hob g hg; omega))
      have hBr : Below (w.heap.size + 1) wr w1 := (((Below.refl (w.heap.size + 1) wr).alloc (by omega) _).grown hgrow (by simp; omega) (fun g hg => hob g hg))
      have s0 : w1.cell? ⟨w.heap.size, 0, none⟩ = some (.bool false) := (hBr.cell (p := ⟨w.heap.size, 0, none⟩) (Nat.lt_succ_self _)).trans r0
      have s1 : w1.cell? ⟨w.heap.size, 1, none⟩ = some (.slice none 0 0) := (hBr.cell (p := ⟨w.heap.size, 1, none⟩) (Nat.lt_succ_self _)).trans r1
      have s2 : ∀ o, w1.frozen? ⟨w.heap.size, o, none⟩ = false := fun o => (hBr.frozen (p := ⟨w.heap.size, o, none⟩) (Nat.lt_succ_self _)).trans (r2 o)
      have s3 : w.heap.size < w1.heap.size := cell_lt s0
      rw [← HD.out, ← HU.out] at hown'
      have hdiv : ((M : Int) / 10) = ((M / 10 : Nat) : Int) := by omega
      have X := Lib.hid (And.intro hown' (And.intro hB1 (And.intro s0 (And.intro s1 s2))))
      clear hown' hgrow hown hB1 hBr s0 s1 s2 hob r0 r1 r2 hdiv
      go_wp2
      go_roundw
      case rel =>
        obtain ⟨x1, x2, x3, x4, x5⟩ := X.out
        exact ⟨k + 1, hk', by rw [HN.out]; exact congrArg (Value.int .i64) (by omega), by rw [HN.out]; omega, HL.out, x1, x2, s3, x3, x4, x5⟩
      case measure => simp [intOf]; omega
set_option maxRecDepth 100000 in
set_option maxHeartbeats 1000000 in
theorem ofInt_neg (n : Nat) (w : World) (hn : n ≤ 9223372036854775808) (hp0 : 0 < n) :
    Calls Tryd.prog 23 #[.int .i64 (-(n : Int))] w (RetNum (-(n : Int)) w) := by
  obtain ⟨i0, hi, hz0, hz1, hz2⟩ := info_parts infoI
  go_enter Tryd.func23, Tryd.ntmps23
  go_wp2_with fail
  go_loopw [0, 3] (fun x v wr => ∃ k : Nat, k ≤ 19 ∧ x = .int .i64 (-((mk n k : Nat) : Int)) ∧ mk n k ≤ n ∧ (mk n k : Int) < p10 (19 - k) ∧ wr.ownsRow (w.heap.size + 1) 3 1 v k (upto (dOf n) k) ∧ Below w.heap.size w wr ∧ w.heap.size < wr.heap.size ∧ wr.cell? ⟨w.heap.size, 0, none⟩ = some (.bool false) ∧ wr.cell? ⟨w.heap.size, 1, none⟩ = some (.slice none 0 0) ∧ (∀ o, wr.frozen? ⟨w.heap.size, o, none⟩ = false))
    (fun x _ _ => (-(intOf x)).toNat)
  case atStart => exact ⟨0, by omega, rfl, Nat.le_refl _, by show (n : Int) < 10000000000000000000; omega, World.ownsRow_nil _ _ _ _, by (repeat (first | exact Below.refl _ _ | assumption | refine Below.drew ?_ | refine below_drewN ?_ _ | refine Below.setCell ?_ (by first | omega | (simp; done) | (simp; omega)) _ | refine Below.alloc ?_ (by first | omega | (simp; done) | (simp; omega)) _)), by simp, by simp, by simp, by simp⟩
  case round =>
    obtain ⟨k, hk, rfl, hm, hp, hown, hB, hz, r0, r1, r2⟩ := hrel
    have HP := Lib.hid hp
    have HB := Lib.hid hB
    clear hp hB
    by_cases h0 : mk n k = 0
    · obtain ⟨a, c, rfl, hrow, hc, hblk⟩ := row_of_own hown
      have hB := HB.out
      clear HP hm hown
      have b0 : -((mk n k : Nat) : Int) = 0 := by omega
      have b1 : ((-((mk n k : Nat) : Int)) != 0) = false := by rw [b0]; rfl
      have H0 := Lib.hid h0
      clear h0
      go_wp2_with ((go_at_call 34; refine ((trim_any _ _ _ _ (dOf n) _ hrow hc)).mono ?_; rintro e w1 ⟨rfl, hb1⟩; have hB1 : Below w.heap.size w w1 := (by refine Below.trans ?_ (hb1.mono (by first | omega | (simp; done) | (simp; omega))); (repeat (first | exact Below.refl _ _ | assumption | refine Below.drew ?_ | refine below_drewN ?_ _ | refine Below.setCell ?_ (by first | omega | (simp; done) | (simp; omega)) _ | refine Below.alloc ?_ (by first | omega | (simp; done) | (simp; omega)) _))); have hsz1 : w.heap.size ≤ w1.heap.size := hB1.size; replace r0 := keepc hb1 (by first | exact r0 | exact keepa r0 | exact keepa (keepa r0) | (simp [go_sem, *]; done)); replace r1 := keepc hb1 (by first | exact r1 | exact keepa r1 | exact keepa (keepa r1) | (simp [go_sem, *]; done))); have f0 := (hb1.frozen (p := ⟨w.heap.size, 0, none⟩) hz).trans (r2 0); have f1 := (hb1.frozen (p := ⟨w.heap.size, 1, none⟩) hz).trans (r2 1))
      have hnum := ofInt_end H0.out (((hrow.keep hb1).set (p := ⟨w.heap.size, 0, none⟩) (fun b off e => by have := hblk b off e; simp; omega) (.bool (decide (0 < tl (dOf n) k)))).set (p := ⟨w.heap.size, 1, none⟩) (fun b off e => by have := hblk b off e; simp; omega) (.slice a (tl (dOf n) k) c)) hc true
      exact bodyPost_ret (v := .agg #[.bool (decide (0 < tl (dOf n) k)), .slice a (tl (dOf n) k) c]) (by simp [results, Tryd.results23, go_sem, *]) rfl ⟨by (repeat (first | exact Below.refl _ _ | assumption | refine Below.drew ?_ | refine below_drewN ?_ _ | refine Below.setCell ?_ (by first | omega | (simp; done) | (simp; omega)) _ | refine Below.alloc ?_ (by first | omega | (simp; done) | (simp; omega)) _)), _, rfl, by simpa using hnum⟩
    · have hk' : k + 1 ≤ 19 := by
        rcases Nat.lt_or_ge k 19 with h | h
        · exact h
        · have : k = 19 := by omega
          subst this
          have := HP.out
          have e : p10 (19 - 19) = 1 := rfl
          omega
      have hD : dOf n k = ((mk n k : Nat) : Int) % 10 := by unfold dOf; omega
      have HD := Lib.hid hD
      have HN := Lib.hid (show mk n (k + 1) = mk n k / 10 from rfl)
      have HU := Lib.hid (upto_succ (dOf n) k)
      have HL := Lib.hid (mk_lt n k hk' HP.out)
      generalize hM : mk n k = M at *
      have h0' : ((-(M : Int)) == 0) = false := by rw [beq_eq_false_iff_ne]; omega
      have hr : (-(M : Int)).tmod 10 = -((M : Int) % 10) := by rw [Int.neg_tmod, Int.tmod_eq_emod_of_nonneg (by omega)]
      have hq : (-(M : Int)).tdiv 10 = -((M : Int) / 10) := by rw [Int.neg_tdiv, Int.tdiv_eq_ediv_of_nonneg (by omega)]
      clear hD hM
      have hw0 : w.heap.size + 1 ≤ wr.heap.size := hz
      by_cases hz : (M : Int) % 10 = 0
      · have HD0 := Lib.hid (HD.out.trans hz)
        go_wp2_with (first
          | (at_builtin; refine wpList_append_own _ rfl _ _ 27 rfl (w.heap.size + 1) 3 i0 (.int .i64 0) 1 8 Tryd.underlying27 hi hz0 hz1 hz2 rfl (by decide) _ _ _ rfl (hown.alloc _) ⟨wr.heap.size, 0, none⟩ 1 1 [.int .i64 0] rfl rfl ?c1 ?c2 ?c3 ?c4 ?c5 ?_))
        case c1 =>
          intro j u hj
          match j, hj with
          | 0, hj => simp at hj; subst hj; simp [Addr.add]
        case c2 => intro u hu; simp at hu; subst hu; rfl
        case c3 => unfold maxLen; omega
        case c4 => omega
        case c5 => simp; omega
        intro v' w1 hown' hgrow _
        have hob : ∀ g, u3.ownBlock = some g → w.heap.size + 1 ≤ g := fun g hg => (hown.lt g hg).1
        have hB1 : Below w.heap.size w w1 := ((HB.out.alloc (by omega) _).grown hgrow (by simp; omega) (fun g hg => by have := hob g hg; omega))
        have hBr : Below (w.heap.size + 1) wr w1 := (((Below.refl (w.heap.size + 1) wr).alloc (by omega) _).grown hgrow (by simp; omega) (fun g hg => hob g hg))
        have s0 : w1.cell? ⟨w.heap.size, 0, none⟩ = some (.bool false) := (hBr.cell (p := ⟨w.heap.size, 0, none⟩) (Nat.lt_succ_self _)).trans r0
        have s1 : w1.cell? ⟨w.heap.size, 1, none⟩ = some (.slice none 0 0) := (hBr.cell (p := ⟨w.heap.size, 1, none⟩) (Nat.lt_succ_self _)).trans r1
        have s2 : ∀ o, w1.frozen? ⟨w.heap.size, o, none⟩ = false := fun o => (hBr.frozen (p := ⟨w.heap.size, o, none⟩) (Nat.lt_succ_self _)).trans (r2 o)
        have s3 : w.heap.size < w1.heap.size := cell_lt s0
        rw [← HD0.out, ← HU.out] at hown'
        have X := Lib.hid (And.intro hown' (And.intro hB1 (And.intro s0 (And.intro s1 s2))))
        clear hown' hgrow hown hB1 hBr s0 s1 s2 hob r0 r1 r2
        go_wp2
        go_roundw
        case rel =>
          obtain ⟨x1, x2, x3, x4, x5⟩ := X.out
          exact ⟨k + 1, hk', by rw [HN.out]; exact congrArg (Value.int .i64) (by omega), by rw [HN.out]; omega, HL.out, x1, x2, s3, x3, x4, x5⟩
        case measure => simp [intOf]; omega
      · have hz' : (-((M : Int) % 10) < 0) := by omega
        go_wp2_with (first
          | (at_builtin; refine wpList_append_own _ rfl _ _ 27 rfl (w.heap.size + 1) 3 i0 (.int .i64 0) 1 8 Tryd.underlying27 hi hz0 hz1 hz2 rfl (by decide) _ _ _ rfl (hown.alloc _) ⟨wr.heap.size, 0, none⟩ 1 1 [.int .i64 ((M : Int) % 10)] rfl rfl ?c1 ?c2 ?c3 ?c4 ?c5 ?_))
        case c1 =>
          intro j u hj
          match j, hj with
          | 0, hj => simp at hj; subst hj; simp [Addr.add]
        case c2 => intro u hu; simp at hu; subst hu; rfl
        case c3 => unfold maxLen; omega
        case c4 => omega
        case c5 => simp; omega
        intro v' w1 hown' hgrow _
        have hob : ∀ g, u3.ownBlock = some g → w.heap.size + 1 ≤ g := fun g hg => (hown.lt g hg).1
        have hB1 : Below w.heap.size w w1 := ((HB.out.alloc (by omega) _).grown hgrow (by simp; omega) (fun g hg => by have := hob g hg; omega))
        have hBr : Below (w.heap.size + 1) wr w1 := (((Below.refl (w.heap.size + 1) wr).alloc (by omega) _).grown hgrow (by simp; omega) (fun g hg => hob g hg))
        have s0 : w1.cell? ⟨w.heap.size, 0, none⟩ = some (.bool false) := (hBr.cell (p := ⟨w.heap.size, 0, none⟩) (Nat.lt_succ_self _)).trans r0
        have s1 : w1.cell? ⟨w.heap.size, 1, none⟩ = some (.slice none 0 0) := (hBr.cell (p := ⟨w.heap.size, 1, none⟩) (Nat.lt_succ_self _)).trans r1
        have s2 : ∀ o, w1.frozen? ⟨w.heap.size, o, none⟩ = false := fun o => (hBr.frozen (p := ⟨w.heap.size, o, none⟩) (Nat.lt_succ_self _)).trans (r2 o)
        have s3 : w.heap.size < w1.heap.size := cell_lt s0
        rw [← HD.out, ← HU.out] at hown'
        have X := Lib.hid (And.intro hown' (And.intro hB1 (And.intro s0 (And.intro s1 s2))))
        clear hown' hgrow hown hB1 hBr s0 s1 s2 hob r0 r1 r2
        go_wp2
        go_roundw
        case rel =>
          obtain ⟨x1, x2, x3, x4, x5⟩ := X.out
          exact ⟨k + 1, hk', by rw [HN.out]; exact congrArg (Value.int .i64) (by omega), by rw [HN.out]; omega, HL.out, x1, x2, s3, x3, x4, x5⟩
        case measure => simp [intOf]; omega
theorem ofInt_any (n : Int) (w : World) (h1 : -9223372036854775808 ≤ n) (h2 : n ≤ 9223372036854775807) :
    Calls Tryd.prog 23 #[.int .i64 n] w (RetNum n w) := by
  rcases Int.lt_or_le n 0 with h | h
  · have := ofInt_neg n.natAbs w (by omega) (by omega)
    rwa [show -((n.natAbs : Nat) : Int) = n from by omega] at this
  · have := ofInt_pos n.natAbs w (by omega)
    rwa [show ((n.natAbs : Nat) : Int) = n from by omega] at this
end Go.Proofs.YtehfmapbodjppaaDoor
