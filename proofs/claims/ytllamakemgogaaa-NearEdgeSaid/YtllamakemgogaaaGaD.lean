/-
  Texts in one: WhA, WhC, FrC, WhB.
-/
import Derived.Test.YtllamakemgogaaaGaA
import Derived.Test.YtllamakemgogaaaFrB
import Derived.RegionTactic
import Derived.BigRegion
/-
  Contracts of package whole and of its reference: Floor, Ceil, Clamp.
-/
namespace Go.Proofs.Ytllamakemgogaaa
open Go.RowKit

theorem ret_int3 {a b c d : Int} (x : Int) (h : a = b ∧ c = d) : Ending.returned (.tuple #[.int .i64 a, .int .i64 c, .int .i64 x]) = .returned (.tuple #[.int .i64 b, .int .i64 d, .int .i64 x]) := by rw [h.1, h.2]
theorem ret_intE {a b : Int} (x : Int) (h : a = b) : Ending.returned (.tuple #[.int .i64 a, .int .i64 x]) = .returned (.tuple #[.int .i64 b, .int .i64 x]) := by rw [h]
/-- A pair that has a quotient. -/
def Dvb (a b : Int) : Prop := b ≠ 0 ∧ ¬ (a = -9223372036854775808 ∧ b = -1)
def In64 (a : Int) : Prop := -9223372036854775808 ≤ a ∧ a ≤ 9223372036854775807

set_option maxHeartbeats 400000 in
theorem divisible_ok (a b : Int) (w : World) (h : Dvb a b) :
    Calls Try.prog 72 #[.int .i64 a, .int .i64 b] w fun e w' => e = .returned (.int .i64 0) ∧ Below w.heap.size w w' := by
  obtain ⟨h0, h1⟩ := h
  have d0 : (b == 0) = false := by rw [beq_eq_false_iff_ne]; exact h0
  by_cases k : a = -9223372036854775808
  · have k2 : ¬ b = -1 := fun k2 => h1 ⟨k, k2⟩
    have d2 : (b == -1) = false := by rw [beq_eq_false_iff_ne]; exact k2
    subst k
    clear h0 h1 k2
    go_enter Try.func72, Try.ntmps72
    go_wp2
    go_ret
    exact ⟨rfl, Below.refl _ _⟩
  · have d1 : (a == -9223372036854775808) = false := by rw [beq_eq_false_iff_ne]; exact k
    clear h0 h1 k
    go_enter Try.func72, Try.ntmps72
    go_wp2
    go_ret
    exact ⟨rfl, Below.refl _ _⟩
theorem divisible_zero (a : Int) (w : World) :
    Calls Try.prog 72 #[.int .i64 a, .int .i64 0] w fun e w' => e = .returned (.int .i64 3) ∧ Below w.heap.size w w' := by
  go_enter Try.func72, Try.ntmps72
  go_wp2
  go_ret
  exact ⟨rfl, Below.refl _ _⟩
theorem divisible_wide (w : World) :
    Calls Try.prog 72 #[.int .i64 (-9223372036854775808), .int .i64 (-1)] w fun e w' => e = .returned (.int .i64 4) ∧ Below w.heap.size w w' := by
  go_enter Try.func72, Try.ntmps72
  go_wp2
  go_ret
  exact ⟨rfl, Below.refl _ _⟩

set_option maxHeartbeats 1000000 in
theorem floor2_ok (a b : Int) (w : World) (h : Dvb a b) (ia : In64 a) (ib : In64 b) :
    Calls Try.prog 59 #[.int .i64 a, .int .i64 b] w fun e w' => e = .returned (.tuple #[.int .i64 (flQ a b), .int .i64 (flR a b), .int .i64 0]) ∧ Below w.heap.size w w' := by
  have td := td_bd a b h.1 ia.1 ia.2 h.2
  have tm := tm_bd a b h.1
  obtain ⟨t1, t2, t3⟩ := td
  have H := Lib.hid h
  obtain ⟨i1, i2⟩ := ia
  obtain ⟨i3, i4⟩ := ib
  have h0 := h.1
  clear h
  by_cases k : a.tmod b = 0
  · have k1 : (a.tmod b != 0) = false := by rw [k]; rfl
    have E := Lib.hid (fl_same (a := a) (b := b) (fun q => q.1 k))
    clear k tm t3
    go_enter Try.func59, Try.ntmps59
    go_wp2_with fail
    (refine (divisible_ok a b _ H.out).mono ?_; rintro e w1 ⟨rfl, hb1⟩; have hB1 : Below w.heap.size w w1 := (by refine Below.trans ?_ (hb1.mono (by first | omega | (simp; done) | (simp; omega))); (repeat (first | exact Below.refl _ _ | assumption | refine Below.drew ?_ | refine below_drewN ?_ _ | refine Below.setCell ?_ (by first | omega | (simp; done) | (simp; omega)) _ | refine Below.alloc ?_ (by first | omega | (simp; done) | (simp; omega)) _))); have hsz1 : w.heap.size ≤ w1.heap.size := hB1.size)
    go_wp2_with fail
    go_quiet (fail)
    go_wp2
    go_ret3
    exact ⟨ret_int3 0 ⟨E.out.1.symm, E.out.2.symm⟩, by (repeat (first | exact Below.refl _ _ | assumption | refine Below.drew ?_ | refine below_drewN ?_ _ | refine Below.setCell ?_ (by first | omega | (simp; done) | (simp; omega)) _ | refine Below.alloc ?_ (by first | omega | (simp; done) | (simp; omega)) _))⟩
  · have k1 : (a.tmod b != 0) = true := by rw [bne_iff_ne]; exact k
    have t4 := t3 k
    clear t3
    by_cases s1 : a.tmod b < 0 <;> by_cases s2 : b < 0
    · have e1 : decide (a.tmod b < 0) = true := decide_eq_true s1
      have e2 : decide (b < 0) = true := decide_eq_true s2
      have E := Lib.hid (fl_same (a := a) (b := b) (fun q => q.2 ⟨fun _ => s2, fun _ => s1⟩))
      clear k tm t4
      go_enter Try.func59, Try.ntmps59
      go_wp2_with fail
      (refine (divisible_ok a b _ H.out).mono ?_; rintro e w1 ⟨rfl, hb1⟩; have hB1 : Below w.heap.size w w1 := (by refine Below.trans ?_ (hb1.mono (by first | omega | (simp; done) | (simp; omega))); (repeat (first | exact Below.refl _ _ | assumption | refine Below.drew ?_ | refine below_drewN ?_ _ | refine Below.setCell ?_ (by first | omega | (simp; done) | (simp; omega)) _ | refine Below.alloc ?_ (by first | omega | (simp; done) | (simp; omega)) _))); have hsz1 : w.heap.size ≤ w1.heap.size := hB1.size)
      go_wp2_with fail
      go_quiet (fail)
      go_wp2
      go_ret3
      exact ⟨ret_int3 0 ⟨E.out.1.symm, E.out.2.symm⟩, by (repeat (first | exact Below.refl _ _ | assumption | refine Below.drew ?_ | refine below_drewN ?_ _ | refine Below.setCell ?_ (by first | omega | (simp; done) | (simp; omega)) _ | refine Below.alloc ?_ (by first | omega | (simp; done) | (simp; omega)) _))⟩
    · have e1 : decide (a.tmod b < 0) = true := decide_eq_true s1
      have e2 : decide (b < 0) = false := decide_eq_false s2
      have E := Lib.hid (fl_adj (a := a) (b := b) ⟨k, fun q => s2 (q.1 s1)⟩)
      have t5 := tm.1 (by omega)
      obtain ⟨t6, t7⟩ := t4
      obtain ⟨t8, t9⟩ := t5
      clear k tm
      go_enter Try.func59, Try.ntmps59
      go_wp2_with fail
      (refine (divisible_ok a b _ H.out).mono ?_; rintro e w1 ⟨rfl, hb1⟩; have hB1 : Below w.heap.size w w1 := (by refine Below.trans ?_ (hb1.mono (by first | omega | (simp; done) | (simp; omega))); (repeat (first | exact Below.refl _ _ | assumption | refine Below.drew ?_ | refine below_drewN ?_ _ | refine Below.setCell ?_ (by first | omega | (simp; done) | (simp; omega)) _ | refine Below.alloc ?_ (by first | omega | (simp; done) | (simp; omega)) _))); have hsz1 : w.heap.size ≤ w1.heap.size := hB1.size)
      go_wp2_with fail
      go_quiet (fail)
      go_wp2
      go_ret3
      exact ⟨ret_int3 0 ⟨E.out.1.symm, E.out.2.symm⟩, by (repeat (first | exact Below.refl _ _ | assumption | refine Below.drew ?_ | refine below_drewN ?_ _ | refine Below.setCell ?_ (by first | omega | (simp; done) | (simp; omega)) _ | refine Below.alloc ?_ (by first | omega | (simp; done) | (simp; omega)) _))⟩
    · have e1 : decide (a.tmod b < 0) = false := decide_eq_false s1
      have e2 : decide (b < 0) = true := decide_eq_true s2
      have E := Lib.hid (fl_adj (a := a) (b := b) ⟨k, fun q => s1 (q.2 s2)⟩)
      have t5 := tm.2 (by omega)
      obtain ⟨t6, t7⟩ := t4
      obtain ⟨t8, t9⟩ := t5
      clear k tm
      go_enter Try.func59, Try.ntmps59
      go_wp2_with fail
      (refine (divisible_ok a b _ H.out).mono ?_; rintro e w1 ⟨rfl, hb1⟩; have hB1 : Below w.heap.size w w1 := (by refine Below.trans ?_ (hb1.mono (by first | omega | (simp; done) | (simp; omega))); (repeat (first | exact Below.refl _ _ | assumption | refine Below.drew ?_ | refine below_drewN ?_ _ | refine Below.setCell ?_ (by first | omega | (simp; done) | (simp; omega)) _ | refine Below.alloc ?_ (by first | omega | (simp; done) | (simp; omega)) _))); have hsz1 : w.heap.size ≤ w1.heap.size := hB1.size)
      go_wp2_with fail
      go_quiet (fail)
      go_wp2
      go_ret3
      exact ⟨ret_int3 0 ⟨E.out.1.symm, E.out.2.symm⟩, by (repeat (first | exact Below.refl _ _ | assumption | refine Below.drew ?_ | refine below_drewN ?_ _ | refine Below.setCell ?_ (by first | omega | (simp; done) | (simp; omega)) _ | refine Below.alloc ?_ (by first | omega | (simp; done) | (simp; omega)) _))⟩
    · have e1 : decide (a.tmod b < 0) = false := decide_eq_false s1
      have e2 : decide (b < 0) = false := decide_eq_false s2
      have E := Lib.hid (fl_same (a := a) (b := b) (fun q => q.2 ⟨fun c => absurd c s1, fun c => absurd c s2⟩))
      clear k tm t4
      go_enter Try.func59, Try.ntmps59
      go_wp2_with fail
      (refine (divisible_ok a b _ H.out).mono ?_; rintro e w1 ⟨rfl, hb1⟩; have hB1 : Below w.heap.size w w1 := (by refine Below.trans ?_ (hb1.mono (by first | omega | (simp; done) | (simp; omega))); (repeat (first | exact Below.refl _ _ | assumption | refine Below.drew ?_ | refine below_drewN ?_ _ | refine Below.setCell ?_ (by first | omega | (simp; done) | (simp; omega)) _ | refine Below.alloc ?_ (by first | omega | (simp; done) | (simp; omega)) _))); have hsz1 : w.heap.size ≤ w1.heap.size := hB1.size)
      go_wp2_with fail
      go_quiet (fail)
      go_wp2
      go_ret3
      exact ⟨ret_int3 0 ⟨E.out.1.symm, E.out.2.symm⟩, by (repeat (first | exact Below.refl _ _ | assumption | refine Below.drew ?_ | refine below_drewN ?_ _ | refine Below.setCell ?_ (by first | omega | (simp; done) | (simp; omega)) _ | refine Below.alloc ?_ (by first | omega | (simp; done) | (simp; omega)) _))⟩
set_option maxHeartbeats 400000 in
theorem floor2_zero (a : Int) (w : World) :
    Calls Try.prog 59 #[.int .i64 a, .int .i64 0] w fun e w' => e = .returned (.tuple #[.int .i64 0, .int .i64 0, .int .i64 3]) ∧ Below w.heap.size w w' := by
  go_enter Try.func59, Try.ntmps59
  go_wp2_with fail
  (refine (divisible_zero a _).mono ?_; rintro e w1 ⟨rfl, hb1⟩; have hB1 : Below w.heap.size w w1 := (by refine Below.trans ?_ (hb1.mono (by first | omega | (simp; done) | (simp; omega))); (repeat (first | exact Below.refl _ _ | assumption | refine Below.drew ?_ | refine below_drewN ?_ _ | refine Below.setCell ?_ (by first | omega | (simp; done) | (simp; omega)) _ | refine Below.alloc ?_ (by first | omega | (simp; done) | (simp; omega)) _))); have hsz1 : w.heap.size ≤ w1.heap.size := hB1.size)
  go_wp2
  go_ret3
  exact ⟨rfl, by (repeat (first | exact Below.refl _ _ | assumption | refine Below.drew ?_ | refine below_drewN ?_ _ | refine Below.setCell ?_ (by first | omega | (simp; done) | (simp; omega)) _ | refine Below.alloc ?_ (by first | omega | (simp; done) | (simp; omega)) _))⟩
set_option maxHeartbeats 400000 in
theorem floor2_wide (w : World) :
    Calls Try.prog 59 #[.int .i64 (-9223372036854775808), .int .i64 (-1)] w fun e w' => e = .returned (.tuple #[.int .i64 0, .int .i64 0, .int .i64 4]) ∧ Below w.heap.size w w' := by
  go_enter Try.func59, Try.ntmps59
  go_wp2_with fail
  (refine (divisible_wide _).mono ?_; rintro e w1 ⟨rfl, hb1⟩; have hB1 : Below w.heap.size w w1 := (by refine Below.trans ?_ (hb1.mono (by first | omega | (simp; done) | (simp; omega))); (repeat (first | exact Below.refl _ _ | assumption | refine Below.drew ?_ | refine below_drewN ?_ _ | refine Below.setCell ?_ (by first | omega | (simp; done) | (simp; omega)) _ | refine Below.alloc ?_ (by first | omega | (simp; done) | (simp; omega)) _))); have hsz1 : w.heap.size ≤ w1.heap.size := hB1.size)
  go_wp2
  go_ret3
  exact ⟨rfl, by (repeat (first | exact Below.refl _ _ | assumption | refine Below.drew ?_ | refine below_drewN ?_ _ | refine Below.setCell ?_ (by first | omega | (simp; done) | (simp; omega)) _ | refine Below.alloc ?_ (by first | omega | (simp; done) | (simp; omega)) _))⟩

/-- What Floor answers: quotient, what is left, error. -/
def fE (a b : Int) : Int := if b = 0 then 3 else if a = -9223372036854775808 ∧ b = -1 then 4 else 0
def fQ (a b : Int) : Int := if fE a b = 0 then flQ a b else 0
def fR (a b : Int) : Int := if fE a b = 0 then flR a b else 0
def cQ (a b : Int) : Int := if fE a b = 0 then clQ a b else 0
theorem fE_ok {a b : Int} (h : Dvb a b) : fE a b = 0 := by unfold fE; rw [if_neg h.1, if_neg h.2]
theorem fE_ways (a b : Int) : (Dvb a b ∧ fE a b = 0) ∨ (b = 0 ∧ fE a b = 3) ∨ (a = -9223372036854775808 ∧ b = -1 ∧ fE a b = 4) := by
  unfold fE Dvb
  by_cases h : b = 0
  · rw [if_pos h]; exact .inr (.inl ⟨h, rfl⟩)
  · rw [if_neg h]
    by_cases k : a = -9223372036854775808 ∧ b = -1
    · rw [if_pos k]; exact .inr (.inr ⟨k.1, k.2, rfl⟩)
    · rw [if_neg k]; exact .inl ⟨⟨h, k⟩, rfl⟩
theorem floor2_any (a b : Int) (w : World) (ia : In64 a) (ib : In64 b) :
    Calls Try.prog 59 #[.int .i64 a, .int .i64 b] w fun e w' => e = .returned (.tuple #[.int .i64 (fQ a b), .int .i64 (fR a b), .int .i64 (fE a b)]) ∧ Below w.heap.size w w' := by
  unfold fQ fR
  rcases fE_ways a b with ⟨h, e⟩ | ⟨rfl, e⟩ | ⟨rfl, rfl, e⟩
  · rw [e, if_pos rfl, if_pos rfl]; exact floor2_ok a b w h ia ib
  · rw [e, if_neg (by decide), if_neg (by decide)]; exact floor2_zero a w
  · rw [e, if_neg (by decide), if_neg (by decide)]; exact floor2_wide w

def cP (n lo hi : Int) : Int := if hi < lo then 0 else if n < lo then lo else if hi < n then hi else n
def clX (lo hi : Int) : Int := if hi < lo then 1 else 0
end Go.Proofs.Ytllamakemgogaaa
/-
  Contracts of package whole and of its reference: Gcd.
-/
namespace Go.Proofs.Ytllamakemgogaaa
open Go.RowKit

theorem u64_neg (n : Int) (h0 : n < 0) (h1 : -9223372036854775808 ≤ n) : IntKind.u64.wrap (-IntKind.u64.wrap n) = -n := by
  have e : ∀ m : Int, IntKind.u64.wrap m = m % 18446744073709551616 := fun m => rfl
  rw [e, e]; omega
/-- A row of ints that is read: as a list. -/
def RowL (W : World) (a : Option Addr) (l : List Int) (c : Nat) : Prop :=
  l.length ≤ c ∧ (l = [] ∨ ∃ b off, a = some ⟨b, off, none⟩ ∧ b < W.heap.size ∧ ∀ i, i < l.length → W.cell? ⟨b, off + i, none⟩ = some (.int .i64 (l.getD i 0)))
def AllI (l : List Int) : Prop := ∀ x ∈ l, In64 x
theorem RowL.keep {W W' : World} {a : Option Addr} {l : List Int} {c : Nat} (h : RowL W a l c) (hb : Below W.heap.size W W') : RowL W' a l c := by
  obtain ⟨h0, h | ⟨b, off, ha, hl, h⟩⟩ := h
  · exact ⟨h0, .inl h⟩
  · exact ⟨h0, .inr ⟨b, off, ha, Nat.lt_of_lt_of_le hl hb.size, fun i hi => keepc hb (h i hi)⟩⟩
theorem RowL.at {W : World} {a : Option Addr} {l : List Int} {c : Nat} (h : RowL W a l c) {i : Nat} (hi : i < l.length) : ∃ b off, a = some ⟨b, off, none⟩ ∧ b < W.heap.size ∧ W.cell? ⟨b, off + i, none⟩ = some (.int .i64 (l.getD i 0)) := by
  obtain ⟨h0, rfl | ⟨b, off, ha, hl, h⟩⟩ := h
  · cases hi
  · exact ⟨b, off, ha, hl, h i hi⟩
theorem getD_mem {l : List Int} {i : Nat} (h : i < l.length) : l.getD i 0 ∈ l := by
  have e : l.getD i 0 = l[i] := by simp [List.getD, h]
  rw [e]; exact List.getElem_mem h
theorem take_getD {l : List Int} {i : Nat} (h : i < l.length) : l.take (i + 1) = l.take i ++ [l.getD i 0] := by
  have e : l.getD i 0 = l[i] := by simp [List.getD, h]
  rw [e, List.take_succ_eq_append_getElem h]
theorem gcdL_take_bd {l : List Int} (h : AllI l) (k : Nat) : gcdL (l.take k) ≤ 9223372036854775808 :=
  gcdL_bd _ _ fun x hx => by have := h x (List.mem_of_mem_take hx); unfold In64 at this; omega
theorem gcdL_snoc (l : List Int) (x : Int) : gcdL (l ++ [x]) = Nat.gcd (gcdL l) x.natAbs := by rw [gcdL_append]; simp [gcdL]

/-- What Gcd answers. -/
def gP (l : List Int) : Int := if gcdL l = 9223372036854775808 then 0 else gcdL l
def gX (l : List Int) : Int := if gcdL l = 9223372036854775808 then 4 else 0

end Go.Proofs.Ytllamakemgogaaa
/-
  Contracts of package frac: Cmp whatever stands there, Floor, Reduce.
-/
namespace Go.Proofs.Ytllamakemgogaaa
open Go.RowKit

theorem fcmp_any (an ad bn bd : Int) (w : World) :
    Calls Try.prog 19 #[.agg #[.int .i64 an, .int .i64 ad], .agg #[.int .i64 bn, .int .i64 bd]] w fun e w' => e = .returned (.int .i64 (cmpF an ad bn bd)) ∧ Below w.heap.size w w' := by
  by_cases h : FR an ad ∧ FR bn bd
  · exact fcmp_right an ad bn bd w h.1 h.2
  · exact fcmp_other an ad bn bd w h

theorem flQ_div (n d : Int) (hd : 1 ≤ d) : flQ n d = n / d := by
  obtain ⟨e, p, _⟩ := fl_spec n d (by omega)
  obtain ⟨p0, p1⟩ := p (by omega)
  exact (fd_unique n d (flQ n d) (flR n d) hd e.symm p0 p1).1.symm
/-- What Floor answers. -/
def flF (n d : Int) : Int := if FR n d then n / d else 0
def erF (n d : Int) : Int := if FR n d then 0 else 1
theorem fr_dvb {n d : Int} (h : FR n d) : Dvb n d := ⟨by have := h.1; omega, fun k => by have := h.1; omega⟩
theorem fr_in {n d : Int} (h : FR n d) : In64 n ∧ In64 d := by unfold FR at h; unfold In64; omega
/-! Reduce. -/
def gcF (n d : Int) : Int := Nat.gcd n.natAbs d.natAbs
def rdN (n d : Int) : Int := if FR n d then n.tdiv (gcF n d) else 0
def rdD (n d : Int) : Int := if FR n d then d.tdiv (gcF n d) else 0
theorem gcF_bd {n d : Int} (h : FR n d) : 1 ≤ gcF n d ∧ gcF n d ≤ d := by
  have p : 0 < d.natAbs := by have := h.1; omega
  have q := Nat.gcd_pos_of_pos_right n.natAbs p
  have r := Nat.gcd_le_right n.natAbs p
  unfold gcF
  have := h.1
  omega
theorem gP_pair {n d : Int} (h : FR n d) : gP [n, d] = gcF n d ∧ gX [n, d] = 0 := by
  have b := gcF_bd h
  have e : gcdL [n, d] = Nat.gcd n.natAbs d.natAbs := by simp [gcdL]
  have := h.2.1
  unfold gP gX
  rw [e]
  unfold gcF at b ⊢
  rw [if_neg (by omega), if_neg (by omega)]
  exact ⟨rfl, rfl⟩
theorem td_le (x g : Int) : (x.tdiv g).natAbs ≤ x.natAbs := by
  rw [Int.natAbs_tdiv]
  exact Nat.div_le_self _ _
theorem rowL_two {W : World} {g : Nat} {T : TypeId} {x y : Int} (h : Lok W g T #[.int .i64 x, .int .i64 y]) : RowL W (some ⟨g, 0, none⟩) [x, y] 2 :=
  ⟨by simp, .inr ⟨g, 0, rfl, h.lt, fun i hi => by
    match i, hi with
    | 0, _ => exact h.cell (i := 0) rfl
    | 1, _ => exact h.cell (i := 1) rfl⟩⟩
end Go.Proofs.Ytllamakemgogaaa
/-
  Contracts of package whole and of its reference: Clamp; the reference's Floor and Ceil.
-/
namespace Go.Proofs.Ytllamakemgogaaa
open Go.RowKit

set_option maxHeartbeats 1000000 in
theorem rfloor_ok (a b : Int) (w : World) (h : Dvb a b) (ia : In64 a) (ib : In64 b) :
    Calls Try.prog 48 #[.int .i64 a, .int .i64 b] w fun e w' => e = .returned (.tuple #[.int .i64 (flQ a b), .int .i64 (flR a b), .int .i64 0]) ∧ Below w.heap.size w w' := by
  have td := td_bd a b h.1 ia.1 ia.2 h.2
  have tm := tm_bd a b h.1
  obtain ⟨t1, t2, t3⟩ := td
  obtain ⟨h0, h9⟩ := h
  obtain ⟨i1, i2⟩ := ia
  obtain ⟨i3, i4⟩ := ib
  have d0 : (b == 0) = false := by rw [beq_eq_false_iff_ne]; exact h0
  have dd : ((a == -9223372036854775808) = true ∧ (b == -1) = false) ∨ (a == -9223372036854775808) = false := by
    by_cases k : a = -9223372036854775808
    · exact .inl ⟨beq_iff_eq.2 k, by rw [beq_eq_false_iff_ne]; exact fun k2 => h9 ⟨k, k2⟩⟩
    · exact .inr (by rw [beq_eq_false_iff_ne]; exact k)
  clear h9
  rcases dd with ⟨d1, d2⟩ | d1
  · by_cases k : a.tmod b = 0
    · have k1 : (a.tmod b != 0) = false := by rw [k]; rfl
      have E := Lib.hid (fl_same (a := a) (b := b) (fun q => q.1 k))
      clear k tm t3
      go_enter Try.func48, Try.ntmps48
      go_wp2
      go_ret3
      exact ⟨ret_int3 0 ⟨E.out.1.symm, E.out.2.symm⟩, by (repeat (first | exact Below.refl _ _ | assumption | refine Below.drew ?_ | refine below_drewN ?_ _ | refine Below.setCell ?_ (by first | omega | (simp; done) | (simp; omega)) _ | refine Below.alloc ?_ (by first | omega | (simp; done) | (simp; omega)) _))⟩
    · have k1 : (a.tmod b != 0) = true := by rw [bne_iff_ne]; exact k
      have t4 := t3 k
      clear t3
      obtain ⟨t6, t7⟩ := t4
      by_cases s1 : a.tmod b < 0 <;> by_cases s2 : b < 0
      · have e1 : decide (a.tmod b < 0) = true := decide_eq_true s1
        have e2 : decide (b < 0) = true := decide_eq_true s2
        have E := Lib.hid (fl_same (a := a) (b := b) (fun q => q.2 (⟨fun _ => s2, fun _ => s1⟩)))
        clear k tm
        go_enter Try.func48, Try.ntmps48
        go_wp2
        go_ret3
        exact ⟨ret_int3 0 ⟨E.out.1.symm, E.out.2.symm⟩, by (repeat (first | exact Below.refl _ _ | assumption | refine Below.drew ?_ | refine below_drewN ?_ _ | refine Below.setCell ?_ (by first | omega | (simp; done) | (simp; omega)) _ | refine Below.alloc ?_ (by first | omega | (simp; done) | (simp; omega)) _))⟩
      · have e1 : decide (a.tmod b < 0) = true := decide_eq_true s1
        have e2 : decide (b < 0) = false := decide_eq_false s2
        have E := Lib.hid (fl_adj (a := a) (b := b) ⟨k, fun q => s2 (q.1 s1)⟩)
        obtain ⟨t8, t9⟩ := tm.1 (by omega)
        clear k tm
        go_enter Try.func48, Try.ntmps48
        go_wp2
        go_ret3
        exact ⟨ret_int3 0 ⟨E.out.1.symm, E.out.2.symm⟩, by (repeat (first | exact Below.refl _ _ | assumption | refine Below.drew ?_ | refine below_drewN ?_ _ | refine Below.setCell ?_ (by first | omega | (simp; done) | (simp; omega)) _ | refine Below.alloc ?_ (by first | omega | (simp; done) | (simp; omega)) _))⟩
      · have e1 : decide (a.tmod b < 0) = false := decide_eq_false s1
        have e2 : decide (b < 0) = true := decide_eq_true s2
        have E := Lib.hid (fl_adj (a := a) (b := b) ⟨k, fun q => s1 (q.2 s2)⟩)
        obtain ⟨t8, t9⟩ := tm.2 (by omega)
        clear k tm
        go_enter Try.func48, Try.ntmps48
        go_wp2
        go_ret3
        exact ⟨ret_int3 0 ⟨E.out.1.symm, E.out.2.symm⟩, by (repeat (first | exact Below.refl _ _ | assumption | refine Below.drew ?_ | refine below_drewN ?_ _ | refine Below.setCell ?_ (by first | omega | (simp; done) | (simp; omega)) _ | refine Below.alloc ?_ (by first | omega | (simp; done) | (simp; omega)) _))⟩
      · have e1 : decide (a.tmod b < 0) = false := decide_eq_false s1
        have e2 : decide (b < 0) = false := decide_eq_false s2
        have E := Lib.hid (fl_same (a := a) (b := b) (fun q => q.2 (⟨fun c => absurd c s1, fun c => absurd c s2⟩)))
        clear k tm
        go_enter Try.func48, Try.ntmps48
        go_wp2
        go_ret3
        exact ⟨ret_int3 0 ⟨E.out.1.symm, E.out.2.symm⟩, by (repeat (first | exact Below.refl _ _ | assumption | refine Below.drew ?_ | refine below_drewN ?_ _ | refine Below.setCell ?_ (by first | omega | (simp; done) | (simp; omega)) _ | refine Below.alloc ?_ (by first | omega | (simp; done) | (simp; omega)) _))⟩
  · by_cases k : a.tmod b = 0
    · have k1 : (a.tmod b != 0) = false := by rw [k]; rfl
      have E := Lib.hid (fl_same (a := a) (b := b) (fun q => q.1 k))
      clear k tm t3
      go_enter Try.func48, Try.ntmps48
      go_wp2
      go_ret3
      exact ⟨ret_int3 0 ⟨E.out.1.symm, E.out.2.symm⟩, by (repeat (first | exact Below.refl _ _ | assumption | refine Below.drew ?_ | refine below_drewN ?_ _ | refine Below.setCell ?_ (by first | omega | (simp; done) | (simp; omega)) _ | refine Below.alloc ?_ (by first | omega | (simp; done) | (simp; omega)) _))⟩
    · have k1 : (a.tmod b != 0) = true := by rw [bne_iff_ne]; exact k
      have t4 := t3 k
      clear t3
      obtain ⟨t6, t7⟩ := t4
      by_cases s1 : a.tmod b < 0 <;> by_cases s2 : b < 0
      · have e1 : decide (a.tmod b < 0) = true := decide_eq_true s1
        have e2 : decide (b < 0) = true := decide_eq_true s2
        have E := Lib.hid (fl_same (a := a) (b := b) (fun q => q.2 (⟨fun _ => s2, fun _ => s1⟩)))
        clear k tm
        go_enter Try.func48, Try.ntmps48
        go_wp2
        go_ret3
        exact ⟨ret_int3 0 ⟨E.out.1.symm, E.out.2.symm⟩, by (repeat (first | exact Below.refl _ _ | assumption | refine Below.drew ?_ | refine below_drewN ?_ _ | refine Below.setCell ?_ (by first | omega | (simp; done) | (simp; omega)) _ | refine Below.alloc ?_ (by first | omega | (simp; done) | (simp; omega)) _))⟩
      · have e1 : decide (a.tmod b < 0) = true := decide_eq_true s1
        have e2 : decide (b < 0) = false := decide_eq_false s2
        have E := Lib.hid (fl_adj (a := a) (b := b) ⟨k, fun q => s2 (q.1 s1)⟩)
        obtain ⟨t8, t9⟩ := tm.1 (by omega)
        clear k tm
        go_enter Try.func48, Try.ntmps48
        go_wp2
        go_ret3
        exact ⟨ret_int3 0 ⟨E.out.1.symm, E.out.2.symm⟩, by (repeat (first | exact Below.refl _ _ | assumption | refine Below.drew ?_ | refine below_drewN ?_ _ | refine Below.setCell ?_ (by first | omega | (simp; done) | (simp; omega)) _ | refine Below.alloc ?_ (by first | omega | (simp; done) | (simp; omega)) _))⟩
      · have e1 : decide (a.tmod b < 0) = false := decide_eq_false s1
        have e2 : decide (b < 0) = true := decide_eq_true s2
        have E := Lib.hid (fl_adj (a := a) (b := b) ⟨k, fun q => s1 (q.2 s2)⟩)
        obtain ⟨t8, t9⟩ := tm.2 (by omega)
        clear k tm
        go_enter Try.func48, Try.ntmps48
        go_wp2
        go_ret3
        exact ⟨ret_int3 0 ⟨E.out.1.symm, E.out.2.symm⟩, by (repeat (first | exact Below.refl _ _ | assumption | refine Below.drew ?_ | refine below_drewN ?_ _ | refine Below.setCell ?_ (by first | omega | (simp; done) | (simp; omega)) _ | refine Below.alloc ?_ (by first | omega | (simp; done) | (simp; omega)) _))⟩
      · have e1 : decide (a.tmod b < 0) = false := decide_eq_false s1
        have e2 : decide (b < 0) = false := decide_eq_false s2
        have E := Lib.hid (fl_same (a := a) (b := b) (fun q => q.2 (⟨fun c => absurd c s1, fun c => absurd c s2⟩)))
        clear k tm
        go_enter Try.func48, Try.ntmps48
        go_wp2
        go_ret3
        exact ⟨ret_int3 0 ⟨E.out.1.symm, E.out.2.symm⟩, by (repeat (first | exact Below.refl _ _ | assumption | refine Below.drew ?_ | refine below_drewN ?_ _ | refine Below.setCell ?_ (by first | omega | (simp; done) | (simp; omega)) _ | refine Below.alloc ?_ (by first | omega | (simp; done) | (simp; omega)) _))⟩
theorem rfloor_zero (a : Int) (w : World) :
    Calls Try.prog 48 #[.int .i64 a, .int .i64 0] w fun e w' => e = .returned (.tuple #[.int .i64 0, .int .i64 0, .int .i64 3]) ∧ Below w.heap.size w w' := by
  go_enter Try.func48, Try.ntmps48
  go_wp2
  go_ret3
  exact ⟨rfl, by (repeat (first | exact Below.refl _ _ | assumption | refine Below.drew ?_ | refine below_drewN ?_ _ | refine Below.setCell ?_ (by first | omega | (simp; done) | (simp; omega)) _ | refine Below.alloc ?_ (by first | omega | (simp; done) | (simp; omega)) _))⟩
theorem rfloor_wide (w : World) :
    Calls Try.prog 48 #[.int .i64 (-9223372036854775808), .int .i64 (-1)] w fun e w' => e = .returned (.tuple #[.int .i64 0, .int .i64 0, .int .i64 4]) ∧ Below w.heap.size w w' := by
  go_enter Try.func48, Try.ntmps48
  go_wp2
  go_ret3
  exact ⟨rfl, by (repeat (first | exact Below.refl _ _ | assumption | refine Below.drew ?_ | refine below_drewN ?_ _ | refine Below.setCell ?_ (by first | omega | (simp; done) | (simp; omega)) _ | refine Below.alloc ?_ (by first | omega | (simp; done) | (simp; omega)) _))⟩
theorem rfloor_any (a b : Int) (w : World) (ia : In64 a) (ib : In64 b) :
    Calls Try.prog 48 #[.int .i64 a, .int .i64 b] w fun e w' => e = .returned (.tuple #[.int .i64 (fQ a b), .int .i64 (fR a b), .int .i64 (fE a b)]) ∧ Below w.heap.size w w' := by
  unfold fQ fR
  rcases fE_ways a b with ⟨h, e⟩ | ⟨rfl, e⟩ | ⟨rfl, rfl, e⟩
  · rw [e, if_pos rfl, if_pos rfl]; exact rfloor_ok a b w h ia ib
  · rw [e, if_neg (by decide), if_neg (by decide)]; exact rfloor_zero a w
  · rw [e, if_neg (by decide), if_neg (by decide)]; exact rfloor_wide w
end Go.Proofs.Ytllamakemgogaaa
