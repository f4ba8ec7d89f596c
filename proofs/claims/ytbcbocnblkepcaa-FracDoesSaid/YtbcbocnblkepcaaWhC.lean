/-
  Contracts of package whole and of its reference: Gcd.
-/
import Derived.Test.YtbcbocnblkepcaaWhA
namespace Go.Proofs.Ytbcbocnblkepcaa
open Go.RowKit

theorem size_pos (n : Int) (w : World) (h0 : 0 ≤ n) (h1 : n ≤ 9223372036854775807) :
    Calls Try.prog 39 #[.int .i64 n] w fun e w' => e = .returned (.int .u64 n.natAbs) ∧ w = w' := by
  have e : (n.natAbs : Int) = n := by omega
  rw [e]
  clear e
  go_enter Try.func39, Try.ntmps39
  go_wp2
  go_ret
  exact ⟨rfl, rfl⟩
theorem u64_neg (n : Int) (h0 : n < 0) (h1 : -9223372036854775808 ≤ n) : IntKind.u64.wrap (-IntKind.u64.wrap n) = -n := by
  have e : ∀ m : Int, IntKind.u64.wrap m = m % 18446744073709551616 := fun m => rfl
  rw [e, e]; omega
theorem size_neg (n : Int) (w : World) (h0 : n < 0) (h1 : -9223372036854775808 ≤ n) :
    Calls Try.prog 39 #[.int .i64 n] w fun e w' => e = .returned (.int .u64 n.natAbs) ∧ w = w' := by
  have e : (n.natAbs : Int) = -n := by omega
  have E := Lib.hid (u64_neg n h0 h1)
  rw [e]
  clear e
  go_enter Try.func39, Try.ntmps39
  go_wp2
  go_ret
  exact ⟨congrArg (fun m : Int => Ending.returned (.int .u64 m)) E.out, rfl⟩
theorem size_one (n : Int) (w : World) (h : In64 n) :
    Calls Try.prog 39 #[.int .i64 n] w fun e w' => e = .returned (.int .u64 n.natAbs) ∧ w = w' := by
  by_cases h0 : 0 ≤ n
  · exact size_pos n w h0 h.2
  · exact size_neg n w (by omega) h.1

set_option maxHeartbeats 400000 in
theorem common_any (a b : Nat) (w : World) (ha : a ≤ 9223372036854775808) (hb : b ≤ 9223372036854775808) :
    Calls Try.prog 38 #[.int .u64 a, .int .u64 b] w fun e w' => e = .returned (.int .u64 (Nat.gcd a b)) ∧ Below w.heap.size w w' := by
  go_enter Try.func38, Try.ntmps38
  go_wp2_with fail
  go_loopw [0, 1] (fun x y wr => ∃ c d : Nat, x = .int .u64 c ∧ y = .int .u64 d ∧ c ≤ 9223372036854775808 ∧ d ≤ 9223372036854775808 ∧ Hid (Nat.gcd c d = Nat.gcd a b) ∧ Below w.heap.size w wr) (fun _ y _ => (intOf y).toNat)
  case atStart => exact ⟨a, b, rfl, rfl, ha, hb, Lib.hid rfl, by (repeat (first | exact Below.refl _ _ | assumption | refine Below.drew ?_ | refine below_drewN ?_ _ | refine Below.setCell ?_ (by first | omega | (simp; done) | (simp; omega)) _ | refine Below.alloc ?_ (by first | omega | (simp; done) | (simp; omega)) _))⟩
  case round =>
    obtain ⟨c, d, rfl, rfl, h1, h2, G, hB⟩ := hrel
    rcases Nat.eq_zero_or_pos d with h0 | h0
    · subst h0
      have e := G.out
      rw [Nat.gcd_zero_right] at e
      have E := Lib.hid e
      clear e G
      go_wp2
      go_ret
      exact ⟨congrArg (fun n : Nat => Ending.returned (.int .u64 n)) E.out, hB⟩
    · have d0 : ((d : Int) != 0) = true := by rw [bne_iff_ne]; omega
      have d1 : ((d : Int) == 0) = false := by rw [beq_eq_false_iff_ne]; omega
      have hlt : c % d < d := Nat.mod_lt _ h0
      go_wp2_with fail
      go_quiet (fail)
      go_wp2
      go_roundw
      case rel => exact ⟨d, c % d, rfl, rfl, h2, by omega, Lib.hid (by rw [← G.out, Nat.gcd_comm c d, Nat.gcd_rec d c, Nat.gcd_comm (c % d) d]), by (repeat (first | exact Below.refl _ _ | assumption | refine Below.drew ?_ | refine below_drewN ?_ _ | refine Below.setCell ?_ (by first | omega | (simp; done) | (simp; omega)) _ | refine Below.alloc ?_ (by first | omega | (simp; done) | (simp; omega)) _))⟩
      case measure => simp [intOf]; omega

/-- A row of ints that is read: as a list. -/
def RowL (W : World) (a : Option Addr) (l : List Int) (c : Nat) : Prop :=
  l.length ≤ c ∧ (l = [] ∨ ∃ b off, a = some ⟨b, off, none⟩ ∧ b < W.heap.size ∧ ∀ i, i < l.length → W.cell? ⟨b, off + i, none⟩ = some (.int .i64 (l.getD i 0)))
def AllI (l : List Int) : Prop := ∀ x ∈ l, In64 x
theorem RowL.keep {W W' : World} {a : Option Addr} {l : List Int} {c : Nat} (h : RowL W a l c) (hb : Below W.heap.size W W') : RowL W' a l c := by
  obtain ⟨h0, h | ⟨b, off, ha, hl, h⟩⟩ := h
  · exact ⟨h0, .inl h⟩
  · exact ⟨h0, .inr ⟨b, off, ha, Nat.lt_of_lt_of_le hl hb.size, fun i hi => keepc hb (h i hi)⟩⟩
theorem RowL.at {W : World} {a : Option Addr} {l : List Int} {c : Nat} (h : RowL W a l c) {i : Nat} (hi : i < l.length) : ∃ b off, a = some ⟨b, off, none⟩ ∧ b < W.heap.size ∧ W.cell? ⟨b, off + i, none⟩ = some (.int .i64 (l.getD i 0)) := by
  obtain ⟨h0, rfl | ⟨b, off, ha, hl, h⟩⟩ := h
  · cases hi
  · exact ⟨b, off, ha, hl, h i hi⟩
theorem getD_mem {l : List Int} {i : Nat} (h : i < l.length) : l.getD i 0 ∈ l := by
  have e : l.getD i 0 = l[i] := by simp [List.getD, h]
  rw [e]; exact List.getElem_mem h
theorem take_getD {l : List Int} {i : Nat} (h : i < l.length) : l.take (i + 1) = l.take i ++ [l.getD i 0] := by
  have e : l.getD i 0 = l[i] := by simp [List.getD, h]
  rw [e, List.take_succ_eq_append_getElem h]
theorem gcdL_take_bd {l : List Int} (h : AllI l) (k : Nat) : gcdL (l.take k) ≤ 9223372036854775808 :=
  gcdL_bd _ _ fun x hx => by have := h x (List.mem_of_mem_take hx); unfold In64 at this; omega
theorem gcdL_snoc (l : List Int) (x : Int) : gcdL (l ++ [x]) = Nat.gcd (gcdL l) x.natAbs := by rw [gcdL_append]; simp [gcdL]

/-- What Gcd answers. -/
def gP (l : List Int) : Int := if gcdL l = 9223372036854775808 then 0 else gcdL l
def gX (l : List Int) : Int := if gcdL l = 9223372036854775808 then 4 else 0

set_option maxRecDepth 100000 in
set_option maxHeartbeats 1000000 in
theorem gcd_any (a : Option Addr) (l : List Int) (c : Nat) (w : World) (hr : RowL w a l c) (hi : AllI l) (hc : c ≤ 9223372036854775807) :
    Calls Try.prog 25 #[.slice a l.length c] w fun e w' => e = .returned (.tuple #[.int .i64 (gP l), .int .i64 (gX l)]) ∧ Below w.heap.size w w' := by
  have R := Lib.hid hr
  have I := Lib.hid hi
  have hn : l.length ≤ 9223372036854775807 := Nat.le_trans hr.1 hc
  clear hr hi
  go_enter Try.func25, Try.ntmps25
  go_wp2_with fail
  go_loopw [4, 9] (fun x y wr => ∃ k g : Nat, x = .int .u64 g ∧ y = .int .i64 k ∧ k ≤ l.length ∧ g ≤ 9223372036854775808 ∧ Hid (g = gcdL (l.take k)) ∧ Below w.heap.size w wr) (fun _ y _ => l.length - (intOf y).toNat)
  case atStart => exact ⟨0, 0, rfl, rfl, by omega, by omega, Lib.hid rfl, by (repeat (first | exact Below.refl _ _ | assumption | refine Below.drew ?_ | refine below_drewN ?_ _ | refine Below.setCell ?_ (by first | omega | (simp; done) | (simp; omega)) _ | refine Below.alloc ?_ (by first | omega | (simp; done) | (simp; omega)) _))⟩
  case round =>
    obtain ⟨k, g, rfl, rfl, hk, hg, G, hB⟩ := hrel
    have hsz := hB.size
    by_cases hlt : k < l.length
    · obtain ⟨b, off, rfl, hl, hcell⟩ := (R.out.keep hB).at hlt
      have hx := I.out _ (getD_mem hlt)
      have T := Lib.hid (take_getD hlt)
      have N := Lib.hid (gcdL_take_bd I.out (k + 1))
      generalize l.getD k 0 = x at *
      have X := Lib.hid hx
      have hx1 : x.natAbs ≤ 9223372036854775808 := by unfold In64 at hx; omega
      clear hx
      go_wp2_with (first
        | (go_at_call 39; refine (size_one x _ X.out).mono ?_; rintro e w' ⟨rfl, rfl⟩)
        | (go_at_call 38; refine (common_any g x.natAbs _ hg hx1).mono ?_; rintro e w2 ⟨rfl, hb2⟩; have hB2 : Below w.heap.size w w2 := (by refine Below.trans ?_ (hb2.mono (by first | omega | (simp; done) | (simp; omega))); (repeat (first | exact Below.refl _ _ | assumption | refine Below.drew ?_ | refine below_drewN ?_ _ | refine Below.setCell ?_ (by first | omega | (simp; done) | (simp; omega)) _ | refine Below.alloc ?_ (by first | omega | (simp; done) | (simp; omega)) _))); have hsz2 : w.heap.size ≤ w2.heap.size := hB2.size))
      go_roundw
      case rel =>
        have e : g.gcd x.natAbs = gcdL (l.take (k + 1)) := by rw [T.out, gcdL_snoc, ← G.out]
        exact ⟨k + 1, g.gcd x.natAbs, rfl, by go_num, hlt, by rw [e]; exact N.out, Lib.hid e, by (repeat (first | exact Below.refl _ _ | assumption | refine Below.drew ?_ | refine below_drewN ?_ _ | refine Below.setCell ?_ (by first | omega | (simp; done) | (simp; omega)) _ | refine Below.alloc ?_ (by first | omega | (simp; done) | (simp; omega)) _))⟩
      case measure => simp [intOf]; omega
    · have e : g = gcdL l := by have := G.out; rwa [List.take_of_length_le (by omega)] at this
      by_cases h0 : g = 9223372036854775808
      · have P : Hid (gP l = 0 ∧ gX l = 4) := Lib.hid (by unfold gP gX; rw [← e, if_pos h0, if_pos h0]; exact ⟨rfl, rfl⟩)
        clear e G
        subst h0
        go_wp2
        go_ret2
        exact ⟨by rw [P.out.1, P.out.2]; rfl, by (repeat (first | exact Below.refl _ _ | assumption | refine Below.drew ?_ | refine below_drewN ?_ _ | refine Below.setCell ?_ (by first | omega | (simp; done) | (simp; omega)) _ | refine Below.alloc ?_ (by first | omega | (simp; done) | (simp; omega)) _))⟩
      · have P : Hid (gP l = g ∧ gX l = 0) := Lib.hid (by unfold gP gX; rw [← e, if_neg h0, if_neg h0]; exact ⟨rfl, rfl⟩)
        have h1 : g ≤ 9223372036854775807 := by omega
        clear h0 e G
        go_wp2
        go_ret2
        exact ⟨by rw [P.out.1, P.out.2]; rfl, by (repeat (first | exact Below.refl _ _ | assumption | refine Below.drew ?_ | refine below_drewN ?_ _ | refine Below.setCell ?_ (by first | omega | (simp; done) | (simp; omega)) _ | refine Below.alloc ?_ (by first | omega | (simp; done) | (simp; omega)) _))⟩
end Go.Proofs.Ytbcbocnblkepcaa
