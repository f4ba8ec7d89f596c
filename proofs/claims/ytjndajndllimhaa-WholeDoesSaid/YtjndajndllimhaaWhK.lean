/-
  The law WholeDoes: a row of the call's own; two rows read alike; the law's walk.
-/
import Derived.Test.YtjndajndllimhaaWhE
import Derived.Test.YtjndajndllimhaaWhG
import Derived.Test.YtjndajndllimhaaWhI
namespace Go.Proofs.Ytjndajndllimhaa
open Go.RowKit

def OwnPost (l : List Int) (w : World) (e : Ending) (w' : World) : Prop := ∃ a c, e = .returned (.slice a l.length c) ∧ RowL w' a l c ∧ c ≤ 9223372036854775807 ∧ Below w.heap.size w w'

set_option maxHeartbeats 1000000 in
theorem own_none (w : World) : Calls Try.prog 9 #[.slice none 0 0] w (OwnPost [] w) := by
  obtain ⟨i0, hi, hz0, hz1, hz2⟩ := info_parts infoI
  go_enter Try.func9, Try.ntmps9
  go_wp2_with (first
    | (at_builtin; refine wpList_append_own_none _ rfl _ _ 22 rfl w.heap.size 3 i0 1 Try.underlying22 hi hz1 _ _ _ rfl (World.ownsRow_nil _ _ _ _) rfl ?_))
  go_ret
  exact ⟨none, 0, rfl, ⟨Nat.zero_le _, .inl rfl⟩, by omega, Below.refl _ _⟩
set_option maxHeartbeats 1000000 in
theorem own_some (A : Addr) (l : List Int) (c : Nat) (w : World) (hc : ∀ i, i < l.length → w.cell? (A.add i) = some (.int .i64 (l.getD i 0))) (hn : l.length ≤ 60) : Calls Try.prog 9 #[.slice (some A) l.length c] w (OwnPost l w) := by
  obtain ⟨i0, hi, hz0, hz1, hz2⟩ := info_parts infoI
  have C : Hid (∀ j u, (vals l)[j]? = some u → w.cell? (A.add j) = some u) := Lib.hid (fun j u hu => by
    have hj : j < l.length := by
      rcases Nat.lt_or_ge j l.length with h | h
      · exact h
      · rw [List.getElem?_eq_none (by unfold vals; simpa using h)] at hu; cases hu
    rw [vals_at hj] at hu
    cases hu
    exact hc j hj)
  clear hc
  go_enter Try.func9, Try.ntmps9
  go_wp2_with (first
    | (at_builtin; refine wpList_append_own_at _ rfl _ _ 22 rfl w.heap.size 3 i0 (.int .i64 0) 1 8 Try.underlying22 hi hz0 hz1 hz2 rfl (by decide) _ _ _ rfl (World.ownsRow_nil _ _ _ _) A l.length c (vals l) rfl (by unfold vals; simp) C.out ?c2 ?c3 ?c4 (Nat.le_refl _) ?_))
  case c2 => intro u hu; unfold vals at hu; obtain ⟨x, _, rfl⟩ := List.mem_map.1 hu; rfl
  case c3 => unfold maxLen; omega
  case c4 => omega
  intro v' w2 hown' hgrow _ _
  have hB : Below w.heap.size w w2 := (Below.refl _ w).grown hgrow (Nat.le_refl _) (fun g hg => by simp [Value.ownBlock] at hg)
  obtain ⟨a, d, rfl, hr, hd⟩ := rowL_of_own hown'
  have X := Lib.hid (And.intro hr (And.intro hd hB))
  clear hr hd hB hown' hgrow
  go_wp2
  go_ret
  exact ⟨a, d, rfl, X.out.1, X.out.2.1, X.out.2.2⟩
theorem own_any (a : Option Addr) (l : List Int) (c : Nat) (w : World) (hr : RowL w a l c) (h0 : a = none → c = 0) (hn : l.length ≤ 60) : Calls Try.prog 9 #[.slice a l.length c] w (OwnPost l w) := by
  rcases a with _ | A
  · rcases hr.2 with rfl | ⟨b, off, h, _⟩
    · rw [h0 rfl]; exact own_none w
    · cases h
  · refine own_some A l c w (fun i hi => ?_) hn
    obtain ⟨b, off, h, _, hc⟩ := hr.at hi
    cases h
    rw [addr_add]; exact hc

set_option maxRecDepth 100000 in
set_option maxHeartbeats 1000000 in
theorem same_rows (a b : Option Addr) (l : List Int) (c d : Nat) (w : World) (ra : RowL w a l c) (rb : RowL w b l d) (hn : l.length ≤ 60) :
    Calls Try.prog 21 #[.slice a l.length c, .slice b l.length d] w fun e w' => e = .returned (.bool true) ∧ Below w.heap.size w w' := by
  have RA := Lib.hid ra
  have RB := Lib.hid rb
  clear ra rb
  go_enter Try.func21, Try.ntmps21
  go_wp2_with fail
  go_loopw [5] (fun x wr => ∃ k : Nat, x = .int .i64 k ∧ k ≤ l.length ∧ Below w.heap.size w wr) (fun x _ => l.length - (intOf x).toNat)
  case atStart => exact ⟨0, rfl, by omega, by (repeat (first | exact Below.refl _ _ | assumption | refine Below.drew ?_ | refine below_drewN ?_ _ | refine Below.setCell ?_ (by first | omega | (simp; done) | (simp; omega)) _ | refine Below.alloc ?_ (by first | omega | (simp; done) | (simp; omega)) _))⟩
  case round =>
    obtain ⟨k, rfl, hk, hB⟩ := hrel
    by_cases hlt : k < l.length
    · obtain ⟨b1, o1, rfl, _, c1⟩ := (RA.out.keep hB).at hlt
      obtain ⟨b2, o2, rfl, _, c2⟩ := (RB.out.keep hB).at hlt
      generalize l.getD k 0 = x at *
      go_wp2_with fail
      go_quiet (fail)
      go_wp2
      go_roundw
      case rel => exact ⟨k + 1, by go_num, hlt, by (repeat (first | exact Below.refl _ _ | assumption | refine Below.drew ?_ | refine below_drewN ?_ _ | refine Below.setCell ?_ (by first | omega | (simp; done) | (simp; omega)) _ | refine Below.alloc ?_ (by first | omega | (simp; done) | (simp; omega)) _))⟩
      case measure => simp [intOf]; omega
    · go_wp2
      go_ret
      exact ⟨rfl, hB⟩

theorem sqrt_two (n : Int) (i2 : n ≤ 9223372036854775807) : ∃ R E : Int, (∀ W, Calls Try.prog 16 #[.int .i64 n] W fun e w' => e = .returned (.tuple #[.int .i64 R, .int .i64 E]) ∧ Below W.heap.size W w') ∧ ∀ W, Calls Try.prog 17 #[.int .i64 n] W fun e w' => e = .returned (.tuple #[.int .i64 R, .int .i64 E]) ∧ Below W.heap.size W w' := by
  by_cases h : n < 0
  · exact ⟨0, 1, fun W => sqrt_arg n W h, fun W => rsqrt_arg n W h⟩
  · obtain ⟨r, hr⟩ := exists_rt n (by omega)
    exact ⟨r, 0, fun W => sqrt_ok n r W (by omega) hr, fun W => rsqrt_ok n r W (by omega) i2 hr⟩

set_option maxRecDepth 100000 in
set_option maxHeartbeats 4000000 in
theorem law_does_short (a b c : Int) (l : List Int) (A : Option Addr) (cp : Nat) (w : World) (ia : In64 a) (ib : In64 b) (hr : RowL w A l cp) (hi : AllI l) (h0 : A = none → cp = 0) (hcp : cp ≤ 9223372036854775807) (hn : l.length ≤ 60) :
    Calls Try.prog 3 #[.int .i64 a, .int .i64 b, .int .i64 c, .slice A l.length cp] w fun e w' => e = .returned (.bool true) ∧ Below w.heap.size w w' := by
  obtain ⟨R, E, s1, s2⟩ := sqrt_two a ia.2
  have OW := Lib.hid (fun W (h : Below w.heap.size w W) => own_any A l cp W (hr.keep h) h0 hn)
  have F1 := Lib.hid (fun W => floor2_any a b W ia ib)
  have F2 := Lib.hid (fun W => rfloor_any a b W ia ib)
  have C1 := Lib.hid (fun W => ceil_any a b W ia ib)
  have C2 := Lib.hid (fun W => rceil_any a b W ia ib)
  have G1 := Lib.hid (fun W (h : Below w.heap.size w W) => gcd_any A l cp W (hr.keep h) hi hcp)
  have G2 := Lib.hid (fun (W : World) A cp h hcp => rgcd_any A l cp W h hi hcp)
  have K1 := Lib.hid (fun W => clamp_any a b c W)
  have K2 := Lib.hid (fun W => rclamp_any a b c W)
  have S1 := Lib.hid s1
  have S2 := Lib.hid s2
  have HR := Lib.hid hr
  clear hr hi h0 s1 s2 ia ib
  generalize fQ a b = q at *
  generalize fR a b = r at *
  generalize fE a b = x at *
  generalize cQ a b = y at *
  generalize gP l = g at *
  generalize gX l = gx at *
  generalize cP a b c = p at *
  generalize cX b c = px at *
  go_enter Try.func3, Try.ntmps3
  go_wp2_with fail
  ((with_reducible refine (OW.out _ (by (repeat (first | exact Below.refl _ _ | assumption | refine Below.drew ?_ | refine below_drewN ?_ _ | refine Below.setCell ?_ (by first | omega | (simp; done) | (simp; omega)) _ | refine Below.alloc ?_ (by first | omega | (simp; done) | (simp; omega)) _)))).mono ?_); rintro e w1 ⟨A2, c2, rfl, ho, hc2, hb1⟩)
  have hsz1 := hb1.size
  have HO := Lib.hid ho
  clear OW ho
  go_wp2_with fail
  (refine (F1.out _).mono ?_; rintro e w2 ⟨rfl, hb2⟩; have hB2 : Below w.heap.size w w2 := (by refine Below.trans ?_ (hb2.mono (by first | omega | (simp; done) | (simp; omega))); (repeat (first | exact Below.refl _ _ | assumption | refine Below.drew ?_ | refine below_drewN ?_ _ | refine Below.setCell ?_ (by first | omega | (simp; done) | (simp; omega)) _ | refine Below.alloc ?_ (by first | omega | (simp; done) | (simp; omega)) _))); have hsz2 : w.heap.size ≤ w2.heap.size := hB2.size)
  go_wp2_with fail
  (refine (F2.out _).mono ?_; rintro e w3 ⟨rfl, hb3⟩; have hB3 : Below w.heap.size w w3 := (by refine Below.trans ?_ (hb3.mono (by first | omega | (simp; done) | (simp; omega))); (repeat (first | exact Below.refl _ _ | assumption | refine Below.drew ?_ | refine below_drewN ?_ _ | refine Below.setCell ?_ (by first | omega | (simp; done) | (simp; omega)) _ | refine Below.alloc ?_ (by first | omega | (simp; done) | (simp; omega)) _))); have hsz3 : w.heap.size ≤ w3.heap.size := hB3.size)
  go_wp2_with fail
  (refine (C1.out _).mono ?_; rintro e w4 ⟨rfl, hb4⟩; have hB4 : Below w.heap.size w w4 := (by refine Below.trans ?_ (hb4.mono (by first | omega | (simp; done) | (simp; omega))); (repeat (first | exact Below.refl _ _ | assumption | refine Below.drew ?_ | refine below_drewN ?_ _ | refine Below.setCell ?_ (by first | omega | (simp; done) | (simp; omega)) _ | refine Below.alloc ?_ (by first | omega | (simp; done) | (simp; omega)) _))); have hsz4 : w.heap.size ≤ w4.heap.size := hB4.size)
  go_wp2_with fail
  (refine (C2.out _).mono ?_; rintro e w5 ⟨rfl, hb5⟩; have hB5 : Below w.heap.size w w5 := (by refine Below.trans ?_ (hb5.mono (by first | omega | (simp; done) | (simp; omega))); (repeat (first | exact Below.refl _ _ | assumption | refine Below.drew ?_ | refine below_drewN ?_ _ | refine Below.setCell ?_ (by first | omega | (simp; done) | (simp; omega)) _ | refine Below.alloc ?_ (by first | omega | (simp; done) | (simp; omega)) _))); have hsz5 : w.heap.size ≤ w5.heap.size := hB5.size)
  go_wp2_with fail
  (refine (G1.out _ (by (repeat (first | exact Below.refl _ _ | assumption | refine Below.drew ?_ | refine below_drewN ?_ _ | refine Below.setCell ?_ (by first | omega | (simp; done) | (simp; omega)) _ | refine Below.alloc ?_ (by first | omega | (simp; done) | (simp; omega)) _)))).mono ?_; rintro e w6 ⟨rfl, hb6⟩; have hB6 : Below w.heap.size w w6 := (by refine Below.trans ?_ (hb6.mono (by first | omega | (simp; done) | (simp; omega))); (repeat (first | exact Below.refl _ _ | assumption | refine Below.drew ?_ | refine below_drewN ?_ _ | refine Below.setCell ?_ (by first | omega | (simp; done) | (simp; omega)) _ | refine Below.alloc ?_ (by first | omega | (simp; done) | (simp; omega)) _))); have hsz6 : w.heap.size ≤ w6.heap.size := hB6.size)
  go_wp2_with fail
  have RO : RowL w6 A2 l c2 := ((((HO.out.keep hb2).keep hb3).keep hb4).keep hb5).keep hb6
  (refine (G2.out _ A2 c2 RO hc2).mono ?_; rintro e w7 ⟨rfl, hb7⟩; have hB7 : Below w.heap.size w w7 := (by refine Below.trans ?_ (hb7.mono (by first | omega | (simp; done) | (simp; omega))); (repeat (first | exact Below.refl _ _ | assumption | refine Below.drew ?_ | refine below_drewN ?_ _ | refine Below.setCell ?_ (by first | omega | (simp; done) | (simp; omega)) _ | refine Below.alloc ?_ (by first | omega | (simp; done) | (simp; omega)) _))); have hsz7 : w.heap.size ≤ w7.heap.size := hB7.size)
  have HO7 := Lib.hid (RO.keep hb7)
  clear RO
  go_wp2_with fail
  (refine (S1.out _).mono ?_; rintro e w8 ⟨rfl, hb8⟩; have hB8 : Below w.heap.size w w8 := (by refine Below.trans ?_ (hb8.mono (by first | omega | (simp; done) | (simp; omega))); (repeat (first | exact Below.refl _ _ | assumption | refine Below.drew ?_ | refine below_drewN ?_ _ | refine Below.setCell ?_ (by first | omega | (simp; done) | (simp; omega)) _ | refine Below.alloc ?_ (by first | omega | (simp; done) | (simp; omega)) _))); have hsz8 : w.heap.size ≤ w8.heap.size := hB8.size)
  go_wp2_with fail
  (refine (S2.out _).mono ?_; rintro e w9 ⟨rfl, hb9⟩; have hB9 : Below w.heap.size w w9 := (by refine Below.trans ?_ (hb9.mono (by first | omega | (simp; done) | (simp; omega))); (repeat (first | exact Below.refl _ _ | assumption | refine Below.drew ?_ | refine below_drewN ?_ _ | refine Below.setCell ?_ (by first | omega | (simp; done) | (simp; omega)) _ | refine Below.alloc ?_ (by first | omega | (simp; done) | (simp; omega)) _))); have hsz9 : w.heap.size ≤ w9.heap.size := hB9.size)
  go_wp2_with fail
  (refine (K1.out _).mono ?_; rintro e w10 ⟨rfl, hb10⟩; have hB10 : Below w.heap.size w w10 := (by refine Below.trans ?_ (hb10.mono (by first | omega | (simp; done) | (simp; omega))); (repeat (first | exact Below.refl _ _ | assumption | refine Below.drew ?_ | refine below_drewN ?_ _ | refine Below.setCell ?_ (by first | omega | (simp; done) | (simp; omega)) _ | refine Below.alloc ?_ (by first | omega | (simp; done) | (simp; omega)) _))); have hsz10 : w.heap.size ≤ w10.heap.size := hB10.size)
  go_wp2_with fail
  (refine (K2.out _).mono ?_; rintro e w11 ⟨rfl, hb11⟩; have hB11 : Below w.heap.size w w11 := (by refine Below.trans ?_ (hb11.mono (by first | omega | (simp; done) | (simp; omega))); (repeat (first | exact Below.refl _ _ | assumption | refine Below.drew ?_ | refine below_drewN ?_ _ | refine Below.setCell ?_ (by first | omega | (simp; done) | (simp; omega)) _ | refine Below.alloc ?_ (by first | omega | (simp; done) | (simp; omega)) _))); have hsz11 : w.heap.size ≤ w11.heap.size := hB11.size)
  go_wp2_with fail
  (refine (parted_any _).mono ?_; rintro e w12 ⟨rfl, hb12⟩; have hB12 : Below w.heap.size w w12 := (by refine Below.trans ?_ (hb12.mono (by first | omega | (simp; done) | (simp; omega))); (repeat (first | exact Below.refl _ _ | assumption | refine Below.drew ?_ | refine below_drewN ?_ _ | refine Below.setCell ?_ (by first | omega | (simp; done) | (simp; omega)) _ | refine Below.alloc ?_ (by first | omega | (simp; done) | (simp; omega)) _))); have hsz12 : w.heap.size ≤ w12.heap.size := hB12.size)
  have RO := ((((HO7.out.keep hb8).keep hb9).keep hb10).keep hb11).keep hb12
  go_wp2_with fail
  (refine (same_rows A A2 l cp c2 _ (HR.out.keep hB12) RO hn).mono ?_; rintro e w13 ⟨rfl, hb13⟩; have hB13 : Below w.heap.size w w13 := (by refine Below.trans ?_ (hb13.mono (by first | omega | (simp; done) | (simp; omega))); (repeat (first | exact Below.refl _ _ | assumption | refine Below.drew ?_ | refine below_drewN ?_ _ | refine Below.setCell ?_ (by first | omega | (simp; done) | (simp; omega)) _ | refine Below.alloc ?_ (by first | omega | (simp; done) | (simp; omega)) _))); have hsz13 : w.heap.size ≤ w13.heap.size := hB13.size)
  go_wp2
  go_ret
  exact ⟨rfl, hB13⟩
theorem law_does_long (a b c : Int) (l : List Int) (A : Option Addr) (cp : Nat) (w : World) (hn : 60 < l.length) (hl : l.length ≤ 9223372036854775807) :
    Calls Try.prog 3 #[.int .i64 a, .int .i64 b, .int .i64 c, .slice A l.length cp] w fun e w' => e = .returned (.bool true) ∧ Below w.heap.size w w' := by
  go_enter Try.func3, Try.ntmps3
  go_wp2
  go_ret
  exact ⟨rfl, by (repeat (first | exact Below.refl _ _ | assumption | refine Below.drew ?_ | refine below_drewN ?_ _ | refine Below.setCell ?_ (by first | omega | (simp; done) | (simp; omega)) _ | refine Below.alloc ?_ (by first | omega | (simp; done) | (simp; omega)) _))⟩
theorem law_does (a b c : Int) (l : List Int) (A : Option Addr) (cp : Nat) (w : World) (ia : In64 a) (ib : In64 b) (hr : RowL w A l cp) (hi : AllI l) (h0 : A = none → cp = 0) (hcp : cp ≤ 9223372036854775807) :
    Calls Try.prog 3 #[.int .i64 a, .int .i64 b, .int .i64 c, .slice A l.length cp] w fun e w' => e = .returned (.bool true) ∧ Below w.heap.size w w' := by
  by_cases hn : l.length ≤ 60
  · exact law_does_short a b c l A cp w ia ib hr hi h0 hcp hn
  · exact law_does_long a b c l A cp w (by omega) (Nat.le_trans hr.1 hcp)
end Go.Proofs.Ytjndajndllimhaa
