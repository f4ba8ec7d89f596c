/-
  The law WholeGcd where a divisor is above 0, and where it is no int; the whole law.
-/
import Derived.Test.YtjndajndllimhaaWhI
namespace Go.Proofs.Ytjndajndllimhaa
open Go.RowKit

def dvs (g : Nat) (l : List Int) : List Int := l.map fun y => y.tdiv g
theorem dvs_snoc (g : Nat) (l : List Int) (x : Int) : dvs g (l ++ [x]) = dvs g l ++ [x.tdiv g] := by unfold dvs; simp
theorem dvs_length (g : Nat) (l : List Int) : (dvs g l).length = l.length := by unfold dvs; simp
/-- A divisor of all divides the greatest one. -/
theorem gcd_mod {l : List Int} {d : Int} {g : Nat} (hg : gcdL l = g) (hd : 0 < d) (h : ∀ x ∈ l, x.tmod d = 0) : (g : Int).tmod d = 0 ∧ (g : Int) % d = 0 := by
  obtain ⟨e, rfl⟩ : ∃ e : Nat, d = (e : Int) := ⟨d.natAbs, by omega⟩
  have q : e ∣ gcdL l := dvd_gcdL e l fun x hx => (tmod_dvd x e).1 (h x hx)
  rw [hg] at q
  have t := (tmod_dvd (g : Int) e).2 (by simpa using q)
  exact ⟨t, by rw [← Int.tmod_eq_emod_of_nonneg (by omega)]; exact t⟩

set_option maxRecDepth 100000 in
set_option maxHeartbeats 2000000 in
theorem law_gcd_pos (l : List Int) (d : Int) (g : Nat) (a : Option Addr) (c : Nat) (w : World) (hr : RowL w a l c) (hi' : AllI l) (hc : c ≤ 9223372036854775807) (hn : l.length ≤ 30) (hg : gcdL l = g) (g0 : 0 < g) (g1 : g ≤ 9223372036854775807) :
    Calls Try.prog 6 #[.slice a l.length c, .int .i64 d] w fun e w' => e = .returned (.bool true) ∧ Below w.heap.size w w' := by
  obtain ⟨i0, hi, hz0, hz1, hz2⟩ := info_parts infoI
  have R := Lib.hid hr
  have G1 := Lib.hid (fun W (h : Below w.heap.size w W) => gcd_any a l c W (hr.keep h) hi' hc)
  have z1 : gP l = g := by unfold gP; rw [hg, if_neg (by omega)]
  have z2 : gX l = 0 := by unfold gX; rw [hg, if_neg (by omega)]
  rw [z1, z2] at G1
  have hdv : ∀ x ∈ l, g ∣ x.natAbs := by rw [← hg]; exact gcdL_dvd l
  have Z := Lib.hid (fun (x : Int) (hx : x ∈ l) => (tmod_dvd x g).2 (hdv x hx))
  have TB := Lib.hid (fun (x : Int) (hx : x ∈ l) => td_bd x g (by omega) (hi' x hx).1 (hi' x hx).2 (by omega))
  have G2 : Hid (∀ (W : World) (a : Option Addr) (c : Nat), RowL W a l.reverse c → c ≤ 9223372036854775807 → Calls Try.prog 14 #[.slice a l.length c] W fun e w' => e = .returned (.tuple #[.int .i64 g, .int .i64 0]) ∧ Below W.heap.size W w') := Lib.hid (fun W a c h hc => by
    have q := gcd_any a l.reverse c W h (fun x hx => hi' x (List.mem_reverse.1 hx)) hc
    rw [List.length_reverse, show gP l.reverse = g from by unfold gP; rw [gcdL_reverse, hg, if_neg (by omega)], show gX l.reverse = 0 from by unfold gX; rw [gcdL_reverse, hg, if_neg (by omega)]] at q
    exact q)
  have hone : gcdL (dvs g l.reverse) = 1 := by
    unfold dvs
    rw [gcdL_div g l.reverse (fun x hx => hdv x (List.mem_reverse.1 hx)), gcdL_reverse, hg]
    exact Nat.div_self g0
  have G3 : Hid (∀ (W : World) (a : Option Addr) (c : Nat), RowL W a (dvs g l.reverse) c → c ≤ 9223372036854775807 → Calls Try.prog 14 #[.slice a l.length c] W fun e w' => e = .returned (.tuple #[.int .i64 1, .int .i64 0]) ∧ Below W.heap.size W w') := Lib.hid (fun W a c h hc => by
    have q := gcd_any a (dvs g l.reverse) c W h (fun x hx => by
      unfold dvs at hx
      obtain ⟨y, hy, rfl⟩ := List.mem_map.1 hx
      have := td_bd y g (by omega) (hi' y (List.mem_reverse.1 hy)).1 (hi' y (List.mem_reverse.1 hy)).2 (by omega)
      exact ⟨this.1, this.2.1⟩) hc
    rw [dvs_length, List.length_reverse, show gP (dvs g l.reverse) = 1 from by unfold gP; rw [hone]; rfl, show gX (dvs g l.reverse) = 0 from by unfold gX; rw [hone]; rfl] at q
    exact q)
  have HG := Lib.hid hg
  have gz : ((g : Int) == 0) = false := by rw [beq_eq_false_iff_ne]; omega
  clear hr hi' hg z1 z2 hdv hone
  go_enter Try.func6, Try.ntmps6
  go_wp2_with fail
  refine (G1.out _ (by (repeat (first | exact Below.refl _ _ | assumption | refine Below.drew ?_ | refine below_drewN ?_ _ | refine Below.setCell ?_ (by first | omega | (simp; done) | (simp; omega)) _ | refine Below.alloc ?_ (by first | omega | (simp; done) | (simp; omega)) _)))).mono ?_
  rintro e w1 ⟨rfl, hb1⟩
  clear G1
  have HB1 := Lib.hid hb1
  have hsz1 := hb1.size
  clear hb1
  go_wp2_with fail
  go_loopw [7, 8, 9, 10] (fun v u al ix wr => ∃ k : Nat, k ≤ l.length ∧ ix = .int .i64 ((l.length : Int) - 1 - k) ∧ wr.ownsRow w.heap.size 3 1 v k (vals (l.reverse.take k)) ∧ wr.ownsRow w.heap.size 3 1 u k (vals (dvs g (l.reverse.take k))) ∧ Ap v u ∧ Below w.heap.size w wr ∧ ∃ b : Bool, al = .bool b ∧ Hid (AllP b d (l.reverse.take k)))
    (fun _ _ _ ix _ => (intOf ix + 1).toNat)
  case atStart => exact ⟨0, by omega, congrArg (Value.int .i64) (by omega), World.ownsRow_nil _ _ _ _, World.ownsRow_nil _ _ _ _, .inl rfl, HB1.out, _, rfl, Lib.hid (fun h => ⟨of_decide_eq_true h, fun x hx => by simp at hx⟩)⟩
  case round =>
    obtain ⟨k, hk, rfl, hown, hou, hap, hB, b, rfl, A⟩ := hrel
    have hsz := hB.size
    by_cases hlt : k < l.length
    · obtain ⟨j, hj⟩ : ∃ j, l.length = j + 1 + k := ⟨l.length - 1 - k, by omega⟩
      have hjl : j < l.length := by omega
      rw [show (l.length : Int) - 1 - k = (j : Int) from by omega]
      have RV := Lib.hid (rev_getD hj)
      have TK := Lib.hid (take_getD (l := l.reverse) (i := k) (by simp; omega))
      rw [RV.out] at TK
      have hz := Z.out _ (getD_mem hjl)
      have tb := TB.out _ (getD_mem hjl)
      have RC : Hid (∀ W, Below w.heap.size w W → ∃ b off, a = some ⟨b, off, none⟩ ∧ b < W.heap.size ∧ W.cell? ⟨b, off + j, none⟩ = some (.int .i64 (l.getD j 0))) := Lib.hid (fun W h => (R.out.keep h).at hjl)
      generalize l.getD j 0 = x at *
      obtain ⟨tb1, tb2, _⟩ := tb
      have x1 : (x.tmod g != 0) = false := by rw [hz]; rfl
      obtain ⟨b1, o1, e1, hbl, hcell⟩ := RC.out _ hB
      subst e1
      have HJ := Lib.hid hj
      have HB := Lib.hid hB
      have HO := Lib.hid hown
      have HU := Lib.hid hou
      have HA := Lib.hid hap
      clear hj hz RV hB hown hou hap
      go_wp2_with (first
        | (at_builtin; refine wpList_append_own_at _ rfl _ _ 22 rfl w.heap.size 3 i0 (.int .i64 0) 1 8 Try.underlying22 hi hz0 hz1 hz2 rfl (by decide) _ _ _ rfl (HO.out.alloc _) ⟨wr.heap.size, 0, none⟩ 1 1 [.int .i64 x] rfl rfl (cell_one_new _ _ _) ?c2 ?c3 ?c4 ?c5 ?_))
      case c2 => intro u hu; simp at hu; subst hu; rfl
      case c3 => unfold maxLen; omega
      case c4 => omega
      case c5 => simp; omega
      intro v' w2 hown' hgrow _ hat
      have hB2 : Below w.heap.size w w2 := ((HB.out.alloc (by omega) _).grown hgrow (by simp; omega) (fun g hg => (HO.out.lt g hg).1))
      have hu2 := (HU.out.alloc (.cells #[.int .i64 x] 3)).kept hgrow HA.out.symm
      have ha2 : Ap u8 v' := Ap.new HU.out HA.out.symm hat
      obtain ⟨b1', o1', e, hbl2, hcell2⟩ := RC.out _ hB2
      cases e
      rw [← vals_snoc, ← TK.out] at hown'
      have hsz2 := hB2.size
      have HO2 := Lib.hid hown'
      have HU2 := Lib.hid hu2
      have HA2 := Lib.hid ha2
      have HB2 := Lib.hid hB2
      clear hown' hgrow hcell hB2 hu2 ha2 hat HO HU HA HB hbl
      go_wp2_with (first
        | (at_builtin; refine wpList_append_own_at _ rfl _ _ 22 rfl w.heap.size 3 i0 (.int .i64 0) 1 8 Try.underlying22 hi hz0 hz1 hz2 rfl (by decide) _ _ _ rfl (HU2.out.alloc _) ⟨w2.heap.size, 0, none⟩ 1 1 [.int .i64 (x.tdiv g)] rfl rfl (cell_one_new _ _ _) ?e2 ?e3 ?e4 ?e5 ?_))
      case e2 => intro u hu; simp at hu; subst hu; rfl
      case e3 => unfold maxLen; omega
      case e4 => omega
      case e5 => simp; omega
      intro u' w3 hown' hgrow _ hat
      have hB3 : Below w.heap.size w w3 := ((HB2.out.alloc (by omega) _).grown hgrow (by simp; omega) (fun g hg => (HU2.out.lt g hg).1))
      have hv3 := (HO2.out.alloc (.cells #[.int .i64 (x.tdiv g)] 3)).kept hgrow HA2.out.symm
      have ha3 : Ap v' u' := Ap.new HO2.out HA2.out.symm hat
      obtain ⟨b1', o1', e, hbl3, hcell3⟩ := RC.out _ hB3
      cases e
      rw [← vals_snoc, ← dvs_snoc, ← TK.out] at hown'
      have X := Lib.hid (And.intro hv3 (And.intro hown' (And.intro ha3 hB3)))
      clear hown' hgrow hcell2 hB3 hv3 ha3 hat HO2 HU2 HA2 HB2 hbl2
      cases b
      · go_wp2
        go_roundw
        case rel => exact ⟨k + 1, hlt, congrArg (Value.int .i64) (by have := HJ.out; omega), X.out.1, X.out.2.1, X.out.2.2.1, X.out.2.2.2, false, rfl, Lib.hid (AllP.no _ _)⟩
        case measure => simp [intOf]
      · have hd : 0 < d := (A.out rfl).1
        have d1 : (d == 0) = false := by rw [beq_eq_false_iff_ne]; omega
        by_cases hm : x.tmod d = 0
        · have m1 : (x.tmod d == 0) = true := by rw [beq_iff_eq]; exact hm
          have A2 := Lib.hid (A.out.snoc (x := x) (fun _ => hm))
          rw [← TK.out] at A2
          clear hm
          go_wp2
          go_roundw
          case rel => exact ⟨k + 1, hlt, congrArg (Value.int .i64) (by have := HJ.out; omega), X.out.1, X.out.2.1, X.out.2.2.1, X.out.2.2.2, true, rfl, A2⟩
          case measure => simp [intOf]
        · have m1 : (x.tmod d == 0) = false := by rw [beq_eq_false_iff_ne]; exact hm
          clear hm
          go_wp2
          go_roundw
          case rel => exact ⟨k + 1, hlt, congrArg (Value.int .i64) (by have := HJ.out; omega), X.out.1, X.out.2.1, X.out.2.2.1, X.out.2.2.2, false, rfl, Lib.hid (AllP.no _ _)⟩
          case measure => simp [intOf]
    · obtain rfl : k = l.length := by omega
      rw [show (l.length : Int) - 1 - l.length = -1 from by omega]
      rw [List.take_of_length_le (by simp)] at hown hou A
      obtain ⟨x, y, rfl, rl, hy⟩ := rowL_of_own hown
      obtain ⟨p, q, rfl, rp, hq⟩ := rowL_of_own hou
      rw [dvs_length]
      have RL := Lib.hid rl
      have RP := Lib.hid rp
      have HB := Lib.hid hB
      have hdb : b = true → 0 < d ∧ (g : Int).tmod d = 0 ∧ (g : Int) % d = 0 := fun h => ⟨(A.out h).1, gcd_mod HG.out (A.out h).1 (fun x hx => (A.out h).2 x (List.mem_reverse.2 hx))⟩
      clear rl rp hown hou hap hB A
      go_wp2_with fail
      ((with_reducible refine (G2.out _ x y RL.out hy).mono ?_); rintro e w2 ⟨rfl, hb2⟩)
      have hB2 : Below w.heap.size w w2 := HB.out.trans (hb2.mono hsz)
      have hsz2 := hB2.size
      have RP2 := Lib.hid (RP.out.keep hb2)
      go_wp2_with fail
      ((with_reducible refine (G3.out _ p q RP2.out hq).mono ?_); rintro e w3 ⟨rfl, hb3⟩)
      have hB3 : Below w.heap.size w w3 := hB2.trans (hb3.mono hsz2)
      have hsz3 := hB3.size
      cases b
      · clear hdb
        go_wp2_with fail
        (refine (parted_any _).mono ?_; rintro e w4 ⟨rfl, hb4⟩; have hB4 : Below w.heap.size w w4 := (by refine Below.trans ?_ (hb4.mono (by first | omega | (simp; done) | (simp; omega))); (repeat (first | exact Below.refl _ _ | assumption | refine Below.drew ?_ | refine below_drewN ?_ _ | refine Below.setCell ?_ (by first | omega | (simp; done) | (simp; omega)) _ | refine Below.alloc ?_ (by first | omega | (simp; done) | (simp; omega)) _))); have hsz4 : w.heap.size ≤ w4.heap.size := hB4.size)
        go_wp2
        go_ret
        exact ⟨rfl, hB4⟩
      · obtain ⟨hd, hm1, hm2⟩ := hdb rfl
        have d1 : (d == 0) = false := by rw [beq_eq_false_iff_ne]; omega
        have m1 : ((g : Int).tmod d == 0) = true := by rw [beq_iff_eq]; exact hm1
        have m2 : ((g : Int) % d == 0) = true := by rw [beq_iff_eq]; exact hm2
        clear hdb hm1 hm2
        go_wp2_with fail
        (refine (parted_any _).mono ?_; rintro e w4 ⟨rfl, hb4⟩; have hB4 : Below w.heap.size w w4 := (by refine Below.trans ?_ (hb4.mono (by first | omega | (simp; done) | (simp; omega))); (repeat (first | exact Below.refl _ _ | assumption | refine Below.drew ?_ | refine below_drewN ?_ _ | refine Below.setCell ?_ (by first | omega | (simp; done) | (simp; omega)) _ | refine Below.alloc ?_ (by first | omega | (simp; done) | (simp; omega)) _))); have hsz4 : w.heap.size ≤ w4.heap.size := hB4.size)
        go_wp2
        go_ret
        exact ⟨rfl, hB4⟩

set_option maxRecDepth 100000 in
set_option maxHeartbeats 1000000 in
theorem law_gcd_wide (l : List Int) (d : Int) (a : Option Addr) (c : Nat) (w : World) (hr : RowL w a l c) (hi' : AllI l) (hc : c ≤ 9223372036854775807) (hn : l.length ≤ 30) (hg : gcdL l = 9223372036854775808) :
    Calls Try.prog 6 #[.slice a l.length c, .int .i64 d] w fun e w' => e = .returned (.bool true) ∧ Below w.heap.size w w' := by
  have G1 := Lib.hid (fun W (h : Below w.heap.size w W) => gcd_any a l c W (hr.keep h) hi' hc)
  have z1 : gP l = 0 := if_pos hg
  have z2 : gX l = 4 := if_pos hg
  rw [z1, z2] at G1
  clear hr hi' hg z1 z2
  go_enter Try.func6, Try.ntmps6
  go_wp2_with fail
  refine (G1.out _ (by (repeat (first | exact Below.refl _ _ | assumption | refine Below.drew ?_ | refine below_drewN ?_ _ | refine Below.setCell ?_ (by first | omega | (simp; done) | (simp; omega)) _ | refine Below.alloc ?_ (by first | omega | (simp; done) | (simp; omega)) _)))).mono ?_
  rintro e w1 ⟨rfl, hb1⟩
  have hsz1 := hb1.size
  go_wp2_with fail
  (refine (parted_any _).mono ?_; rintro e w2 ⟨rfl, hb2⟩; have hB2 : Below w.heap.size w w2 := (by refine Below.trans ?_ (hb2.mono (by first | omega | (simp; done) | (simp; omega))); (repeat (first | exact Below.refl _ _ | assumption | refine Below.drew ?_ | refine below_drewN ?_ _ | refine Below.setCell ?_ (by first | omega | (simp; done) | (simp; omega)) _ | refine Below.alloc ?_ (by first | omega | (simp; done) | (simp; omega)) _))); have hsz2 : w.heap.size ≤ w2.heap.size := hB2.size)
  go_wp2
  go_ret
  exact ⟨rfl, hB2⟩
theorem law_gcd_long (l : List Int) (d : Int) (a : Option Addr) (c : Nat) (w : World) (hn : 30 < l.length) (hl : l.length ≤ 9223372036854775807) :
    Calls Try.prog 6 #[.slice a l.length c, .int .i64 d] w fun e w' => e = .returned (.bool true) ∧ Below w.heap.size w w' := by
  go_enter Try.func6, Try.ntmps6
  go_wp2
  go_ret
  exact ⟨rfl, by (repeat (first | exact Below.refl _ _ | assumption | refine Below.drew ?_ | refine below_drewN ?_ _ | refine Below.setCell ?_ (by first | omega | (simp; done) | (simp; omega)) _ | refine Below.alloc ?_ (by first | omega | (simp; done) | (simp; omega)) _))⟩
theorem law_gcd (l : List Int) (d : Int) (a : Option Addr) (c : Nat) (w : World) (hr : RowL w a l c) (hi' : AllI l) (hc : c ≤ 9223372036854775807) :
    Calls Try.prog 6 #[.slice a l.length c, .int .i64 d] w fun e w' => e = .returned (.bool true) ∧ Below w.heap.size w w' := by
  by_cases hn : l.length ≤ 30
  · have hb : gcdL l ≤ 9223372036854775808 := by have := gcdL_take_bd hi' l.length; rwa [List.take_length] at this
    by_cases h0 : gcdL l = 0
    · exact law_gcd_zero l d a c w hr hi' hc hn h0
    · by_cases h1 : gcdL l = 9223372036854775808
      · exact law_gcd_wide l d a c w hr hi' hc hn h1
      · exact law_gcd_pos l d (gcdL l) a c w hr hi' hc hn rfl (by omega) (by omega)
  · exact law_gcd_long l d a c w (by omega) (Nat.le_trans hr.1 hc)
end Go.Proofs.Ytjndajndllimhaa
