/-
  The law WholeGcd: two rows of its own; its walk.
-/
import Derived.Test.YtjndajndllimhaaWhF
import Derived.Test.YtjndajndllimhaaRefB
import Derived.Maps.AppendAt
namespace Go.Proofs.Ytjndajndllimhaa
open Go.RowKit

def vals (l : List Int) : List Value := l.map fun x => .int .i64 x
theorem vals_snoc (l : List Int) (x : Int) : vals (l ++ [x]) = vals l ++ [.int .i64 x] := by unfold vals; simp
theorem vals_at {l : List Int} {i : Nat} (h : i < l.length) : (vals l)[i]? = some (.int .i64 (l.getD i 0)) := by
  unfold vals; simp [List.getD, h]
/-- A row of the call's own, read as a list. -/
theorem rowL_of_own {w : World} {base k : Nat} {v : Value} {l : List Int} (h : w.ownsRow base 3 1 v k (vals l)) : ∃ a c, v = .slice a l.length c ∧ RowL w a l c ∧ c ≤ 9223372036854775807 := by
  have hl := h.lt
  have hc := fun (g : Nat) (hg : v.ownBlock = some g) => h.cells hg
  have hk : l.length = k := by have := h.1; unfold vals at this; simpa using this
  subst hk
  obtain ⟨h1, ⟨rfl, h0⟩ | ⟨g, cap, cur, rfl, hb, hh, hk, hm, _, _⟩⟩ := h
  · exact ⟨none, 0, by rw [h0], ⟨by omega, .inl (List.length_eq_zero_iff.1 h0)⟩, by omega⟩
  · refine ⟨_, cap, rfl, ⟨hk, .inr ⟨g, 0, rfl, (hl g rfl).2, fun i hi => ?_⟩⟩, by unfold maxLen at hm; omega⟩
    have := hc g rfl i _ (vals_at hi)
    rw [addr_add] at this
    exact this
/-- Two rows of the call's own in two blocks. -/
def Ap (u v : Value) : Prop := u.ownBlock = none ∨ u.ownBlock ≠ v.ownBlock
theorem Ap.symm {u v : Value} (h : Ap u v) : Ap v u := by
  rcases h with h | h
  · cases hv : v.ownBlock with
    | none => exact .inl hv
    | some g => exact .inr (by rw [h, hv]; exact fun e => by cases e)
  · exact .inr h.symm
theorem Ap.new {W : World} {base n : Nat} {u v v' : Value} {xs : List Value} (hu : W.ownsRow base 3 1 u n xs) (h : Ap u v) (hat : v'.ownBlock = v.ownBlock ∨ v'.ownBlock = some (W.heap.size + 1)) : Ap u v' := by
  rcases h with h | h
  · exact .inl h
  · rcases hat with e | e
    · exact .inr (by rw [e]; exact h)
    · refine .inr fun q => ?_
      rw [e] at q
      have := (hu.lt _ q).2
      omega
/-- What all, told so far, says. -/
def AllP (b : Bool) (d : Int) (l : List Int) : Prop := b = true → 0 < d ∧ ∀ x ∈ l, x.tmod d = 0
theorem rev_getD {l : List Int} {j k : Nat} (h : l.length = j + 1 + k) : l.reverse.getD k 0 = l.getD j 0 := by
  have h1 : k < l.reverse.length := by simp; omega
  have e1 : l.reverse.getD k 0 = l.reverse[k] := by rw [List.getD_eq_getElem?_getD, List.getElem?_eq_getElem h1]; rfl
  have e2 : l.getD j 0 = l[j]'(by omega) := by simp [List.getD, show j < l.length from by omega]
  rw [e1, e2, List.getElem_reverse]
  congr 1
  omega
theorem AllP.snoc {b : Bool} {d : Int} {l : List Int} {x : Int} (h : AllP b d l) (hx : b = true → x.tmod d = 0) : AllP b d (l ++ [x]) := fun hb => by
  refine ⟨(h hb).1, fun y hy => ?_⟩
  rcases List.mem_append.1 hy with q | q
  · exact (h hb).2 y q
  · simp at q; subst q; exact hx hb
theorem AllP.no (d : Int) (l : List Int) : AllP false d l := fun h => by cases h

set_option maxRecDepth 100000 in
set_option maxHeartbeats 2000000 in
theorem law_gcd_zero (l : List Int) (d : Int) (a : Option Addr) (c : Nat) (w : World) (hr : RowL w a l c) (hi' : AllI l) (hc : c ≤ 9223372036854775807) (hn : l.length ≤ 30) (hg : gcdL l = 0) :
    Calls Try.prog 6 #[.slice a l.length c, .int .i64 d] w fun e w' => e = .returned (.bool true) ∧ Below w.heap.size w w' := by
  obtain ⟨i0, hi, hz0, hz1, hz2⟩ := info_parts infoI
  have R := Lib.hid hr
  have G1 := Lib.hid (fun W (h : Below w.heap.size w W) => gcd_any a l c W (hr.keep h) hi' hc)
  have z1 : gP l = 0 := by unfold gP; rw [hg]; rfl
  have z2 : gX l = 0 := by unfold gX; rw [hg]; rfl
  rw [z1, z2] at G1
  have Z := Lib.hid (gcdL_zero hg)
  have G2 : Hid (∀ (W : World) (a : Option Addr) (c : Nat), RowL W a l.reverse c → c ≤ 9223372036854775807 → Calls Try.prog 14 #[.slice a l.length c] W fun e w' => e = .returned (.tuple #[.int .i64 0, .int .i64 0]) ∧ Below W.heap.size W w') := Lib.hid (fun W a c h hc => by
    have q := gcd_any a l.reverse c W h (fun x hx => hi' x (List.mem_reverse.1 hx)) hc
    rw [List.length_reverse, show gP l.reverse = 0 from by unfold gP; rw [gcdL_reverse, hg]; rfl, show gX l.reverse = 0 from by unfold gX; rw [gcdL_reverse, hg]; rfl] at q
    exact q)
  clear hr hi' hg z1 z2
  go_enter Try.func6, Try.ntmps6
  go_wp2_with fail
  refine (G1.out _ (by (repeat (first | exact Below.refl _ _ | assumption | refine Below.drew ?_ | refine below_drewN ?_ _ | refine Below.setCell ?_ (by first | omega | (simp; done) | (simp; omega)) _ | refine Below.alloc ?_ (by first | omega | (simp; done) | (simp; omega)) _)))).mono ?_
  rintro e w1 ⟨rfl, hb1⟩
  clear G1
  have HB1 := Lib.hid hb1
  have hsz1 := hb1.size
  clear hb1
  go_wp2_with fail
  go_loopw [7, 8, 9, 10] (fun v u al ix wr => ∃ k : Nat, k ≤ l.length ∧ ix = .int .i64 ((l.length : Int) - 1 - k) ∧ wr.ownsRow w.heap.size 3 1 v k (vals (l.reverse.take k)) ∧ u = .slice none 0 0 ∧ Below w.heap.size w wr ∧ ∃ b : Bool, al = .bool b ∧ Hid (AllP b d (l.reverse.take k)))
    (fun _ _ _ ix _ => (intOf ix + 1).toNat)
  case atStart => exact ⟨0, by omega, congrArg (Value.int .i64) (by omega), World.ownsRow_nil _ _ _ _, rfl, HB1.out, _, rfl, Lib.hid (fun h => ⟨of_decide_eq_true h, fun x hx => by simp at hx⟩)⟩
  case round =>
    obtain ⟨k, hk, rfl, hown, rfl, hB, b, rfl, A⟩ := hrel
    have hsz := hB.size
    by_cases hlt : k < l.length
    · obtain ⟨j, hj⟩ : ∃ j, l.length = j + 1 + k := ⟨l.length - 1 - k, by omega⟩
      have hjl : j < l.length := by omega
      rw [show (l.length : Int) - 1 - k = (j : Int) from by omega]
      have RV := Lib.hid (rev_getD hj)
      have TK := Lib.hid (take_getD (l := l.reverse) (i := k) (by simp; omega))
      have zero : l.getD j 0 = 0 := Z.out _ (getD_mem hjl)
      rw [RV.out, zero] at TK
      obtain ⟨b1, o1, rfl, hbl, hcell⟩ := (R.out.keep hB).at hjl
      rw [zero] at hcell
      have HJ := Lib.hid hj
      have HB := Lib.hid hB
      have HO := Lib.hid hown
      clear hj zero RV hB
      go_wp2_with (first
        | (at_builtin; refine wpList_append_own_at _ rfl _ _ 22 rfl w.heap.size 3 i0 (.int .i64 0) 1 8 Try.underlying22 hi hz0 hz1 hz2 rfl (by decide) _ _ _ rfl (HO.out.alloc _) ⟨wr.heap.size, 0, none⟩ 1 1 [.int .i64 0] rfl rfl (cell_one_new _ _ _) ?c2 ?c3 ?c4 ?c5 ?_))
      case c2 => intro u hu; simp at hu; subst hu; rfl
      case c3 => unfold maxLen; omega
      case c4 => omega
      case c5 => simp; omega
      intro v' w2 hown' hgrow _ _
      have hB2 : Below w.heap.size w w2 := ((HB.out.alloc (by omega) _).grown hgrow (by simp; omega) (fun g hg => (HO.out.lt g hg).1))
      have hcell2 := ((R.out.keep hB2).at hjl)
      obtain ⟨b1', o1', e, hbl2, hcell2⟩ := hcell2
      cases e
      have zero : l.getD j 0 = 0 := Z.out _ (getD_mem hjl)
      rw [zero] at hcell2
      rw [← vals_snoc, ← TK.out] at hown'
      have X := Lib.hid (And.intro hown' hB2)
      clear hown' hgrow hcell hB2 hown HO HB zero
      cases b
      · go_wp2
        go_roundw
        case rel => exact ⟨k + 1, hlt, congrArg (Value.int .i64) (by have := HJ.out; omega), X.out.1, rfl, X.out.2, false, rfl, Lib.hid (AllP.no _ _)⟩
        case measure => simp [intOf]
      · have hd : 0 < d := (A.out rfl).1
        have d1 : (d == 0) = false := by rw [beq_eq_false_iff_ne]; omega
        have A2 := Lib.hid (A.out.snoc (x := 0) (fun _ => Int.zero_tmod d))
        rw [← TK.out] at A2
        go_wp2
        go_roundw
        case rel => exact ⟨k + 1, hlt, congrArg (Value.int .i64) (by have := HJ.out; omega), X.out.1, rfl, X.out.2, true, rfl, A2⟩
        case measure => simp [intOf]
    · obtain rfl : k = l.length := by omega
      rw [show (l.length : Int) - 1 - l.length = -1 from by omega]
      rw [List.take_of_length_le (by simp)] at hown
      obtain ⟨x, y, rfl, rl, hy⟩ := rowL_of_own hown
      have RL := Lib.hid rl
      have HB := Lib.hid hB
      have hdb : b = true → 0 < d := fun h => (A.out h).1
      clear rl hown hB A
      have P0 : Hid (∀ W, Calls Try.prog 14 #[.slice none 0 0] W fun e w' => e = .returned (.tuple #[.int .i64 0, .int .i64 0]) ∧ Below W.heap.size W w') := Lib.hid (fun W => gcd_any none [] 0 W ⟨Nat.zero_le _, .inl rfl⟩ (fun x hx => by cases hx) (by omega))
      go_wp2_with fail
      ((with_reducible refine (G2.out _ x y RL.out hy).mono ?_); rintro e w2 ⟨rfl, hb2⟩)
      have hB2 : Below w.heap.size w w2 := HB.out.trans (hb2.mono hsz)
      have hsz2 := hB2.size
      go_wp2_with fail
      ((with_reducible refine (P0.out _).mono ?_); rintro e w3 ⟨rfl, hb3⟩)
      have hB3 : Below w.heap.size w w3 := hB2.trans (hb3.mono hsz2)
      have hsz3 := hB3.size
      cases b
      · clear hdb
        go_wp2_with fail
        (refine (parted_any _).mono ?_; rintro e w4 ⟨rfl, hb4⟩; have hB4 : Below w.heap.size w w4 := (by refine Below.trans ?_ (hb4.mono (by first | omega | (simp; done) | (simp; omega))); (repeat (first | exact Below.refl _ _ | assumption | refine Below.drew ?_ | refine below_drewN ?_ _ | refine Below.setCell ?_ (by first | omega | (simp; done) | (simp; omega)) _ | refine Below.alloc ?_ (by first | omega | (simp; done) | (simp; omega)) _))); have hsz4 : w.heap.size ≤ w4.heap.size := hB4.size)
        go_wp2
        go_ret
        exact ⟨rfl, hB4⟩
      · have hd := hdb rfl
        have d1 : (d == 0) = false := by rw [beq_eq_false_iff_ne]; omega
        clear hdb
        go_wp2_with fail
        (refine (parted_any _).mono ?_; rintro e w4 ⟨rfl, hb4⟩; have hB4 : Below w.heap.size w w4 := (by refine Below.trans ?_ (hb4.mono (by first | omega | (simp; done) | (simp; omega))); (repeat (first | exact Below.refl _ _ | assumption | refine Below.drew ?_ | refine below_drewN ?_ _ | refine Below.setCell ?_ (by first | omega | (simp; done) | (simp; omega)) _ | refine Below.alloc ?_ (by first | omega | (simp; done) | (simp; omega)) _))); have hsz4 : w.heap.size ≤ w4.heap.size := hB4.size)
        go_wp2
        go_ret
        exact ⟨rfl, hB4⟩
end Go.Proofs.Ytjndajndllimhaa
