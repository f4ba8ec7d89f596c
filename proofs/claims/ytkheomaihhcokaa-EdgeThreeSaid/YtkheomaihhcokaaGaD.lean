/-
  Texts in one: EgH, EgI, EgW, EgK.
-/
import Derived.Test.YtkheomaihhcokaaGaC
import Derived.Test.YtkheomaihhcokaaVcG
import Derived.HandedShaped
/-
  The reference limewashref14: Find, Big, Few, Same. (gen/EgH.py)
-/
namespace Go.Proofs.Ytkheomaihhcokaa
open Go.RowKit

/-- An edge of two places, in whichever order. -/
def fdB (a b : Int) (e : Int × Int × List Int) : Bool := decide (e.1 = a ∧ e.2.1 = b ∨ e.1 = b ∧ e.2.1 = a)
theorem fd_hit {L : List (Int × Int × List Int)} {a b : Int} {k : Nat} {e : Int × Int × List Int} (h : (L.take k).find? (fdB a b) = none) (g : L[k]? = some e) (q : fdB a b e = true) : L.find? (fdB a b) = some e := by
  have z : L.find? (fdB a b) = ((L.take k ++ L.drop k).find? (fdB a b)) := by rw [List.take_append_drop]
  rw [z, List.find?_append, h]
  have hk : k < L.length := by
    rcases Nat.lt_or_ge k L.length with r | r
    · exact r
    · rw [List.getElem?_eq_none r] at g; cases g
  rw [List.drop_eq_getElem_cons hk]
  rw [List.getElem?_eq_getElem hk] at g
  cases Option.some.inj g
  show (List.find? (fdB a b) (L[k] :: _)) = _
  rw [List.find?_cons_of_pos q]
theorem fd_miss {L : List (Int × Int × List Int)} {a b : Int} {k : Nat} {e : Int × Int × List Int} (h : (L.take k).find? (fdB a b) = none) (g : L[k]? = some e) (q : fdB a b e = false) : (L.take (k + 1)).find? (fdB a b) = none := by
  rw [List.take_add_one, g, List.find?_append, h]
  show (List.find? (fdB a b) [e]) = none
  rw [List.find?_cons_of_neg (by rw [q]; decide)]; rfl
def fdV (o : Option (Int × Int × List Int)) : Int × Int × List Int := o.getD (0, 0, [])
set_option maxRecDepth 100000 in
set_option maxHeartbeats 8000000 in
theorem rfind_edges (q : Option Addr) (n c : Nat) (L : List (Int × Int × List Int)) (a b : Int) (w : World) (hl : RowE w q n L) (hn : n ≤ 60) (h60 : ∀ e ∈ L, e.2.2.length ≤ 60) :
    Calls Try.prog 19 #[.slice q n c, .int .i64 a, .int .i64 b] w fun e w' => (∃ v, e = .returned (.tuple #[.agg #[.int .i64 (fdV (L.find? (fdB a b))).1, .int .i64 (fdV (L.find? (fdB a b))).2.1, v], .bool (L.find? (fdB a b)).isSome]) ∧ OwnI w' w.heap.size v (fdV (L.find? (fdB a b))).2.2) ∧ Below w.heap.size w w' := by
  have HB := Lib.hid (Below.refl w.heap.size w)
  have R := Lib.hid hl
  have S := Lib.hid h60
  have hln := hl.1
  clear hl h60
  obtain ⟨F, hF⟩ : ∃ F, F = L.find? (fdB a b) := ⟨_, rfl⟩
  rw [← hF]
  have HF := Lib.hid hF
  clear hF
  go_enter Try.func19, Try.ntmps19
  go_upto_region 1 with fail
  have hby := below_new1 w (.cells #[.int .i64 0, .int .i64 0, .slice none 0 0] 39)
  have zy : (w.alloc (.cells #[.int .i64 0, .int .i64 0, .slice none 0 0] 39)).heap.size = w.heap.size + 1 := by simp
  have HB := Lib.hid hby
  have ky := Lib.hid (Lok.new w 39 #[.int .i64 0, .int .i64 0, .slice none 0 0])
  clear hby
  generalize w.alloc (.cells #[.int .i64 0, .int .i64 0, .slice none 0 0] 39) = Vy at *
  have hyl : w.heap.size < Vy.heap.size := ky.out.lt
  clear zy
  have HB0 := HB
  have ky0 := ky
  clear HB ky
  go_wp2_with fail
  go_loopw [8] (fun x wr => ∃ k : Nat, x = .int .i64 k ∧ k ≤ n ∧ (L.take k).find? (fdB a b) = none ∧ Below Vy.heap.size Vy wr) (fun x _ => n - (intOf x).toNat)
  case atStart => exact ⟨0, rfl, Nat.zero_le _, rfl, Below.refl _ _⟩
  case round =>
    obtain ⟨k, rfl, hk, hN, hB⟩ := hrel
    have HB := Lib.hid (HB0.out.trans (hB.mono HB0.out.size))
    have BV := Lib.hid hB
    have ky := Lib.hid (ky0.out.keep hB)
    have HN := Lib.hid hN
    have hyw : w.heap.size < wr.heap.size := ky.out.lt
    clear hB hN
    by_cases hlt : k < n
    · skip
      obtain ⟨p, o, t, m, ct, x, y, l, rfl, hb, hL, hx, hy, hz, hr, htn, hmc, -⟩ := (R.out.keep HB.out).at hlt
      have hml := Lib.hid hr.1
      have hm60 : l.length ≤ 60 := S.out (x, y, l) (List.mem_of_getElem? hL)
      have HL := Lib.hid hL
      have OWN := Lib.hid (fun (W : World) (h : Below wr.heap.size wr W) => rownE_any x y t m ct l W (hr.keep h) htn (by have := hml.out; omega))
      clear hL htn hmc hr
      rw [← Nat.add_assoc] at hy hz
      have i0 : (0 : Int) ≤ (k : Int) := by omega
      have i1 : (k : Int) < (n : Int) := by omega
      have i2 : ((k : Int)).toNat = k := by omega
      have YES : Hid (fdB a b (x, y, l) = true → F = some (x, y, l)) := Lib.hid (fun q => by rw [HF.out]; exact fd_hit HN.out HL.out q)
      have NO : Hid (fdB a b (x, y, l) = false → (L.take (k + 1)).find? (fdB a b) = none) := Lib.hid (fun q => fd_miss HN.out HL.out q)
      by_cases h1 : x = a
      · by_cases h2 : y = b
        · have E := Lib.hid (YES.out (decide_eq_true (by show x = a ∧ y = b ∨ x = b ∧ y = a; omega)))
          clear YES NO
          have sh1 := h1.symm
          subst sh1
          have sh2 := h2.symm
          subst sh2
          go_wp2_with fail
          ((with_reducible refine (OWN.out _ (Below.refl _ _)).mono ?_); rintro e w5 ⟨⟨v5, rfl, hO5⟩, hb5⟩)
          replace HB := Lib.hid (HB.out.trans (hb5.mono HB.out.size))
          replace ky := Lib.hid (ky.out.keep hb5)
          obtain ⟨aQ, nQ, cQ, rfl⟩ := ownI_slice hO5
          have O6 := Lib.hid (ownI_mono (ownI_set (i := 2) (x := .slice aQ nQ cQ) (ownI_set (i := 1) (x := .int .i64 b) (ownI_set (i := 0) (x := .int .i64 a) hO5 hyw) hyw) hyw) (show w.heap.size ≤ wr.heap.size by omega))
          clear hb5 hO5 hx hy hz OWN
          have y0 := ky.out.cell (i := 0) rfl
          have y1 := ky.out.cell (i := 1) rfl
          have y2 := ky.out.cell (i := 2) rfl
          have f0 := ky.out.frozen 0
          have f1 := ky.out.frozen 1
          have f2 := ky.out.frozen 2
          go_wp2_with fail
          exact bodyPost_ret (v := .tuple #[.agg #[.int .i64 a, .int .i64 b, .slice aQ nQ cQ], .bool true]) (by simp [results, Try.results19, go_sem, y0, y1, y2]) rfl ⟨⟨_, by rw [E.out]; rfl, by rw [E.out]; exact O6.out⟩, ((HB.out.setCell (by simp <;> omega) _).setCell (by simp <;> omega) _).setCell (by simp <;> omega) _⟩
        · have nh2 : (y == b) = false := by rw [beq_eq_false_iff_ne]; exact h2
          by_cases h3 : x = b
          · have E := Lib.hid (NO.out (decide_eq_false (by show ¬ (x = a ∧ y = b ∨ x = b ∧ y = a); omega)))
            clear YES NO OWN
            have sh1 := h1.symm
            subst sh1
            have h4 : ¬ y = a := by omega
            have nh4 : (y == a) = false := by rw [beq_eq_false_iff_ne]; exact h4
            subst h3
            go_wp2
            go_roundw
            case rel => exact ⟨k + 1, by go_num, hlt, E.out, BV.out⟩
            case measure => simp [intOf]; omega
          · have nh3 : (x == b) = false := by rw [beq_eq_false_iff_ne]; exact h3
            have E := Lib.hid (NO.out (decide_eq_false (by show ¬ (x = a ∧ y = b ∨ x = b ∧ y = a); omega)))
            clear YES NO OWN
            have sh1 := h1.symm
            subst sh1
            go_wp2
            go_roundw
            case rel => exact ⟨k + 1, by go_num, hlt, E.out, BV.out⟩
            case measure => simp [intOf]; omega
      · have nh1 : (x == a) = false := by rw [beq_eq_false_iff_ne]; exact h1
        by_cases h3 : x = b
        · by_cases h4 : y = a
          · have E := Lib.hid (YES.out (decide_eq_true (by show x = a ∧ y = b ∨ x = b ∧ y = a; omega)))
            clear YES NO
            have sh3 := h3.symm
            subst sh3
            have sh4 := h4.symm
            subst sh4
            go_wp2_with fail
            ((with_reducible refine (OWN.out _ (Below.refl _ _)).mono ?_); rintro e w5 ⟨⟨v5, rfl, hO5⟩, hb5⟩)
            replace HB := Lib.hid (HB.out.trans (hb5.mono HB.out.size))
            replace ky := Lib.hid (ky.out.keep hb5)
            obtain ⟨aQ, nQ, cQ, rfl⟩ := ownI_slice hO5
            have O6 := Lib.hid (ownI_mono (ownI_set (i := 2) (x := .slice aQ nQ cQ) (ownI_set (i := 1) (x := .int .i64 a) (ownI_set (i := 0) (x := .int .i64 b) hO5 hyw) hyw) hyw) (show w.heap.size ≤ wr.heap.size by omega))
            clear hb5 hO5 hx hy hz OWN
            have y0 := ky.out.cell (i := 0) rfl
            have y1 := ky.out.cell (i := 1) rfl
            have y2 := ky.out.cell (i := 2) rfl
            have f0 := ky.out.frozen 0
            have f1 := ky.out.frozen 1
            have f2 := ky.out.frozen 2
            go_wp2_with fail
            exact bodyPost_ret (v := .tuple #[.agg #[.int .i64 b, .int .i64 a, .slice aQ nQ cQ], .bool true]) (by simp [results, Try.results19, go_sem, y0, y1, y2]) rfl ⟨⟨_, by rw [E.out]; rfl, by rw [E.out]; exact O6.out⟩, ((HB.out.setCell (by simp <;> omega) _).setCell (by simp <;> omega) _).setCell (by simp <;> omega) _⟩
          · have nh4 : (y == a) = false := by rw [beq_eq_false_iff_ne]; exact h4
            have E := Lib.hid (NO.out (decide_eq_false (by show ¬ (x = a ∧ y = b ∨ x = b ∧ y = a); omega)))
            clear YES NO OWN
            have sh3 := h3.symm
            subst sh3
            go_wp2
            go_roundw
            case rel => exact ⟨k + 1, by go_num, hlt, E.out, BV.out⟩
            case measure => simp [intOf]; omega
        · have nh3 : (x == b) = false := by rw [beq_eq_false_iff_ne]; exact h3
          have E := Lib.hid (NO.out (decide_eq_false (by show ¬ (x = a ∧ y = b ∨ x = b ∧ y = a); omega)))
          clear YES NO OWN
          go_wp2
          go_roundw
          case rel => exact ⟨k + 1, by go_num, hlt, E.out, BV.out⟩
          case measure => simp [intOf]; omega
    · obtain rfl : k = n := by omega
      have E : Hid (F = none) := Lib.hid (by
        have z := HN.out
        rw [List.take_of_length_le (by omega)] at z
        rw [HF.out, z])
      have y0 := ky.out.cell (i := 0) rfl
      have y1 := ky.out.cell (i := 1) rfl
      have y2 := ky.out.cell (i := 2) rfl
      have f0 := ky.out.frozen 0
      have f1 := ky.out.frozen 1
      have f2 := ky.out.frozen 2
      go_wp2_with fail
      exact bodyPost_ret (v := .tuple #[.agg #[.int .i64 0, .int .i64 0, .slice none 0 0], .bool false]) (by simp [results, Try.results19, go_sem, y0, y1, y2]) rfl ⟨⟨_, by rw [E.out]; rfl, by rw [E.out]; exact OwnI.nil _ _⟩, ((HB.out.setCell (by simp <;> omega) _).setCell (by simp <;> omega) _).setCell (by simp <;> omega) _⟩
/-- Edges that are not looked at. -/
def bigB (L : List (Int × Int × List Int)) : Bool := decide (60 < L.length ∨ ∃ e ∈ L, 60 < e.2.2.length)
theorem big_no {L : List (Int × Int × List Int)} (h : bigB L = false) : L.length ≤ 60 ∧ ∀ e ∈ L, e.2.2.length ≤ 60 := by
  have z := of_decide_eq_false h
  refine ⟨Nat.le_of_not_lt (fun q => z (.inl q)), fun e he => Nat.le_of_not_lt (fun q => z (.inr ⟨e, he, q⟩))⟩
set_option maxRecDepth 100000 in
set_option maxHeartbeats 8000000 in
theorem rbig_edges (q : Option Addr) (n c : Nat) (L : List (Int × Int × List Int)) (w : World) (hl : RowE w q n L) (hn : n ≤ 9223372036854775807) :
    Calls Try.prog 9 #[.slice q n c] w fun e w' => e = .returned (.bool (bigB L)) ∧ Below w.heap.size w w' := by
  have HB := Lib.hid (Below.refl w.heap.size w)
  have R := Lib.hid hl
  have hln := Lib.hid hl.1
  clear hl
  by_cases h60 : 60 < n
  · have E : Hid (bigB L = true) := Lib.hid (decide_eq_true (.inl (by rw [hln.out]; exact h60)))
    have h1 : ¬ (n : Int) ≤ 60 := by omega
    have h2 : (60 : Int) < (n : Int) := by omega
    have h3 : ¬ n ≤ 60 := by omega
    have h4 : 0 < n := by omega
    go_enter Try.func9, Try.ntmps9
    go_wp2_with fail
    go_loopw [3] (fun x wr => x = .int .i64 0 ∧ Below w.heap.size w wr) (fun _ _ => 0)
    case atStart => exact ⟨rfl, HB.out⟩
    case round =>
      obtain ⟨rfl, hB⟩ := hrel
      go_wp2
      go_ret
      exact ⟨by rw [E.out]; rfl, hB⟩
  · have h1 : (n : Int) ≤ 60 := by omega
    have h2 : ¬ (60 : Int) < (n : Int) := by omega
    have h3 : n ≤ 60 := by omega
    go_enter Try.func9, Try.ntmps9
    go_wp2_with fail
    go_loopw [3] (fun x wr => ∃ k : Nat, x = .int .i64 k ∧ k ≤ n ∧ (∀ j e, j < k → L[j]? = some e → e.2.2.length ≤ 60) ∧ Below w.heap.size w wr) (fun x _ => n - (intOf x).toNat)
    case atStart => exact ⟨0, rfl, Nat.zero_le _, fun j e h => absurd h (by omega), HB.out⟩
    case round =>
      clear HB
      obtain ⟨k, rfl, hk, hN, hB⟩ := hrel
      have HB := Lib.hid hB
      have HN := Lib.hid hN
      clear hB hN
      by_cases hlt : k < n
      · obtain ⟨p, o, t, m, ct, x, y, l, rfl, hb, hL, hx, hy, hz, hr, htn, hmc, -⟩ := (R.out.keep HB.out).at hlt
        have hml := Lib.hid hr.1
        have HL := Lib.hid hL
        clear hL htn hmc hr hx hy
        rw [← Nat.add_assoc] at hz
        have i0 : (0 : Int) ≤ (k : Int) := by omega
        have i1 : (k : Int) < (n : Int) := by omega
        have i2 : ((k : Int)).toNat = k := by omega
        by_cases hm : 60 < m
        · have E : Hid (bigB L = true) := Lib.hid (decide_eq_true (.inr ⟨_, List.mem_of_getElem? HL.out, by rw [show (x, y, l).2.2.length = m from hml.out]; exact hm⟩))
          have hm2 : (60 : Int) < (m : Int) := by omega
          go_wp2
          go_ret
          exact ⟨by rw [E.out]; rfl, HB.out⟩
        · have hm2 : ¬ (60 : Int) < (m : Int) := by omega
          have E : Hid (∀ j e, j < k + 1 → L[j]? = some e → e.2.2.length ≤ 60) := Lib.hid (fun j e hj he => by
            by_cases s : j = k
            · rw [s, HL.out] at he
              cases Option.some.inj he
              show l.length ≤ 60
              have := hml.out
              omega
            · exact HN.out j e (by omega) he)
          go_wp2
          go_roundw
          case rel => exact ⟨k + 1, by go_num, hlt, E.out, HB.out⟩
          case measure => simp [intOf]; omega
      · obtain rfl : k = n := by omega
        have E : Hid (bigB L = false) := Lib.hid (decide_eq_false (fun h => by
          rcases h with h | ⟨e, he, h⟩
          · have := hln.out; omega
          · obtain ⟨j, hj, rfl⟩ := List.getElem_of_mem he
            have := HN.out j _ (by have := hln.out; omega) (List.getElem?_eq_getElem hj)
            omega))
        go_wp2
        go_ret
        have z : decide ((60 : Int) < (k : Int)) = false := decide_eq_false (by omega)
        exact ⟨by show Ending.returned (Value.bool (decide ((60 : Int) < (k : Int)))) = _; rw [E.out, z], HB.out⟩
end Go.Proofs.Ytkheomaihhcokaa
/-
  The reference limewashref14: Few, Same. (gen/EgI.py)
-/
namespace Go.Proofs.Ytkheomaihhcokaa
open Go.RowKit

/-- A mesh of few points and triangles. -/
def fwB (n1 n2 n3 n4 : Nat) : Bool := decide (n1 ≤ 20 ∧ n2 ≤ 60 ∧ n3 ≤ 60 ∧ n4 ≤ 20)
theorem fw_yes {n1 n2 n3 n4 : Nat} (h : fwB n1 n2 n3 n4 = true) : n1 ≤ 20 ∧ n2 ≤ 60 ∧ n3 ≤ 60 ∧ n4 ≤ 20 := of_decide_eq_true h
set_option maxRecDepth 100000 in
set_option maxHeartbeats 4000000 in
theorem rfew_any (pa1 pa2 pa3 pa4 : Option Addr) (n1 n2 n3 n4 c1 c2 c3 c4 : Nat) (w : World) :
    Calls Try.prog 8 #[.agg #[.slice pa1 n1 c1, .slice pa2 n2 c2, .slice pa3 n3 c3, .slice pa4 n4 c4]] w fun e' w' => e' = .returned (.bool (fwB n1 n2 n3 n4)) ∧ Below w.heap.size w w' := by
  have HB := Lib.hid (Below.refl w.heap.size w)
  by_cases p1 : n1 ≤ 20
  case neg =>
    have E : Hid (fwB n1 n2 n3 n4 = false) := Lib.hid (decide_eq_false (by omega))
    have q1 : ¬ (n1 : Int) ≤ 20 := by omega
    go_enter Try.func8, Try.ntmps8
    go_upto_region 1 with fail
    have hbm := below_new1 w (.cells #[.slice pa1 n1 c1, .slice pa2 n2 c2, .slice pa3 n3 c3, .slice pa4 n4 c4] 26)
    have zm : (w.alloc (.cells #[.slice pa1 n1 c1, .slice pa2 n2 c2, .slice pa3 n3 c3, .slice pa4 n4 c4] 26)).heap.size = w.heap.size + 1 := by simp
    have HB := Lib.hid hbm
    have km := Lib.hid (Lok.new w 26 #[.slice pa1 n1 c1, .slice pa2 n2 c2, .slice pa3 n3 c3, .slice pa4 n4 c4])
    clear hbm
    generalize w.alloc (.cells #[.slice pa1 n1 c1, .slice pa2 n2 c2, .slice pa3 n3 c3, .slice pa4 n4 c4] 26) = Vm at *
    clear zm
    have m0 := km.out.cell (i := 0) rfl
    have m1 := km.out.cell (i := 1) rfl
    have m2 := km.out.cell (i := 2) rfl
    have m3 := km.out.cell (i := 3) rfl
    go_wp2
    go_ret
    exact ⟨by rw [E.out]; rfl, HB.out⟩
  have q1 : (n1 : Int) ≤ 20 := by omega
  by_cases p2 : n2 ≤ 60
  case neg =>
    have E : Hid (fwB n1 n2 n3 n4 = false) := Lib.hid (decide_eq_false (by omega))
    have q2 : ¬ (n2 : Int) ≤ 60 := by omega
    go_enter Try.func8, Try.ntmps8
    go_upto_region 1 with fail
    have hbm := below_new1 w (.cells #[.slice pa1 n1 c1, .slice pa2 n2 c2, .slice pa3 n3 c3, .slice pa4 n4 c4] 26)
    have zm : (w.alloc (.cells #[.slice pa1 n1 c1, .slice pa2 n2 c2, .slice pa3 n3 c3, .slice pa4 n4 c4] 26)).heap.size = w.heap.size + 1 := by simp
    have HB := Lib.hid hbm
    have km := Lib.hid (Lok.new w 26 #[.slice pa1 n1 c1, .slice pa2 n2 c2, .slice pa3 n3 c3, .slice pa4 n4 c4])
    clear hbm
    generalize w.alloc (.cells #[.slice pa1 n1 c1, .slice pa2 n2 c2, .slice pa3 n3 c3, .slice pa4 n4 c4] 26) = Vm at *
    clear zm
    have m0 := km.out.cell (i := 0) rfl
    have m1 := km.out.cell (i := 1) rfl
    have m2 := km.out.cell (i := 2) rfl
    have m3 := km.out.cell (i := 3) rfl
    go_wp2
    go_ret
    exact ⟨by rw [E.out]; rfl, HB.out⟩
  have q2 : (n2 : Int) ≤ 60 := by omega
  by_cases p3 : n3 ≤ 60
  case neg =>
    have E : Hid (fwB n1 n2 n3 n4 = false) := Lib.hid (decide_eq_false (by omega))
    have q3 : ¬ (n3 : Int) ≤ 60 := by omega
    go_enter Try.func8, Try.ntmps8
    go_upto_region 1 with fail
    have hbm := below_new1 w (.cells #[.slice pa1 n1 c1, .slice pa2 n2 c2, .slice pa3 n3 c3, .slice pa4 n4 c4] 26)
    have zm : (w.alloc (.cells #[.slice pa1 n1 c1, .slice pa2 n2 c2, .slice pa3 n3 c3, .slice pa4 n4 c4] 26)).heap.size = w.heap.size + 1 := by simp
    have HB := Lib.hid hbm
    have km := Lib.hid (Lok.new w 26 #[.slice pa1 n1 c1, .slice pa2 n2 c2, .slice pa3 n3 c3, .slice pa4 n4 c4])
    clear hbm
    generalize w.alloc (.cells #[.slice pa1 n1 c1, .slice pa2 n2 c2, .slice pa3 n3 c3, .slice pa4 n4 c4] 26) = Vm at *
    clear zm
    have m0 := km.out.cell (i := 0) rfl
    have m1 := km.out.cell (i := 1) rfl
    have m2 := km.out.cell (i := 2) rfl
    have m3 := km.out.cell (i := 3) rfl
    go_wp2
    go_ret
    exact ⟨by rw [E.out]; rfl, HB.out⟩
  have q3 : (n3 : Int) ≤ 60 := by omega
  by_cases p4 : n4 ≤ 20
  · have E : Hid (fwB n1 n2 n3 n4 = true) := Lib.hid (decide_eq_true (by omega))
    have q4 : (n4 : Int) ≤ 20 := by omega
    go_enter Try.func8, Try.ntmps8
    go_upto_region 1 with fail
    have hbm := below_new1 w (.cells #[.slice pa1 n1 c1, .slice pa2 n2 c2, .slice pa3 n3 c3, .slice pa4 n4 c4] 26)
    have zm : (w.alloc (.cells #[.slice pa1 n1 c1, .slice pa2 n2 c2, .slice pa3 n3 c3, .slice pa4 n4 c4] 26)).heap.size = w.heap.size + 1 := by simp
    have HB := Lib.hid hbm
    have km := Lib.hid (Lok.new w 26 #[.slice pa1 n1 c1, .slice pa2 n2 c2, .slice pa3 n3 c3, .slice pa4 n4 c4])
    clear hbm
    generalize w.alloc (.cells #[.slice pa1 n1 c1, .slice pa2 n2 c2, .slice pa3 n3 c3, .slice pa4 n4 c4] 26) = Vm at *
    clear zm
    have m0 := km.out.cell (i := 0) rfl
    have m1 := km.out.cell (i := 1) rfl
    have m2 := km.out.cell (i := 2) rfl
    have m3 := km.out.cell (i := 3) rfl
    go_wp2
    go_ret
    have z : decide ((n4 : Int) ≤ 20) = true := decide_eq_true (by omega)
    exact ⟨by first | (rw [E.out]; rfl) | (show Ending.returned (Value.bool (decide ((n4 : Int) ≤ 20))) = _; rw [E.out, z]), HB.out⟩
  · have E : Hid (fwB n1 n2 n3 n4 = false) := Lib.hid (decide_eq_false (by omega))
    have q4 : ¬ (n4 : Int) ≤ 20 := by omega
    go_enter Try.func8, Try.ntmps8
    go_upto_region 1 with fail
    have hbm := below_new1 w (.cells #[.slice pa1 n1 c1, .slice pa2 n2 c2, .slice pa3 n3 c3, .slice pa4 n4 c4] 26)
    have zm : (w.alloc (.cells #[.slice pa1 n1 c1, .slice pa2 n2 c2, .slice pa3 n3 c3, .slice pa4 n4 c4] 26)).heap.size = w.heap.size + 1 := by simp
    have HB := Lib.hid hbm
    have km := Lib.hid (Lok.new w 26 #[.slice pa1 n1 c1, .slice pa2 n2 c2, .slice pa3 n3 c3, .slice pa4 n4 c4])
    clear hbm
    generalize w.alloc (.cells #[.slice pa1 n1 c1, .slice pa2 n2 c2, .slice pa3 n3 c3, .slice pa4 n4 c4] 26) = Vm at *
    clear zm
    have m0 := km.out.cell (i := 0) rfl
    have m1 := km.out.cell (i := 1) rfl
    have m2 := km.out.cell (i := 2) rfl
    have m3 := km.out.cell (i := 3) rfl
    go_wp2
    go_ret
    have z : decide ((n4 : Int) ≤ 20) = false := decide_eq_false (by omega)
    exact ⟨by first | (rw [E.out]; rfl) | (show Ending.returned (Value.bool (decide ((n4 : Int) ≤ 20))) = _; rw [E.out, z]), HB.out⟩
/-- Two rows of edges are the same. -/
def seB (L M : List (Int × Int × List Int)) : Bool := decide (L = M)
theorem seB_self (L : List (Int × Int × List Int)) : seB L L = true := decide_eq_true rfl
theorem se_no {L M : List (Int × Int × List Int)} {k : Nat} {e f : Int × Int × List Int} (h : L[k]? = some e) (g : M[k]? = some f) (q : ¬ e = f) : seB L M = false := decide_eq_false (fun s => by rw [s, g] at h; exact q (Option.some.inj h).symm)
set_option maxRecDepth 100000 in
set_option maxHeartbeats 16000000 in
theorem rsame_edges (a b : Option Addr) (n m c d : Nat) (L M : List (Int × Int × List Int)) (w : World) (hl : RowE w a n L) (hm : RowE w b m M) (hn : n ≤ 9223372036854775806) (hk : m ≤ 9223372036854775806) :
    Calls Try.prog 20 #[.slice a n c, .slice b m d] w fun e w' => e = .returned (.bool (seB L M)) ∧ Below w.heap.size w w' := by
  have HB := Lib.hid (Below.refl w.heap.size w)
  have hll := Lib.hid hl.1
  have hml := Lib.hid hm.1
  by_cases hnm : n = m
  · subst hnm
    have RL := Lib.hid hl
    have RM := Lib.hid hm
    clear hl hm
    go_enter Try.func20, Try.ntmps20
    go_wp2_with fail
    go_loopw [5] (fun x wr => ∃ k : Nat, x = .int .i64 k ∧ k ≤ n ∧ (∀ j, j < k → L[j]? = M[j]?) ∧ Below w.heap.size w wr) (fun x _ => n - (intOf x).toNat)
    case atStart => exact ⟨0, rfl, Nat.zero_le _, fun j h => absurd h (by omega), HB.out⟩
    case round =>
      clear HB
      obtain ⟨k, rfl, hk', hR, hB⟩ := hrel
      have HB := Lib.hid hB
      have HR := Lib.hid hR
      clear hB hR
      by_cases hlt : k < n
      · obtain ⟨p, o, t, m1, ct, x, y, l, rfl, hb, hL, hx, hy, hz, hr, -, hmc1, hcm⟩ := (RL.out.keep HB.out).at hlt
        obtain ⟨p2, o2, t2, m2, ct2, x2, y2, l2, rfl, hb2, hL2, hx2, hy2, hz2, hr2, -, hmc2, hcm2⟩ := (RM.out.keep HB.out).at hlt
        have YES : Hid ((x, y, l) = (x2, y2, l2) → ∀ j, j < k + 1 → L[j]? = M[j]?) := Lib.hid (fun e j hj => by
          by_cases s : j = k
          · rw [s, hL, hL2, e]
          · exact HR.out j (by omega))
        have NO : Hid (¬ (x, y, l) = (x2, y2, l2) → seB L M = false) := Lib.hid (fun e => se_no hL hL2 e)
        have SM := Lib.hid (fun D : Of (PastV wr) => rsame_list t t2 m1 m2 ct ct2 l l2 D.world (hr.keep (show Below wr.heap.size wr D.world from D.holds)) (hr2.keep (show Below wr.heap.size wr D.world from D.holds)) (by omega) (by omega))
        rw [← Nat.add_assoc] at hy hz hy2 hz2
        have d0 : ∀ D : Of (PastV wr), _ := fun D => keepc (show Below wr.heap.size wr D.world from D.holds) hx
        have d1 : ∀ D : Of (PastV wr), _ := fun D => keepc (show Below wr.heap.size wr D.world from D.holds) hy
        have d2 : ∀ D : Of (PastV wr), _ := fun D => keepc (show Below wr.heap.size wr D.world from D.holds) hz
        have e0 : ∀ D : Of (PastV wr), _ := fun D => keepc (show Below wr.heap.size wr D.world from D.holds) hx2
        have e1 : ∀ D : Of (PastV wr), _ := fun D => keepc (show Below wr.heap.size wr D.world from D.holds) hy2
        have e2 : ∀ D : Of (PastV wr), _ := fun D => keepc (show Below wr.heap.size wr D.world from D.holds) hz2
        clear hL hL2 hx hy hz hx2 hy2 hz2 hr hr2 hmc1 hmc2 hcm hcm2
        have ST := Lib.hid (pastV_stays wr)
        have ne : Nonempty (Of (PastV wr)) := ⟨⟨wr, Below.refl _ _⟩⟩
        have i0 : (0 : Int) ≤ (k : Int) := by omega
        have i1 : (k : Int) < (n : Int) := by omega
        have i2 : ((k : Int)).toNat = k := by omega
        go_upto_region 6 with fail
        by_cases g1 : x = x2
        · subst g1
          by_cases g2 : y = y2
          · subst g2
            cases g3 : smB l l2 with
            | false =>
              have E := Lib.hid (NO.out (by intro e; have := (Prod.mk.inj (Prod.mk.inj e).2).2; rw [this, smB_self] at g3; cases g3))
              rw [g3] at SM
              clear YES NO g3
              refine wp_region_class (S := PastV wr) (by kernel_rfl) (by kernel_rfl) (Below.refl _ _).drew ?_
              repeat (go_big_quiet_step (first | (go_at_call 21; first | (with_reducible exact class_call ST.out _ (SM.out _)))))
              refine wpQuiet_nil ?_
              rintro _ ⟨D, rfl⟩
              have hD : Below wr.heap.size wr D.world := D.holds
              go_wp2
              go_ret
              exact ⟨by rw [E.out]; rfl, HB.out.trans (hD.mono HB.out.size)⟩
            | true =>
              have E := Lib.hid (YES.out (by rw [of_decide_eq_true g3]))
              rw [g3] at SM
              clear YES NO g3
              refine wp_region_class (S := PastV wr) (by kernel_rfl) (by kernel_rfl) (Below.refl _ _).drew ?_
              repeat (go_big_quiet_step (first | (go_at_call 21; first | (with_reducible exact class_call ST.out _ (SM.out _)))))
              refine wpQuiet_nil ?_
              rintro _ ⟨D, rfl⟩
              have hD : Below wr.heap.size wr D.world := D.holds
              go_wp2
              go_roundw
              case rel => exact ⟨k + 1, by go_num, hlt, E.out, HB.out.trans (hD.mono HB.out.size)⟩
              case measure => simp [intOf]; omega
          · have ng2 : (y == y2) = false := by rw [beq_eq_false_iff_ne]; exact g2
            have mg2 : (y != y2) = true := by rw [bne, ng2]; rfl
            have E := Lib.hid (NO.out (by intro e; exact g2 (Prod.mk.inj (Prod.mk.inj e).2).1))
            clear YES NO
            refine wp_region_class (S := PastV wr) (by kernel_rfl) (by kernel_rfl) (Below.refl _ _).drew ?_
            repeat (go_big_quiet_step (first | (go_at_call 21; first | (with_reducible exact class_call ST.out _ (SM.out _)))))
            refine wpQuiet_nil ?_
            rintro _ ⟨D, rfl⟩
            have hD : Below wr.heap.size wr D.world := D.holds
            go_wp2
            go_ret
            exact ⟨by rw [E.out]; rfl, HB.out.trans (hD.mono HB.out.size)⟩
        · have ng1 : (x == x2) = false := by rw [beq_eq_false_iff_ne]; exact g1
          have mg1 : (x != x2) = true := by rw [bne, ng1]; rfl
          have E := Lib.hid (NO.out (by intro e; exact g1 (Prod.mk.inj e).1))
          clear YES NO
          refine wp_region_class (S := PastV wr) (by kernel_rfl) (by kernel_rfl) (Below.refl _ _).drew ?_
          repeat (go_big_quiet_step (first | (go_at_call 21; first | (with_reducible exact class_call ST.out _ (SM.out _)))))
          refine wpQuiet_nil ?_
          rintro _ ⟨D, rfl⟩
          have hD : Below wr.heap.size wr D.world := D.holds
          go_wp2
          go_ret
          exact ⟨by rw [E.out]; rfl, HB.out.trans (hD.mono HB.out.size)⟩
      · obtain rfl : k = n := by omega
        have E : Hid (seB L M = true) := Lib.hid (decide_eq_true (by
          apply List.ext_getElem?
          intro i
          rcases Nat.lt_or_ge i k with h | h
          · exact HR.out i h
          · rw [List.getElem?_eq_none (by have := hll.out; omega), List.getElem?_eq_none (by have := hml.out; omega)]))
        go_wp2
        go_ret
        exact ⟨by rw [E.out]; rfl, HB.out⟩
  · have E : Hid (seB L M = false) := Lib.hid (decide_eq_false (fun h => hnm (by rw [← hll.out, ← hml.out, h])))
    have h1 : ¬ (n : Int) = (m : Int) := by omega
    have h2 : ((n : Int) == (m : Int)) = false := by rw [beq_eq_false_iff_ne]; exact h1
    clear hl hm
    go_enter Try.func20, Try.ntmps20
    go_wp2
    go_ret
    exact ⟨by rw [E.out]; rfl, HB.out⟩
end Go.Proofs.Ytkheomaihhcokaa
/-
  What the laws of edges look with: is a number one of some, do two triangles stand at one edge. (gen/EgW.py)
-/
namespace Go.Proofs.Ytkheomaihhcokaa
open Go.RowKit

/-- A number is one of some. -/
def inB (L : List Int) (x : Int) : Bool := decide (x ∈ L)
set_option maxRecDepth 100000 in
set_option maxHeartbeats 4000000 in
theorem lin_list (a : Option Addr) (n c : Nat) (L : List Int) (v : Int) (w : World) (hl : RowI w a n L) (hn : n ≤ 9223372036854775807) :
    Calls Try.prog 26 #[.slice a n c, .int .i64 v] w fun e w' => e = .returned (.bool (inB L v)) ∧ Below w.heap.size w w' := by
  have HB := Lib.hid (Below.refl w.heap.size w)
  have RL := Lib.hid hl
  have hln := Lib.hid hl.1
  clear hl
  go_enter Try.func26, Try.ntmps26
  go_wp2_with fail
  go_loopw [5] (fun x wr => ∃ k : Nat, x = .int .i64 k ∧ k ≤ n ∧ (∀ j, j < k → ¬ L.getD j 0 = v) ∧ Below w.heap.size w wr) (fun x _ => n - (intOf x).toNat)
  case atStart => exact ⟨0, rfl, Nat.zero_le _, fun j h => absurd h (by omega), HB.out⟩
  case round =>
    obtain ⟨k, rfl, hk', hR, hB⟩ := hrel
    replace HB := Lib.hid hB
    have HR := Lib.hid hR
    clear hB hR
    by_cases hlt : k < n
    · obtain ⟨p, o, rfl, hb, hc⟩ := (RL.out.keep HB.out).at hlt
      have c0 := hc k hlt
      have NO : Hid (¬ L.getD k 0 = v → ∀ j, j < k + 1 → ¬ L.getD j 0 = v) := Lib.hid (fun e j hj => by
        by_cases s : j = k
        · rw [s]; exact e
        · exact HR.out j (by omega))
      have YES : Hid (L.getD k 0 = v → inB L v = true) := Lib.hid (fun e => decide_eq_true (by
        rw [← e, List.getD_eq_getElem?_getD, List.getElem?_eq_getElem (show k < L.length from by have := hln.out; omega)]
        exact List.getElem_mem _))
      clear hc
      generalize L.getD k 0 = x at *
      have i0 : (0 : Int) ≤ (k : Int) := by omega
      have i1 : (k : Int) < (n : Int) := by omega
      have i2 : ((k : Int)).toNat = k := by omega
      by_cases hxy : x = v
      · have E := Lib.hid (YES.out hxy)
        clear YES NO
        subst hxy
        go_wp2
        go_ret
        exact ⟨by rw [E.out]; rfl, HB.out⟩
      · have E := Lib.hid (NO.out hxy)
        have h2 : (x == v) = false := by rw [beq_eq_false_iff_ne]; exact hxy
        have h3 : (x != v) = true := by rw [bne, h2]; rfl
        clear YES NO
        go_wp2
        go_roundw
        case rel => exact ⟨k + 1, by go_num, hlt, E.out, HB.out⟩
        case measure => simp [intOf]; omega
    · obtain rfl : k = n := by omega
      have E : Hid (inB L v = false) := Lib.hid (decide_eq_false (fun h => by
        obtain ⟨j, hj, e⟩ := List.getElem_of_mem h
        refine HR.out j (by have := hln.out; omega) ?_
        rw [List.getD_eq_getElem?_getD, List.getElem?_eq_getElem hj]
        exact e))
      go_wp2
      go_ret
      exact ⟨by rw [E.out]; rfl, HB.out⟩
/-- Two triangles stand at one edge. -/
def sdB (L : List (Int × Int × List Int)) (i k : Int) : Bool := decide (∃ e ∈ L, i ∈ e.2.2 ∧ k ∈ e.2.2)
set_option maxRecDepth 100000 in
set_option maxHeartbeats 16000000 in
theorem lshared_edges (a : Option Addr) (n c : Nat) (L : List (Int × Int × List Int)) (i v : Int) (w : World) (hl : RowE w a n L) (hn : n ≤ 9223372036854775807) :
    Calls Try.prog 27 #[.slice a n c, .int .i64 i, .int .i64 v] w fun e w' => e = .returned (.bool (sdB L i v)) ∧ Below w.heap.size w w' := by
  have HB := Lib.hid (Below.refl w.heap.size w)
  have RL := Lib.hid hl
  have hln := Lib.hid hl.1
  clear hl
  go_enter Try.func27, Try.ntmps27
  go_wp2_with fail
  go_loopw [7] (fun x wr => ∃ k : Nat, x = .int .i64 k ∧ k ≤ n ∧ (∀ j e, j < k → L[j]? = some e → ¬ (i ∈ e.2.2 ∧ v ∈ e.2.2)) ∧ Below w.heap.size w wr) (fun x _ => n - (intOf x).toNat)
  case atStart => exact ⟨0, rfl, Nat.zero_le _, fun j e h => absurd h (by omega), HB.out⟩
  case round =>
    clear HB
    obtain ⟨k, rfl, hk', hR, hB⟩ := hrel
    have HB := Lib.hid hB
    have HR := Lib.hid hR
    clear hB hR
    by_cases hlt : k < n
    · obtain ⟨p, o, t, m1, ct, x, y, l, rfl, hb, hL, hx, hy, hz, hr, -, hmc1, hcm⟩ := (RL.out.keep HB.out).at hlt
      have NO : Hid (¬ (i ∈ l ∧ v ∈ l) → ∀ j e, j < k + 1 → L[j]? = some e → ¬ (i ∈ e.2.2 ∧ v ∈ e.2.2)) := Lib.hid (fun e j f hj hf => by
        by_cases s : j = k
        · rw [s, hL] at hf
          cases Option.some.inj hf
          exact e
        · exact HR.out j f (by omega) hf)
      have YES : Hid (i ∈ l ∧ v ∈ l → sdB L i v = true) := Lib.hid (fun e => decide_eq_true ⟨_, List.mem_of_getElem? hL, e⟩)
      have I1 := Lib.hid (fun W (h : Below wr.heap.size wr W) => lin_list t m1 ct l i W (hr.keep h) (by omega))
      have I2 := Lib.hid (fun W (h : Below wr.heap.size wr W) => lin_list t m1 ct l v W (hr.keep h) (by omega))
      rw [← Nat.add_assoc] at hz
      clear hL hx hy hr hmc1 hcm
      have i0 : (0 : Int) ≤ (k : Int) := by omega
      have i1 : (k : Int) < (n : Int) := by omega
      have i2 : ((k : Int)).toNat = k := by omega
      unfold inB at I1 I2
      by_cases g1 : i ∈ l
      · rw [decide_eq_true g1] at I1
        by_cases g2 : v ∈ l
        · rw [decide_eq_true g2] at I2
          have E := Lib.hid (YES.out ⟨g1, g2⟩)
          clear YES NO g1 g2
          go_wp2_with fail
          ((with_reducible refine (I1.out _ (Below.refl _ _)).mono ?_); rintro e w1 ⟨rfl, hb1⟩)
          replace HB := Lib.hid (HB.out.trans (hb1.mono HB.out.size))
          replace hz := keepc hb1 hz
          have B1 := Lib.hid hb1
          clear hb1 I1
          go_wp2_with fail
          ((with_reducible refine (I2.out _ B1.out).mono ?_); rintro e w2 ⟨rfl, hb2⟩)
          replace HB := Lib.hid (HB.out.trans (hb2.mono HB.out.size))
          clear hb2 hz I2 B1
          go_wp2
          go_ret
          exact ⟨by rw [E.out]; rfl, HB.out⟩
        · rw [decide_eq_false g2] at I2
          have E := Lib.hid (NO.out (fun h => g2 h.2))
          clear YES NO g1 g2
          go_wp2_with fail
          ((with_reducible refine (I1.out _ (Below.refl _ _)).mono ?_); rintro e w1 ⟨rfl, hb1⟩)
          replace HB := Lib.hid (HB.out.trans (hb1.mono HB.out.size))
          replace hz := keepc hb1 hz
          have B1 := Lib.hid hb1
          clear hb1 I1
          go_wp2_with fail
          ((with_reducible refine (I2.out _ B1.out).mono ?_); rintro e w2 ⟨rfl, hb2⟩)
          replace HB := Lib.hid (HB.out.trans (hb2.mono HB.out.size))
          clear hb2 hz I2 B1
          go_wp2
          go_roundw
          case rel => exact ⟨k + 1, by go_num, hlt, E.out, HB.out⟩
          case measure => simp [intOf]; omega
      · rw [decide_eq_false g1] at I1
        have E := Lib.hid (NO.out (fun h => g1 h.1))
        clear YES NO g1 I2
        go_wp2_with fail
        ((with_reducible refine (I1.out _ (Below.refl _ _)).mono ?_); rintro e w1 ⟨rfl, hb1⟩)
        replace HB := Lib.hid (HB.out.trans (hb1.mono HB.out.size))
        replace hz := keepc hb1 hz
        have B1 := Lib.hid hb1
        clear hb1 I1
        go_wp2
        go_roundw
        case rel => exact ⟨k + 1, by go_num, hlt, E.out, HB.out⟩
        case measure => simp [intOf]; omega
    · obtain rfl : k = n := by omega
      have E : Hid (sdB L i v = false) := Lib.hid (decide_eq_false (fun h => by
        obtain ⟨e, he, h⟩ := h
        obtain ⟨j, hj, rfl⟩ := List.getElem_of_mem he
        exact HR.out j _ (by have := hln.out; omega) (List.getElem?_eq_getElem hj) h))
      go_wp2
      go_ret
      exact ⟨by rw [E.out]; rfl, HB.out⟩
set_option maxRecDepth 100000 in
set_option maxHeartbeats 4000000 in
theorem lthree_any (a b c : Int) (w : World) :
    Calls Try.prog 28 #[.int .i64 a, .int .i64 b, .int .i64 c] w fun e w' => e = .returned (.agg #[.int .i64 a, .int .i64 (-1), .int .i64 (-1), .int .i64 b, .int .i64 (-1), .int .i64 (-1), .int .i64 c, .int .i64 (-1), .int .i64 (-1)]) ∧ Below w.heap.size w w' := by
  have HB := Lib.hid (Below.refl w.heap.size w)
  go_enter Try.func28, Try.ntmps28
  go_wp2_with fail
  exact bodyPost_ret (v := .agg #[.int .i64 a, .int .i64 (-1), .int .i64 (-1), .int .i64 b, .int .i64 (-1), .int .i64 (-1), .int .i64 c, .int .i64 (-1), .int .i64 (-1)]) (by simp [results, Try.results28, go_sem]) rfl ⟨rfl, by (repeat (first | exact Below.refl _ _ | assumption | refine Below.drew ?_ | refine below_drewN ?_ _ | refine Below.setCell ?_ (by first | omega | (simp; done) | (simp; omega)) _ | refine Below.alloc ?_ (by first | omega | (simp; done) | (simp; omega)) _))⟩
end Go.Proofs.Ytkheomaihhcokaa
/-
  What the laws of edges write over: smudge (limewashlaw14). Nothing that lay there before the row was made is reached.
-/
namespace Go.Proofs.Ytkheomaihhcokaa
open Go.RowKit

/-- A row of edges whose rows may be written over. -/
def SmE (W : World) (B b n : Nat) : Prop := ∀ i, i < n → ∃ t m c, W.cell? ⟨b, i * 3 + 2, none⟩ = some (.slice t m c) ∧ m ≤ c ∧ c ≤ 9223372036854775807 ∧ (m = 0 ∨ ∃ g, t = some ⟨g, 0, none⟩ ∧ B ≤ g ∧ ¬ g = b ∧ ∀ j, j < m → (∃ x, W.cell? ⟨g, j, none⟩ = some (.int .i64 x)) ∧ W.frozen? ⟨g, j, none⟩ = false)
theorem SmE.set {W : World} {B b n g : Nat} (h : SmE W B b n) (hg : ¬ g = b) (q : Nat) (x : Int) : SmE (W.setCell ⟨g, q, none⟩ (.int .i64 x)) B b n := by
  intro i hi
  obtain ⟨t, m, c, h1, h2, h3, h4⟩ := h i hi
  refine ⟨t, m, c, ?_, h2, h3, ?_⟩
  · rw [World.cell?_setCell_other _ _ _ _ (by intro e; cases e; exact hg rfl)]
    exact h1
  · rcases h4 with z | ⟨g', e, e1, e2, e3⟩
    · exact .inl z
    · exact .inr ⟨g', e, e1, e2, fun j hj => ⟨someInt_setCell (e3 j hj).1 _ _, by rw [World.frozen?_setCell]; exact (e3 j hj).2⟩⟩
theorem smE_of_own {w : World} {base : Nat} {v : Value} {Z : List EdZ} (h : OwnE w base v Z) : (∃ c, v = .slice none 0 c ∧ Z.length = 0) ∨ ∃ b c, v = .slice (some ⟨b, 0, none⟩) Z.length c ∧ Z.length ≤ c ∧ c ≤ 9223372036854775807 ∧ b < w.heap.size ∧ SmE w base b Z.length := by
  obtain ⟨hr, hz⟩ := h
  have hl := hr.lt
  have hc := fun (g : Nat) (hg : v.ownBlock = some g) => hr.cells hg
  obtain ⟨h1, ⟨rfl, h0⟩ | ⟨g, cap, cur, rfl, hb, hh, hk, hm, _, _⟩⟩ := hr
  · exact .inl ⟨0, rfl, h0⟩
  · refine .inr ⟨g, cap, rfl, hk, by unfold maxLen at hm; omega, (hl g rfl).2, fun i hi' => ?_⟩
    obtain ⟨p, q, r⟩ := cellsE_at Z i hi'
    have r' := hc g rfl (i * 3 + 2) _ r
    simp only [Go.WideShapes.add_plain] at r'
    have zi := hz Z[i] (List.getElem_mem hi')
    obtain ⟨z1, z2⟩ := zi
    rcases Nat.eq_zero_or_pos Z[i].2.2.1.length with e0 | e0
    · obtain ⟨a, c, e, f1, f2, f3, f4⟩ := rowI_of_own z1
      rw [e, e0] at r'
      exact ⟨a, 0, c, by simpa using r', Nat.zero_le _, f3, .inl rfl⟩
    · obtain ⟨g', cap', cur', hv, hg, hn, hh', ht, hs⟩ := z1.open e0
      have z3 := z1
      rw [hv] at r' z3
      have zc := fun j (hj : j < Z[i].2.2.1.length) => OwnI.cells z3 hj
      obtain ⟨a, c, e, f1, f2, f3, f4⟩ := rowI_of_own z3
      cases e
      exact ⟨_, _, _, by simpa using r', f2, f3, .inr ⟨g', rfl, hg, (fun q => z2 g' (by rw [hv]; rfl) (by rw [q]; rfl)), fun j hj => ⟨⟨_, (zc j hj).1⟩, (zc j hj).2⟩⟩⟩
set_option maxRecDepth 100000 in
set_option maxHeartbeats 4000000 in
theorem lsmudge_own (v : Value) (Z : List EdZ) (B : Nat) (w : World) (h : OwnE w B v Z) : Calls Try.prog 23 #[v] w fun e w' => e = .returned (.tuple #[]) ∧ Below B w w' := by
  have HB := Lib.hid (Below.refl B w)
  rcases smE_of_own h with ⟨c, rfl, hz⟩ | ⟨b, c, rfl, hnc, hc, hb, hs⟩
  · clear h
    go_enter Try.func23, Try.ntmps23
    go_wp2_with fail
    go_loopw [2] (fun x wr => x = .int .i64 0 ∧ Below B w wr) (fun _ _ => 0)
    case atStart => exact ⟨rfl, HB.out⟩
    case round =>
      obtain ⟨rfl, hB⟩ := hrel
      go_wp2
      exact bodyPost_end (v := .tuple #[]) (by simp [results, Try.results23, go_sem]) rfl ⟨rfl, hB⟩
  · clear h
    generalize Z.length = n at *
    go_enter Try.func23, Try.ntmps23
    go_wp2_with fail
    go_loopw [2] (fun x wr => ∃ k : Nat, x = .int .i64 k ∧ k ≤ n ∧ SmE wr B b n ∧ Below B w wr) (fun x _ => n - (intOf x).toNat)
    case atStart => exact ⟨0, rfl, Nat.zero_le _, hs, HB.out⟩
    case round =>
      clear HB hs
      obtain ⟨k, rfl, hk, hS, hB⟩ := hrel
      have HB := Lib.hid hB
      have S := Lib.hid hS
      clear hB hS
      by_cases hlt : k < n
      · have i0 : (0 : Int) ≤ (k : Int) := by omega
        have i1 : (k : Int) < (n : Int) := by omega
        have i2 : ((k : Int)).toNat = k := by omega
        obtain ⟨t, m, ct, q1, q2, q3, -⟩ := S.out k hlt
        have hw0 := Lib.hid q1
        clear q1
        go_wp2_with fail
        go_loopw [3] (fun x wv => ∃ j : Nat, x = .int .i64 j ∧ j ≤ m ∧ SmE wv B b n ∧ Below B w wv ∧ wv.cell? ⟨b, k * 3 + 2, none⟩ = some (.slice t m ct)) (fun x _ => m - (intOf x).toNat)
        case atStart => exact ⟨0, rfl, Nat.zero_le _, S.out, HB.out, hw0.out⟩
        case round =>
          clear HB S hw0
          obtain ⟨j, rfl, hj, hS, hB, q1⟩ := hrel
          have HB := Lib.hid hB
          have S := Lib.hid hS
          clear hB hS
          by_cases hjm : j < m
          · obtain ⟨t', m', ct', p1, p2, p3, p4⟩ := S.out k hlt
            rw [q1] at p1
            cases p1
            rcases p4 with z | ⟨g, rfl, e1, e2, e3⟩
            · exact absurd z (by omega)
            · obtain ⟨⟨x, x1⟩, x2⟩ := e3 j hjm
              clear e3
              have S2 := Lib.hid (S.out.set e2 j 77)
              have B2 := Lib.hid (HB.out.setCell (p := ⟨g, j, none⟩) e1 (.int .i64 77))
              have q5 := Lib.hid ((World.cell?_setCell_other wr ⟨g, j, none⟩ ⟨b, k * 3 + 2, none⟩ (.int .i64 77) (by intro e; cases e; exact e2 rfl)).trans q1)
              have j0 : (0 : Int) ≤ (j : Int) := by omega
              have j1 : (j : Int) < (m : Int) := by omega
              have j2 : ((j : Int)).toNat = j := by omega
              clear S HB
              go_wp2
              go_roundw
              case rel => exact ⟨j + 1, by go_num, hjm, S2.out, B2.out, q5.out⟩
              case measure => simp [intOf]; omega
          · obtain rfl : j = m := by omega
            go_wp2
            go_roundw
            case rel => exact ⟨k + 1, by go_num, hlt, S.out, HB.out⟩
            case measure => simp [intOf]; omega
      · obtain rfl : k = n := by omega
        go_wp2
        exact bodyPost_end (v := .tuple #[]) (by simp [results, Try.results23, go_sem]) rfl ⟨rfl, HB.out⟩
end Go.Proofs.Ytkheomaihhcokaa
