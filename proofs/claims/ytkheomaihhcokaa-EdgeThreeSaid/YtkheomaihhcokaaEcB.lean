/-
  The program's package edge: Loose, Find. (gen/EcB.py)
-/
import Derived.Test.YtkheomaihhcokaaEcA
namespace Go.Proofs.Ytkheomaihhcokaa
open Go.RowKit

set_option maxRecDepth 100000 in
set_option maxHeartbeats 8000000 in
theorem loose_any (a : Option Addr) (n c : Nat) (L : List (Int × Int × List Int)) (w : World) (hl : RowE w a n L) (hn : n ≤ 60) (h60 : ∀ e ∈ L, e.2.2.length ≤ 60) :
    Calls Try.prog 17 #[.slice a n c] w fun e w' => (∃ v Z, e = .returned v ∧ OwnE w' w.heap.size v Z ∧ Z.map edC = lsL L) ∧ Below w.heap.size w w' := by
  have HB := Lib.hid (Below.refl w.heap.size w)
  have R := Lib.hid hl
  have S := Lib.hid h60
  have hln := hl.1
  clear hl h60
  go_enter Try.func17, Try.ntmps17
  go_wp2_with fail
  go_loopw [3, 8] (fun v x wr => ∃ (k : Nat) (Z : List EdZ), x = .int .i64 k ∧ k ≤ n ∧ OwnE wr w.heap.size v Z ∧ Z.map edC = lsL (L.take k) ∧ Below w.heap.size w wr) (fun _ x _ => n - (intOf x).toNat)
  case atStart => exact ⟨0, [], rfl, Nat.zero_le _, OwnE.nil _ _, rfl, HB.out⟩
  case round =>
    clear HB
    obtain ⟨k, Z, rfl, hk, hO, hZ, hB⟩ := hrel
    have HB := Lib.hid hB
    have OW := Lib.hid hO
    have HZ := Lib.hid hZ
    have zl : Z.length ≤ k := by
      have := congrArg List.length hZ
      rw [List.length_map] at this
      have := ls_len L k
      omega
    clear hB hO hZ
    by_cases hlt : k < n
    · skip
      obtain ⟨b, o, t, m, ct, x, y, l, rfl, hb, hL, hx, hy, hz, hr, htn, hmc, -⟩ := (R.out.keep HB.out).at hlt
      have hml := Lib.hid hr.1
      have hm60 : l.length ≤ 60 := S.out (x, y, l) (List.mem_of_getElem? hL)
      have HL := Lib.hid hL
      have OWN := Lib.hid (fun (W : World) (h : Below wr.heap.size wr W) => clone_any x y t m ct l W (hr.keep h) htn (by have := hml.out; omega))
      clear hL htn hmc hr
      rw [← Nat.add_assoc] at hy hz
      have i0 : (0 : Int) ≤ (k : Int) := by omega
      have i1 : (k : Int) < (n : Int) := by omega
      have i2 : ((k : Int)).toNat = k := by omega
      go_upto_region 5 with fail
      have hbe := Lib.hid ((Below.refl wr.heap.size wr).alloc (Nat.le_refl _) (.cells #[.int .i64 x, .int .i64 y, .slice t m ct] 39))
      have hbe := below_new1 wr (.cells #[.int .i64 x, .int .i64 y, .slice t m ct] 39)
      replace OW := Lib.hid (OW.out.keep hbe)
      have ze : (wr.alloc (.cells #[.int .i64 x, .int .i64 y, .slice t m ct] 39)).heap.size = wr.heap.size + 1 := by simp
      replace HB := Lib.hid (HB.out.trans (hbe.mono HB.out.size))
      have ke := Lib.hid (Lok.new wr 39 #[.int .i64 x, .int .i64 y, .slice t m ct])
      clear hbe
      generalize wr.alloc (.cells #[.int .i64 x, .int .i64 y, .slice t m ct] 39) = Ve at *
      clear ze hx hy hz
      have e0 := ke.out.cell (i := 0) rfl
      have e1 := ke.out.cell (i := 1) rfl
      have e2 := ke.out.cell (i := 2) rfl
      generalize wr.heap.size = ge at *
      have HO0 := Lib.hid OW.out.1
      by_cases h1 : m = 1
      · subst h1
        go_wp2_with fail
        ((with_reducible refine (OWN.out _ hbe.out).mono ?_); rintro e w5 ⟨⟨v5, rfl, hO5⟩, hb5⟩)
        have hap := ownBlock_apart HO0.out hO5 (Nat.le_refl _)
        have O5 := Lib.hid (ownI_mono hO5 HB.out.size)
        replace HB := Lib.hid (HB.out.trans (hb5.mono HB.out.size))
        replace OW := Lib.hid (OW.out.keep hb5)
        have AP := Lib.hid hap
        obtain ⟨aQ, nQ, cQ, rfl⟩ := ownI_slice hO5
        clear hb5 hO5 hap e0 e1 e2 ke OWN HO0
        have ht := O5.out
        have hO := OW.out
        have hbs := HB.out.size
        go_wp2_with (at_builtin; refine app_edge rfl _ _ rfl w.heap.size u3 Z rfl hO x y l _ rfl ht AP.out (by omega) hbs ?_)
        intro v6 w6 hO6 hb6
        replace HB := Lib.hid (HB.out.trans hb6)
        have O6 := Lib.hid hO6
        clear hO6 hb6 ht hO OW O5 AP
        go_wp2
        go_roundw
        case rel => exact ⟨k + 1, _, by go_num, hlt, O6.out, by rw [List.map_append, HZ.out, ls_yes HL.out hml.out]; rfl, HB.out⟩
        case measure => simp [intOf]; omega
      · have h2 : ¬ (m : Int) = 1 := by omega
        have h3 : ((m : Int) == 1) = false := by rw [beq_eq_false_iff_ne]; exact h2
        clear OWN HO0
        go_wp2
        go_roundw
        case rel => exact ⟨k + 1, Z, by go_num, hlt, OW.out, by rw [HZ.out, ls_no HL.out (by rw [show (x, y, l).2.2.length = m from hml.out]; exact h1)], HB.out⟩
        case measure => simp [intOf]; omega
    · obtain rfl : k = n := by omega
      have E := Lib.hid (HZ.out.trans (by rw [List.take_of_length_le (show L.length ≤ k by omega)]))
      go_wp2
      go_ret
      exact ⟨⟨_, Z, rfl, OW.out, E.out⟩, HB.out⟩
set_option maxRecDepth 100000 in
set_option maxHeartbeats 8000000 in
theorem find_any (q : Option Addr) (n c : Nat) (L : List (Int × Int × List Int)) (a b : Int) (w : World) (hl : RowE w q n L) (hn : n ≤ 1000) (h60 : ∀ e ∈ L, e.2.2.length ≤ 60) :
    Calls Try.prog 18 #[.slice q n c, .int .i64 a, .int .i64 b] w fun e w' => (∃ v, e = .returned (.tuple #[.agg #[.int .i64 (fdV (L.find? (fdB a b))).1, .int .i64 (fdV (L.find? (fdB a b))).2.1, v], .bool (L.find? (fdB a b)).isSome]) ∧ OwnI w' w.heap.size v (fdV (L.find? (fdB a b))).2.2) ∧ Below w.heap.size w w' := by
  have HB := Lib.hid (Below.refl w.heap.size w)
  have R := Lib.hid hl
  have S := Lib.hid h60
  have hln := hl.1
  clear hl h60
  obtain ⟨F, hF⟩ : ∃ F, F = L.find? (fdB a b) := ⟨_, rfl⟩
  rw [← hF]
  have HF := Lib.hid hF
  clear hF
  go_enter Try.func18, Try.ntmps18
  go_upto_region 1 with fail
  have hby := below_new1 w (.cells #[.int .i64 0, .int .i64 0, .slice none 0 0] 39)
  have zy : (w.alloc (.cells #[.int .i64 0, .int .i64 0, .slice none 0 0] 39)).heap.size = w.heap.size + 1 := by simp
  have HB := Lib.hid hby
  have ky := Lib.hid (Lok.new w 39 #[.int .i64 0, .int .i64 0, .slice none 0 0])
  clear hby
  generalize w.alloc (.cells #[.int .i64 0, .int .i64 0, .slice none 0 0] 39) = Vy at *
  have hyl : w.heap.size < Vy.heap.size := ky.out.lt
  clear zy
  have HB0 := HB
  have ky0 := ky
  clear HB ky
  go_wp2_with fail
  go_loopw [12] (fun x wr => ∃ k : Nat, x = .int .i64 k ∧ k ≤ n ∧ (L.take k).find? (fdB a b) = none ∧ Below Vy.heap.size Vy wr) (fun x _ => n - (intOf x).toNat)
  case atStart => exact ⟨0, rfl, Nat.zero_le _, rfl, Below.refl _ _⟩
  case round =>
    obtain ⟨k, rfl, hk, hN, hB⟩ := hrel
    have HB := Lib.hid (HB0.out.trans (hB.mono HB0.out.size))
    have BV := Lib.hid hB
    have ky := Lib.hid (ky0.out.keep hB)
    have HN := Lib.hid hN
    have hyw : w.heap.size < wr.heap.size := ky.out.lt
    clear hB hN
    by_cases hlt : k < n
    · skip
      obtain ⟨p, o, t, m, ct, x, y, l, rfl, hb, hL, hx, hy, hz, hr, htn, hmc, -⟩ := (R.out.keep HB.out).at hlt
      have hml := Lib.hid hr.1
      have hm60 : l.length ≤ 60 := S.out (x, y, l) (List.mem_of_getElem? hL)
      have HL := Lib.hid hL
      have OWN := Lib.hid (fun (W : World) (h : Below wr.heap.size wr W) => clone_any x y t m ct l W (hr.keep h) htn (by have := hml.out; omega))
      clear hL htn hmc hr
      rw [← Nat.add_assoc] at hy hz
      have i0 : (0 : Int) ≤ (k : Int) := by omega
      have i1 : (k : Int) < (n : Int) := by omega
      have i2 : ((k : Int)).toNat = k := by omega
      go_upto_region 4 with fail
      have hbe := Lib.hid ((Below.refl wr.heap.size wr).alloc (Nat.le_refl _) (.cells #[.int .i64 x, .int .i64 y, .slice t m ct] 39))
      have hbe := below_new1 wr (.cells #[.int .i64 x, .int .i64 y, .slice t m ct] 39)
      replace ky := Lib.hid (ky.out.keep hbe)
      have ze : (wr.alloc (.cells #[.int .i64 x, .int .i64 y, .slice t m ct] 39)).heap.size = wr.heap.size + 1 := by simp
      replace HB := Lib.hid (HB.out.trans (hbe.mono HB.out.size))
      have ke := Lib.hid (Lok.new wr 39 #[.int .i64 x, .int .i64 y, .slice t m ct])
      clear hbe
      generalize wr.alloc (.cells #[.int .i64 x, .int .i64 y, .slice t m ct] 39) = Ve at *
      clear ze hx hy hz
      have e0 := ke.out.cell (i := 0) rfl
      have e1 := ke.out.cell (i := 1) rfl
      have e2 := ke.out.cell (i := 2) rfl
      replace BV := Lib.hid (BV.out.trans (hbe.out.mono BV.out.size))
      generalize wr.heap.size = ge at *
      have hyw2 : w.heap.size < Ve.heap.size := ky.out.lt
      have YES : Hid (fdB a b (x, y, l) = true → F = some (x, y, l)) := Lib.hid (fun q => by rw [HF.out]; exact fd_hit HN.out HL.out q)
      have NO : Hid (fdB a b (x, y, l) = false → (L.take (k + 1)).find? (fdB a b) = none) := Lib.hid (fun q => fd_miss HN.out HL.out q)
      by_cases h1 : x = a
      · by_cases h2 : y = b
        · have E := Lib.hid (YES.out (decide_eq_true (by show x = a ∧ y = b ∨ x = b ∧ y = a; omega)))
          clear YES NO
          have sh1 := h1.symm
          subst sh1
          have sh2 := h2.symm
          subst sh2
          go_wp2_with fail
          ((with_reducible refine (OWN.out _ hbe.out).mono ?_); rintro e w5 ⟨⟨v5, rfl, hO5⟩, hb5⟩)
          replace HB := Lib.hid (HB.out.trans (hb5.mono HB.out.size))
          replace ky := Lib.hid (ky.out.keep hb5)
          obtain ⟨aQ, nQ, cQ, rfl⟩ := ownI_slice hO5
          have O6 := Lib.hid (ownI_mono (ownI_set (i := 2) (x := .slice aQ nQ cQ) (ownI_set (i := 1) (x := .int .i64 b) (ownI_set (i := 0) (x := .int .i64 a) hO5 hyw2) hyw2) hyw2) (show w.heap.size ≤ Ve.heap.size by omega))
          clear hb5 hO5 e0 e1 e2 ke OWN
          have y0 := ky.out.cell (i := 0) rfl
          have y1 := ky.out.cell (i := 1) rfl
          have y2 := ky.out.cell (i := 2) rfl
          have f0 := ky.out.frozen 0
          have f1 := ky.out.frozen 1
          have f2 := ky.out.frozen 2
          go_wp2_with fail
          exact bodyPost_ret (v := .tuple #[.agg #[.int .i64 a, .int .i64 b, .slice aQ nQ cQ], .bool true]) (by simp [results, Try.results18, go_sem, y0, y1, y2]) rfl ⟨⟨_, by rw [E.out]; rfl, by rw [E.out]; exact O6.out⟩, ((HB.out.setCell (by simp <;> omega) _).setCell (by simp <;> omega) _).setCell (by simp <;> omega) _⟩
        · have nh2 : (y == b) = false := by rw [beq_eq_false_iff_ne]; exact h2
          by_cases h3 : x = b
          · have E := Lib.hid (NO.out (decide_eq_false (by show ¬ (x = a ∧ y = b ∨ x = b ∧ y = a); omega)))
            clear YES NO OWN
            have sh1 := h1.symm
            subst sh1
            have h4 : ¬ y = a := by omega
            have nh4 : (y == a) = false := by rw [beq_eq_false_iff_ne]; exact h4
            subst h3
            go_wp2
            go_roundw
            case rel => exact ⟨k + 1, by go_num, hlt, E.out, BV.out⟩
            case measure => simp [intOf]; omega
          · have nh3 : (x == b) = false := by rw [beq_eq_false_iff_ne]; exact h3
            have E := Lib.hid (NO.out (decide_eq_false (by show ¬ (x = a ∧ y = b ∨ x = b ∧ y = a); omega)))
            clear YES NO OWN
            have sh1 := h1.symm
            subst sh1
            go_wp2
            go_roundw
            case rel => exact ⟨k + 1, by go_num, hlt, E.out, BV.out⟩
            case measure => simp [intOf]; omega
      · have nh1 : (x == a) = false := by rw [beq_eq_false_iff_ne]; exact h1
        by_cases h3 : x = b
        · by_cases h4 : y = a
          · have E := Lib.hid (YES.out (decide_eq_true (by show x = a ∧ y = b ∨ x = b ∧ y = a; omega)))
            clear YES NO
            have sh3 := h3.symm
            subst sh3
            have sh4 := h4.symm
            subst sh4
            go_wp2_with fail
            ((with_reducible refine (OWN.out _ hbe.out).mono ?_); rintro e w5 ⟨⟨v5, rfl, hO5⟩, hb5⟩)
            replace HB := Lib.hid (HB.out.trans (hb5.mono HB.out.size))
            replace ky := Lib.hid (ky.out.keep hb5)
            obtain ⟨aQ, nQ, cQ, rfl⟩ := ownI_slice hO5
            have O6 := Lib.hid (ownI_mono (ownI_set (i := 2) (x := .slice aQ nQ cQ) (ownI_set (i := 1) (x := .int .i64 a) (ownI_set (i := 0) (x := .int .i64 b) hO5 hyw2) hyw2) hyw2) (show w.heap.size ≤ Ve.heap.size by omega))
            clear hb5 hO5 e0 e1 e2 ke OWN
            have y0 := ky.out.cell (i := 0) rfl
            have y1 := ky.out.cell (i := 1) rfl
            have y2 := ky.out.cell (i := 2) rfl
            have f0 := ky.out.frozen 0
            have f1 := ky.out.frozen 1
            have f2 := ky.out.frozen 2
            go_wp2_with fail
            exact bodyPost_ret (v := .tuple #[.agg #[.int .i64 b, .int .i64 a, .slice aQ nQ cQ], .bool true]) (by simp [results, Try.results18, go_sem, y0, y1, y2]) rfl ⟨⟨_, by rw [E.out]; rfl, by rw [E.out]; exact O6.out⟩, ((HB.out.setCell (by simp <;> omega) _).setCell (by simp <;> omega) _).setCell (by simp <;> omega) _⟩
          · have nh4 : (y == a) = false := by rw [beq_eq_false_iff_ne]; exact h4
            have E := Lib.hid (NO.out (decide_eq_false (by show ¬ (x = a ∧ y = b ∨ x = b ∧ y = a); omega)))
            clear YES NO OWN
            have sh3 := h3.symm
            subst sh3
            go_wp2
            go_roundw
            case rel => exact ⟨k + 1, by go_num, hlt, E.out, BV.out⟩
            case measure => simp [intOf]; omega
        · have nh3 : (x == b) = false := by rw [beq_eq_false_iff_ne]; exact h3
          have E := Lib.hid (NO.out (decide_eq_false (by show ¬ (x = a ∧ y = b ∨ x = b ∧ y = a); omega)))
          clear YES NO OWN
          go_wp2
          go_roundw
          case rel => exact ⟨k + 1, by go_num, hlt, E.out, BV.out⟩
          case measure => simp [intOf]; omega
    · obtain rfl : k = n := by omega
      have E : Hid (F = none) := Lib.hid (by
        have z := HN.out
        rw [List.take_of_length_le (by omega)] at z
        rw [HF.out, z])
      have y0 := ky.out.cell (i := 0) rfl
      have y1 := ky.out.cell (i := 1) rfl
      have y2 := ky.out.cell (i := 2) rfl
      have f0 := ky.out.frozen 0
      have f1 := ky.out.frozen 1
      have f2 := ky.out.frozen 2
      go_wp2_with fail
      exact bodyPost_ret (v := .tuple #[.agg #[.int .i64 0, .int .i64 0, .slice none 0 0], .bool false]) (by simp [results, Try.results18, go_sem, y0, y1, y2]) rfl ⟨⟨_, by rw [E.out]; rfl, by rw [E.out]; exact OwnI.nil _ _⟩, ((HB.out.setCell (by simp <;> omega) _).setCell (by simp <;> omega) _).setCell (by simp <;> omega) _⟩
end Go.Proofs.Ytkheomaihhcokaa
