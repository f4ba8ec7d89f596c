/-
  FaceBelow, FaceBack. (gen/FcS.py)
-/
import Derived.Test.YtlpfijdjkaijeaaDoorFcO
import Derived.Test.YtlpfijdjkaijeaaDoorFcR
namespace Go.Proofs.YtlpfijdjkaijeaaDoor
open Go.RowKit

theorem place_lit (s : ByteArray) (m p x : Int) (h : placeS s.data.toList m = (p, x)) (b0 : -9223372036854775808 ≤ m ∧ m ≤ 9223372036854775807) (w : World) :
    Calls Tryd.prog 11 #[.string s, .int .i64 m] w fun e w' => e = .returned (.tuple #[.int .i64 p, .int .i64 x]) ∧ Below w.heap.size w w' := by
  have k := place_any s m w b0
  rw [h] at k
  exact k
theorem places_of (n m : Int) (h1 : 1 ≤ n) (h9 : n ≤ 9999999) (hm : 0 ≤ m) :
    (m < n → placeS (Lib.decDigits n.toNat) m = (0, 7) ∧ placeS ([45] ++ Lib.decDigits n.toNat) m = (0, 7)) ∧
    (¬ m < n → placeS (Lib.decDigits n.toNat) m = (n - 1, 0) ∧ placeS ([45] ++ Lib.decDigits n.toNat) m = (m - n, 0)) := by
  have e := wholeS_dec n.toNat (by omega) (by omega)
  have f := wholeS_neg n.toNat (by omega) (by omega)
  have e1 : (n.toNat : Int) = n := by omega
  rw [e1] at e f
  have a : (wholeS (Lib.decDigits n.toNat)).1 = n := by rw [e]
  have b : (wholeS (Lib.decDigits n.toNat)).2 = 0 := by rw [e]
  have c : (wholeS ([45] ++ Lib.decDigits n.toNat)).1 = -n := by show (wholeS (45 :: Lib.decDigits n.toNat)).1 = _; rw [f]
  have d : (wholeS ([45] ++ Lib.decDigits n.toNat)).2 = 0 := by show (wholeS (45 :: Lib.decDigits n.toNat)).2 = _; rw [f]
  refine ⟨fun h => ⟨place_far b (by omega) (by omega), place_far d (by omega) (by omega)⟩, fun h => ⟨?_, ?_⟩⟩
  · rw [place_up b (by omega) (by omega), a]
  · rw [place_down d (by omega) (by omega), c, show m + -n = m - n from by omega]
set_option maxRecDepth 100000 in
set_option maxHeartbeats 4000000 in
theorem law_below (n m : Int) (w : World) (ht : Tab w) (bn : -9223372036854775808 ≤ n ∧ n ≤ 9223372036854775807) (bm : -9223372036854775808 ≤ m ∧ m ≤ 9223372036854775807) :
    Calls Tryd.prog 5 #[.int .i64 n, .int .i64 m] w fun e w' => e = .returned (.bool true) ∧ Below w.heap.size w w' := by
  have HB := Lib.hid (Below.refl w.heap.size w)
  have HT := Lib.hid ht
  have FD := Lib.hid faced_any
  clear ht
  by_cases b0 : n < 1
  · have d0 : decide (n < 1) = true := decide_eq_true b0
    clear bn bm
    go_enter Tryd.func5, Tryd.ntmps5
    go_wp2_with fail
    (((with_reducible refine (FD.out _ HT.out).mono ?_); rintro e w1 ⟨rfl, hb1⟩); replace HB := Lib.hid (HB.out.trans (hb1.mono HB.out.size)); clear hb1)
    go_wp2_with fail
    go_ret
    exact ⟨rfl, HB.out⟩
  · have d0 : decide (n < 1) = false := decide_eq_false b0
    by_cases b1 : 9999999 < n
    · have d1 : decide (9999999 < n) = true := decide_eq_true b1
      clear bn bm
      go_enter Tryd.func5, Tryd.ntmps5
      go_wp2_with fail
      (((with_reducible refine (FD.out _ HT.out).mono ?_); rintro e w1 ⟨rfl, hb1⟩); replace HB := Lib.hid (HB.out.trans (hb1.mono HB.out.size)); clear hb1)
      go_wp2_with fail
      go_ret
      exact ⟨rfl, HB.out⟩
    · have d1 : decide (9999999 < n) = false := decide_eq_false b1
      by_cases b2 : m < 0
      · have d2 : decide (m < 0) = true := decide_eq_true b2
        clear bn bm
        go_enter Tryd.func5, Tryd.ntmps5
        go_wp2_with fail
        (((with_reducible refine (FD.out _ HT.out).mono ?_); rintro e w1 ⟨rfl, hb1⟩); replace HB := Lib.hid (HB.out.trans (hb1.mono HB.out.size)); clear hb1)
        go_wp2_with fail
        go_ret
        exact ⟨rfl, HB.out⟩
      · have d2 : decide (m < 0) = false := decide_eq_false b2
        by_cases b3 : 9000000 < m
        · have d3 : decide (9000000 < m) = true := decide_eq_true b3
          clear bn bm
          go_enter Tryd.func5, Tryd.ntmps5
          go_wp2_with fail
          (((with_reducible refine (FD.out _ HT.out).mono ?_); rintro e w1 ⟨rfl, hb1⟩); replace HB := Lib.hid (HB.out.trans (hb1.mono HB.out.size)); clear hb1)
          go_wp2_with fail
          go_ret
          exact ⟨rfl, HB.out⟩
        · have d3 : decide (9000000 < m) = false := decide_eq_false b3
          have PO := places_of n m (by omega) (by omega) (by omega)
          have e0 : (n.toNat : Int) = n := by omega
          have D := Lib.hid (fun W => digits_any n.toNat W (by omega))
          rw [e0] at D
          have LD := dec_len8 n.toNat (by omega)
          have BM := Lib.hid bm
          have q1 : IntKind.i64.wrap (n - 1) = n - 1 := by rw [IntKind.wrap_i64]; omega
          have q2 : IntKind.i64.wrap (m - n) = m - n := by rw [IntKind.wrap_i64]; omega
          have q3 : IntKind.i64.wrap (m - 1) = m - 1 := by rw [IntKind.wrap_i64]; omega
          have q4 : (n - 1) + (m - n) = m - 1 := by omega
          obtain ⟨S, hS⟩ : ∃ S : ByteArray, (⟨(Lib.decDigits n.toNat).toArray⟩ : ByteArray) = S := ⟨_, rfl⟩
          have lS : S.size ≤ 7 := by rw [← hS]; exact len_size LD
          have sd : S.data.toList = Lib.decDigits n.toNat := by rw [← hS]
          have sn : ((⟨#[45]⟩ : ByteArray) ++ S).data.toList = [45] ++ Lib.decDigits n.toNat := by rw [← hS]; simp
          rw [hS] at D
          rw [← sn, ← sd] at PO
          clear hS LD sd sn e0 bn bm b0 b1 b2 b3
          by_cases hl : m < n
          · obtain ⟨h1, h2⟩ := PO.1 hl
            have P1 := Lib.hid (place_lit S m (0) 7 h1 BM.out)
            have P2 := Lib.hid (place_lit (⟨#[45]⟩ ++ S) m (0) 7 h2 BM.out)
            clear PO h1 h2
            go_enter Tryd.func5, Tryd.ntmps5
            go_wp2_with fail
            (((with_reducible refine (D.out _).mono ?_); rintro e w1 ⟨rfl, hb1⟩); replace HB := Lib.hid (HB.out.trans (hb1.mono HB.out.size)); replace HT := Lib.hid (HT.out.keep hb1); clear hb1)
            go_wp2_with fail
            (((with_reducible refine (P1.out _).mono ?_); rintro e w2 ⟨rfl, hb2⟩); replace HB := Lib.hid (HB.out.trans (hb2.mono HB.out.size)); replace HT := Lib.hid (HT.out.keep hb2); clear hb2)
            go_wp2_with fail
            (((with_reducible refine (D.out _).mono ?_); rintro e w3 ⟨rfl, hb3⟩); replace HB := Lib.hid (HB.out.trans (hb3.mono HB.out.size)); replace HT := Lib.hid (HT.out.keep hb3); clear hb3)
            go_wp2_with fail
            (((with_reducible refine (P2.out _).mono ?_); rintro e w4 ⟨rfl, hb4⟩); replace HB := Lib.hid (HB.out.trans (hb4.mono HB.out.size)); replace HT := Lib.hid (HT.out.keep hb4); clear hb4)
            go_wp2_with fail
            (((with_reducible refine (FD.out _ HT.out).mono ?_); rintro e w5 ⟨rfl, hb5⟩); replace HB := Lib.hid (HB.out.trans (hb5.mono HB.out.size)); clear hb5)
            go_wp2_with fail
            go_ret
            exact ⟨rfl, HB.out⟩
          · obtain ⟨h1, h2⟩ := PO.2 hl
            have P1 := Lib.hid (place_lit S m (n - 1) 0 h1 BM.out)
            have P2 := Lib.hid (place_lit (⟨#[45]⟩ ++ S) m (m - n) 0 h2 BM.out)
            clear PO h1 h2
            go_enter Tryd.func5, Tryd.ntmps5
            go_wp2_with fail
            (((with_reducible refine (D.out _).mono ?_); rintro e w1 ⟨rfl, hb1⟩); replace HB := Lib.hid (HB.out.trans (hb1.mono HB.out.size)); replace HT := Lib.hid (HT.out.keep hb1); clear hb1)
            go_wp2_with fail
            (((with_reducible refine (P1.out _).mono ?_); rintro e w2 ⟨rfl, hb2⟩); replace HB := Lib.hid (HB.out.trans (hb2.mono HB.out.size)); replace HT := Lib.hid (HT.out.keep hb2); clear hb2)
            go_wp2_with fail
            (((with_reducible refine (D.out _).mono ?_); rintro e w3 ⟨rfl, hb3⟩); replace HB := Lib.hid (HB.out.trans (hb3.mono HB.out.size)); replace HT := Lib.hid (HT.out.keep hb3); clear hb3)
            go_wp2_with fail
            (((with_reducible refine (P2.out _).mono ?_); rintro e w4 ⟨rfl, hb4⟩); replace HB := Lib.hid (HB.out.trans (hb4.mono HB.out.size)); replace HT := Lib.hid (HT.out.keep hb4); clear hb4)
            go_wp2_with fail
            (((with_reducible refine (FD.out _ HT.out).mono ?_); rintro e w5 ⟨rfl, hb5⟩); replace HB := Lib.hid (HB.out.trans (hb5.mono HB.out.size)); clear hb5)
            go_wp2_with fail
            go_ret
            exact ⟨rfl, HB.out⟩
set_option maxRecDepth 100000 in
set_option maxHeartbeats 8000000 in
theorem law_back (x0 x1 x2 v t n : Int) (w : World) (ht : Tab w) (bv : -9223372036854775808 ≤ v ∧ v ≤ 9223372036854775807) (bt : -9223372036854775808 ≤ t ∧ t ≤ 9223372036854775807) (bn : -9223372036854775808 ≤ n ∧ n ≤ 9223372036854775807) :
    Calls Tryd.prog 4 #[.agg #[.int .i64 x0, .int .i64 x1, .int .i64 x2], .int .i64 v, .int .i64 t, .int .i64 n] w fun e w' => e = .returned (.bool true) ∧ Below w.heap.size w w' := by
  have HT := Lib.hid ht
  have FD := Lib.hid faced_any
  clear ht
  by_cases hok : 0 ≤ x0 ∧ okI x0 = true ∧ okI x1 = true ∧ okI x2 = true
  · have hpr : printC x0 x1 x2 = (textC x0 x1 x2, 0) := if_pos hok
    have T1 := Lib.hid (print_lit x0 x1 x2 _ _ hpr)
    obtain ⟨k0, k1, k2, k3⟩ := hok
    have CT := corner_text x0 x1 x2 v t n k0 k1 k2 k3
    have LT : (textC x0 x1 x2).length ≤ 30 := by
      have l0 := dec_len8 (x0 + 1).toNat (by rw [okI_iff] at k1; omega)
      have l1 := prS_len x1 k2
      have l2 := prS_len x2 k3
      unfold textC
      rw [List.length_append, List.length_append]
      split <;> split <;> simp only [List.length_cons, List.length_nil] <;> omega
    obtain ⟨S, hS⟩ : ∃ S : ByteArray, (⟨(textC x0 x1 x2).toArray⟩ : ByteArray) = S := ⟨_, rfl⟩
    have lS : S.size ≤ 30 := by rw [← hS]; exact len_size LT
    have sd : S.data.toList = textC x0 x1 x2 := by rw [← hS]
    rw [hS] at T1
    rw [← sd] at CT
    clear hS LT sd hpr k0 k1 k2 k3
    by_cases hv : x0 < v
    · have dhv : decide (x0 < v) = true := decide_eq_true hv
      by_cases ht0 : x1 < 0
      · have dht0 : decide (x1 < 0) = true := decide_eq_true ht0
        by_cases hn0 : x2 < 0
        · have dhn0 : decide (x2 < 0) = true := decide_eq_true hn0
          have C1 := Lib.hid (corner_lit S v t n x0 x1 x2 0 (CT.trans (if_pos (decide_eq_true (by omega)))) (by omega) bv bt bn)
          clear CT bv bt bn
          go_enter Tryd.func4, Tryd.ntmps4
          go_upto_region 1 with fail
          have hbc := below_new1 w (.cells #[.int .i64 x0, .int .i64 x1, .int .i64 x2] 23)
          replace HT := Lib.hid (HT.out.keep hbc)
          have zc : (w.alloc (.cells #[.int .i64 x0, .int .i64 x1, .int .i64 x2] 23)).heap.size = w.heap.size + 1 := by simp
          have HB := Lib.hid hbc
          have kc := Lib.hid (Lok.new w 23 #[.int .i64 x0, .int .i64 x1, .int .i64 x2])
          clear hbc
          generalize w.alloc (.cells #[.int .i64 x0, .int .i64 x1, .int .i64 x2] 23) = Vc at *
          clear zc
          have y0 := kc.out.cell (i := 0) rfl
          have y1 := kc.out.cell (i := 1) rfl
          have y2 := kc.out.cell (i := 2) rfl
          go_wp2_with fail
          (((with_reducible refine (T1.out _ HT.out).mono ?_); rintro e w1 ⟨rfl, hb1⟩); replace HB := Lib.hid (HB.out.trans (hb1.mono HB.out.size)); replace HT := Lib.hid (HT.out.keep hb1); replace kc := Lib.hid (kc.out.keep hb1); clear hb1)
          clear y0 y1 y2
          go_wp2_with fail
          (((with_reducible refine (C1.out _).mono ?_); rintro e w2 ⟨rfl, hb2⟩); replace HB := Lib.hid (HB.out.trans (hb2.mono HB.out.size)); replace HT := Lib.hid (HT.out.keep hb2); replace kc := Lib.hid (kc.out.keep hb2); clear hb2)
          go_upto_region 5 with fail
          have hba := below_new1 w2 (.cells #[.int .i64 (x0), .int .i64 (x1), .int .i64 (x2)] 23)
          replace HT := Lib.hid (HT.out.keep hba)
          replace kc := Lib.hid (kc.out.keep hba)
          have za : (w2.alloc (.cells #[.int .i64 (x0), .int .i64 (x1), .int .i64 (x2)] 23)).heap.size = w2.heap.size + 1 := by simp
          replace HB := Lib.hid (HB.out.trans (hba.mono HB.out.size))
          have ka := Lib.hid (Lok.new w2 23 #[.int .i64 (x0), .int .i64 (x1), .int .i64 (x2)])
          clear hba
          generalize w2.alloc (.cells #[.int .i64 (x0), .int .i64 (x1), .int .i64 (x2)] 23) = Va at *
          clear za
          generalize w2.heap.size = ga at *
          have y0 := kc.out.cell (i := 0) rfl
          have y1 := kc.out.cell (i := 1) rfl
          have y2 := kc.out.cell (i := 2) rfl
          go_upto_region 6 with fail
          clear y0 y1 y2
          go_wp2_with fail
          (((with_reducible refine (FD.out _ HT.out).mono ?_); rintro e w3 ⟨rfl, hb3⟩); replace HB := Lib.hid (HB.out.trans (hb3.mono HB.out.size)); replace ka := Lib.hid (ka.out.keep hb3); replace kc := Lib.hid (kc.out.keep hb3); clear hb3)
          have y0 := kc.out.cell (i := 0) rfl
          have y1 := kc.out.cell (i := 1) rfl
          have y2 := kc.out.cell (i := 2) rfl
          have z0 := ka.out.cell (i := 0) rfl
          have z1 := ka.out.cell (i := 1) rfl
          have z2 := ka.out.cell (i := 2) rfl
          go_wp2_with fail
          go_ret
          exact ⟨rfl, HB.out⟩
        · have dhn0 : decide (x2 < 0) = false := decide_eq_false hn0
          by_cases hn1 : x2 < n
          · have dhn1 : decide (x2 < n) = true := decide_eq_true hn1
            have C1 := Lib.hid (corner_lit S v t n x0 x1 x2 0 (CT.trans (if_pos (decide_eq_true (by omega)))) (by omega) bv bt bn)
            clear CT bv bt bn
            go_enter Tryd.func4, Tryd.ntmps4
            go_upto_region 1 with fail
            have hbc := below_new1 w (.cells #[.int .i64 x0, .int .i64 x1, .int .i64 x2] 23)
            replace HT := Lib.hid (HT.out.keep hbc)
            have zc : (w.alloc (.cells #[.int .i64 x0, .int .i64 x1, .int .i64 x2] 23)).heap.size = w.heap.size + 1 := by simp
            have HB := Lib.hid hbc
            have kc := Lib.hid (Lok.new w 23 #[.int .i64 x0, .int .i64 x1, .int .i64 x2])
            clear hbc
            generalize w.alloc (.cells #[.int .i64 x0, .int .i64 x1, .int .i64 x2] 23) = Vc at *
            clear zc
            have y0 := kc.out.cell (i := 0) rfl
            have y1 := kc.out.cell (i := 1) rfl
            have y2 := kc.out.cell (i := 2) rfl
            go_wp2_with fail
            (((with_reducible refine (T1.out _ HT.out).mono ?_); rintro e w1 ⟨rfl, hb1⟩); replace HB := Lib.hid (HB.out.trans (hb1.mono HB.out.size)); replace HT := Lib.hid (HT.out.keep hb1); replace kc := Lib.hid (kc.out.keep hb1); clear hb1)
            clear y0 y1 y2
            go_wp2_with fail
            (((with_reducible refine (C1.out _).mono ?_); rintro e w2 ⟨rfl, hb2⟩); replace HB := Lib.hid (HB.out.trans (hb2.mono HB.out.size)); replace HT := Lib.hid (HT.out.keep hb2); replace kc := Lib.hid (kc.out.keep hb2); clear hb2)
            go_upto_region 5 with fail
            have hba := below_new1 w2 (.cells #[.int .i64 (x0), .int .i64 (x1), .int .i64 (x2)] 23)
            replace HT := Lib.hid (HT.out.keep hba)
            replace kc := Lib.hid (kc.out.keep hba)
            have za : (w2.alloc (.cells #[.int .i64 (x0), .int .i64 (x1), .int .i64 (x2)] 23)).heap.size = w2.heap.size + 1 := by simp
            replace HB := Lib.hid (HB.out.trans (hba.mono HB.out.size))
            have ka := Lib.hid (Lok.new w2 23 #[.int .i64 (x0), .int .i64 (x1), .int .i64 (x2)])
            clear hba
            generalize w2.alloc (.cells #[.int .i64 (x0), .int .i64 (x1), .int .i64 (x2)] 23) = Va at *
            clear za
            generalize w2.heap.size = ga at *
            have y0 := kc.out.cell (i := 0) rfl
            have y1 := kc.out.cell (i := 1) rfl
            have y2 := kc.out.cell (i := 2) rfl
            go_upto_region 6 with fail
            clear y0 y1 y2
            go_wp2_with fail
            (((with_reducible refine (FD.out _ HT.out).mono ?_); rintro e w3 ⟨rfl, hb3⟩); replace HB := Lib.hid (HB.out.trans (hb3.mono HB.out.size)); replace ka := Lib.hid (ka.out.keep hb3); replace kc := Lib.hid (kc.out.keep hb3); clear hb3)
            have y0 := kc.out.cell (i := 0) rfl
            have y1 := kc.out.cell (i := 1) rfl
            have y2 := kc.out.cell (i := 2) rfl
            have z0 := ka.out.cell (i := 0) rfl
            have z1 := ka.out.cell (i := 1) rfl
            have z2 := ka.out.cell (i := 2) rfl
            go_wp2_with fail
            go_ret
            exact ⟨rfl, HB.out⟩
          · have dhn1 : decide (x2 < n) = false := decide_eq_false hn1
            have C1 := Lib.hid (corner_lit S v t n 0 0 0 7 (CT.trans (if_neg (by unfold thereB; rw [decide_eq_true_eq]; omega))) (by omega) bv bt bn)
            clear CT bv bt bn
            go_enter Tryd.func4, Tryd.ntmps4
            go_upto_region 1 with fail
            have hbc := below_new1 w (.cells #[.int .i64 x0, .int .i64 x1, .int .i64 x2] 23)
            replace HT := Lib.hid (HT.out.keep hbc)
            have zc : (w.alloc (.cells #[.int .i64 x0, .int .i64 x1, .int .i64 x2] 23)).heap.size = w.heap.size + 1 := by simp
            have HB := Lib.hid hbc
            have kc := Lib.hid (Lok.new w 23 #[.int .i64 x0, .int .i64 x1, .int .i64 x2])
            clear hbc
            generalize w.alloc (.cells #[.int .i64 x0, .int .i64 x1, .int .i64 x2] 23) = Vc at *
            clear zc
            have y0 := kc.out.cell (i := 0) rfl
            have y1 := kc.out.cell (i := 1) rfl
            have y2 := kc.out.cell (i := 2) rfl
            go_wp2_with fail
            (((with_reducible refine (T1.out _ HT.out).mono ?_); rintro e w1 ⟨rfl, hb1⟩); replace HB := Lib.hid (HB.out.trans (hb1.mono HB.out.size)); replace HT := Lib.hid (HT.out.keep hb1); replace kc := Lib.hid (kc.out.keep hb1); clear hb1)
            clear y0 y1 y2
            go_wp2_with fail
            (((with_reducible refine (C1.out _).mono ?_); rintro e w2 ⟨rfl, hb2⟩); replace HB := Lib.hid (HB.out.trans (hb2.mono HB.out.size)); replace HT := Lib.hid (HT.out.keep hb2); replace kc := Lib.hid (kc.out.keep hb2); clear hb2)
            go_upto_region 5 with fail
            have hba := below_new1 w2 (.cells #[.int .i64 (0), .int .i64 (0), .int .i64 (0)] 23)
            replace HT := Lib.hid (HT.out.keep hba)
            replace kc := Lib.hid (kc.out.keep hba)
            have za : (w2.alloc (.cells #[.int .i64 (0), .int .i64 (0), .int .i64 (0)] 23)).heap.size = w2.heap.size + 1 := by simp
            replace HB := Lib.hid (HB.out.trans (hba.mono HB.out.size))
            have ka := Lib.hid (Lok.new w2 23 #[.int .i64 (0), .int .i64 (0), .int .i64 (0)])
            clear hba
            generalize w2.alloc (.cells #[.int .i64 (0), .int .i64 (0), .int .i64 (0)] 23) = Va at *
            clear za
            generalize w2.heap.size = ga at *
            have y0 := kc.out.cell (i := 0) rfl
            have y1 := kc.out.cell (i := 1) rfl
            have y2 := kc.out.cell (i := 2) rfl
            go_upto_region 6 with fail
            clear y0 y1 y2
            go_wp2_with fail
            (((with_reducible refine (FD.out _ HT.out).mono ?_); rintro e w3 ⟨rfl, hb3⟩); replace HB := Lib.hid (HB.out.trans (hb3.mono HB.out.size)); replace ka := Lib.hid (ka.out.keep hb3); replace kc := Lib.hid (kc.out.keep hb3); clear hb3)
            have y0 := kc.out.cell (i := 0) rfl
            have y1 := kc.out.cell (i := 1) rfl
            have y2 := kc.out.cell (i := 2) rfl
            have z0 := ka.out.cell (i := 0) rfl
            have z1 := ka.out.cell (i := 1) rfl
            have z2 := ka.out.cell (i := 2) rfl
            go_wp2_with fail
            go_ret
            exact ⟨rfl, HB.out⟩
      · have dht0 : decide (x1 < 0) = false := decide_eq_false ht0
        by_cases ht1 : x1 < t
        · have dht1 : decide (x1 < t) = true := decide_eq_true ht1
          by_cases hn0 : x2 < 0
          · have dhn0 : decide (x2 < 0) = true := decide_eq_true hn0
            have C1 := Lib.hid (corner_lit S v t n x0 x1 x2 0 (CT.trans (if_pos (decide_eq_true (by omega)))) (by omega) bv bt bn)
            clear CT bv bt bn
            go_enter Tryd.func4, Tryd.ntmps4
            go_upto_region 1 with fail
            have hbc := below_new1 w (.cells #[.int .i64 x0, .int .i64 x1, .int .i64 x2] 23)
            replace HT := Lib.hid (HT.out.keep hbc)
            have zc : (w.alloc (.cells #[.int .i64 x0, .int .i64 x1, .int .i64 x2] 23)).heap.size = w.heap.size + 1 := by simp
            have HB := Lib.hid hbc
            have kc := Lib.hid (Lok.new w 23 #[.int .i64 x0, .int .i64 x1, .int .i64 x2])
            clear hbc
            generalize w.alloc (.cells #[.int .i64 x0, .int .i64 x1, .int .i64 x2] 23) = Vc at *
            clear zc
            have y0 := kc.out.cell (i := 0) rfl
            have y1 := kc.out.cell (i := 1) rfl
            have y2 := kc.out.cell (i := 2) rfl
            go_wp2_with fail
            (((with_reducible refine (T1.out _ HT.out).mono ?_); rintro e w1 ⟨rfl, hb1⟩); replace HB := Lib.hid (HB.out.trans (hb1.mono HB.out.size)); replace HT := Lib.hid (HT.out.keep hb1); replace kc := Lib.hid (kc.out.keep hb1); clear hb1)
            clear y0 y1 y2
            go_wp2_with fail
            (((with_reducible refine (C1.out _).mono ?_); rintro e w2 ⟨rfl, hb2⟩); replace HB := Lib.hid (HB.out.trans (hb2.mono HB.out.size)); replace HT := Lib.hid (HT.out.keep hb2); replace kc := Lib.hid (kc.out.keep hb2); clear hb2)
            go_upto_region 5 with fail
            have hba := below_new1 w2 (.cells #[.int .i64 (x0), .int .i64 (x1), .int .i64 (x2)] 23)
            replace HT := Lib.hid (HT.out.keep hba)
            replace kc := Lib.hid (kc.out.keep hba)
            have za : (w2.alloc (.cells #[.int .i64 (x0), .int .i64 (x1), .int .i64 (x2)] 23)).heap.size = w2.heap.size + 1 := by simp
            replace HB := Lib.hid (HB.out.trans (hba.mono HB.out.size))
            have ka := Lib.hid (Lok.new w2 23 #[.int .i64 (x0), .int .i64 (x1), .int .i64 (x2)])
            clear hba
            generalize w2.alloc (.cells #[.int .i64 (x0), .int .i64 (x1), .int .i64 (x2)] 23) = Va at *
            clear za
            generalize w2.heap.size = ga at *
            have y0 := kc.out.cell (i := 0) rfl
            have y1 := kc.out.cell (i := 1) rfl
            have y2 := kc.out.cell (i := 2) rfl
            go_upto_region 6 with fail
            clear y0 y1 y2
            go_wp2_with fail
            (((with_reducible refine (FD.out _ HT.out).mono ?_); rintro e w3 ⟨rfl, hb3⟩); replace HB := Lib.hid (HB.out.trans (hb3.mono HB.out.size)); replace ka := Lib.hid (ka.out.keep hb3); replace kc := Lib.hid (kc.out.keep hb3); clear hb3)
            have y0 := kc.out.cell (i := 0) rfl
            have y1 := kc.out.cell (i := 1) rfl
            have y2 := kc.out.cell (i := 2) rfl
            have z0 := ka.out.cell (i := 0) rfl
            have z1 := ka.out.cell (i := 1) rfl
            have z2 := ka.out.cell (i := 2) rfl
            go_wp2_with fail
            go_ret
            exact ⟨rfl, HB.out⟩
          · have dhn0 : decide (x2 < 0) = false := decide_eq_false hn0
            by_cases hn1 : x2 < n
            · have dhn1 : decide (x2 < n) = true := decide_eq_true hn1
              have C1 := Lib.hid (corner_lit S v t n x0 x1 x2 0 (CT.trans (if_pos (decide_eq_true (by omega)))) (by omega) bv bt bn)
              clear CT bv bt bn
              go_enter Tryd.func4, Tryd.ntmps4
              go_upto_region 1 with fail
              have hbc := below_new1 w (.cells #[.int .i64 x0, .int .i64 x1, .int .i64 x2] 23)
              replace HT := Lib.hid (HT.out.keep hbc)
              have zc : (w.alloc (.cells #[.int .i64 x0, .int .i64 x1, .int .i64 x2] 23)).heap.size = w.heap.size + 1 := by simp
              have HB := Lib.hid hbc
              have kc := Lib.hid (Lok.new w 23 #[.int .i64 x0, .int .i64 x1, .int .i64 x2])
              clear hbc
              generalize w.alloc (.cells #[.int .i64 x0, .int .i64 x1, .int .i64 x2] 23) = Vc at *
              clear zc
              have y0 := kc.out.cell (i := 0) rfl
              have y1 := kc.out.cell (i := 1) rfl
              have y2 := kc.out.cell (i := 2) rfl
              go_wp2_with fail
              (((with_reducible refine (T1.out _ HT.out).mono ?_); rintro e w1 ⟨rfl, hb1⟩); replace HB := Lib.hid (HB.out.trans (hb1.mono HB.out.size)); replace HT := Lib.hid (HT.out.keep hb1); replace kc := Lib.hid (kc.out.keep hb1); clear hb1)
              clear y0 y1 y2
              go_wp2_with fail
              (((with_reducible refine (C1.out _).mono ?_); rintro e w2 ⟨rfl, hb2⟩); replace HB := Lib.hid (HB.out.trans (hb2.mono HB.out.size)); replace HT := Lib.hid (HT.out.keep hb2); replace kc := Lib.hid (kc.out.keep hb2); clear hb2)
              go_upto_region 5 with fail
              have hba := below_new1 w2 (.cells #[.int .i64 (x0), .int .i64 (x1), .int .i64 (x2)] 23)
              replace HT := Lib.hid (HT.out.keep hba)
              replace kc := Lib.hid (kc.out.keep hba)
              have za : (w2.alloc (.cells #[.int .i64 (x0), .int .i64 (x1), .int .i64 (x2)] 23)).heap.size = w2.heap.size + 1 := by simp
              replace HB := Lib.hid (HB.out.trans (hba.mono HB.out.size))
              have ka := Lib.hid (Lok.new w2 23 #[.int .i64 (x0), .int .i64 (x1), .int .i64 (x2)])
              clear hba
              generalize w2.alloc (.cells #[.int .i64 (x0), .int .i64 (x1), .int .i64 (x2)] 23) = Va at *
              clear za
              generalize w2.heap.size = ga at *
              have y0 := kc.out.cell (i := 0) rfl
              have y1 := kc.out.cell (i := 1) rfl
              have y2 := kc.out.cell (i := 2) rfl
              go_upto_region 6 with fail
              clear y0 y1 y2
              go_wp2_with fail
              (((with_reducible refine (FD.out _ HT.out).mono ?_); rintro e w3 ⟨rfl, hb3⟩); replace HB := Lib.hid (HB.out.trans (hb3.mono HB.out.size)); replace ka := Lib.hid (ka.out.keep hb3); replace kc := Lib.hid (kc.out.keep hb3); clear hb3)
              have y0 := kc.out.cell (i := 0) rfl
              have y1 := kc.out.cell (i := 1) rfl
              have y2 := kc.out.cell (i := 2) rfl
              have z0 := ka.out.cell (i := 0) rfl
              have z1 := ka.out.cell (i := 1) rfl
              have z2 := ka.out.cell (i := 2) rfl
              go_wp2_with fail
              go_ret
              exact ⟨rfl, HB.out⟩
            · have dhn1 : decide (x2 < n) = false := decide_eq_false hn1
              have C1 := Lib.hid (corner_lit S v t n 0 0 0 7 (CT.trans (if_neg (by unfold thereB; rw [decide_eq_true_eq]; omega))) (by omega) bv bt bn)
              clear CT bv bt bn
              go_enter Tryd.func4, Tryd.ntmps4
              go_upto_region 1 with fail
              have hbc := below_new1 w (.cells #[.int .i64 x0, .int .i64 x1, .int .i64 x2] 23)
              replace HT := Lib.hid (HT.out.keep hbc)
              have zc : (w.alloc (.cells #[.int .i64 x0, .int .i64 x1, .int .i64 x2] 23)).heap.size = w.heap.size + 1 := by simp
              have HB := Lib.hid hbc
              have kc := Lib.hid (Lok.new w 23 #[.int .i64 x0, .int .i64 x1, .int .i64 x2])
              clear hbc
              generalize w.alloc (.cells #[.int .i64 x0, .int .i64 x1, .int .i64 x2] 23) = Vc at *
              clear zc
              have y0 := kc.out.cell (i := 0) rfl
              have y1 := kc.out.cell (i := 1) rfl
              have y2 := kc.out.cell (i := 2) rfl
              go_wp2_with fail
              (((with_reducible refine (T1.out _ HT.out).mono ?_); rintro e w1 ⟨rfl, hb1⟩); replace HB := Lib.hid (HB.out.trans (hb1.mono HB.out.size)); replace HT := Lib.hid (HT.out.keep hb1); replace kc := Lib.hid (kc.out.keep hb1); clear hb1)
              clear y0 y1 y2
              go_wp2_with fail
              (((with_reducible refine (C1.out _).mono ?_); rintro e w2 ⟨rfl, hb2⟩); replace HB := Lib.hid (HB.out.trans (hb2.mono HB.out.size)); replace HT := Lib.hid (HT.out.keep hb2); replace kc := Lib.hid (kc.out.keep hb2); clear hb2)
              go_upto_region 5 with fail
              have hba := below_new1 w2 (.cells #[.int .i64 (0), .int .i64 (0), .int .i64 (0)] 23)
              replace HT := Lib.hid (HT.out.keep hba)
              replace kc := Lib.hid (kc.out.keep hba)
              have za : (w2.alloc (.cells #[.int .i64 (0), .int .i64 (0), .int .i64 (0)] 23)).heap.size = w2.heap.size + 1 := by simp
              replace HB := Lib.hid (HB.out.trans (hba.mono HB.out.size))
              have ka := Lib.hid (Lok.new w2 23 #[.int .i64 (0), .int .i64 (0), .int .i64 (0)])
              clear hba
              generalize w2.alloc (.cells #[.int .i64 (0), .int .i64 (0), .int .i64 (0)] 23) = Va at *
              clear za
              generalize w2.heap.size = ga at *
              have y0 := kc.out.cell (i := 0) rfl
              have y1 := kc.out.cell (i := 1) rfl
              have y2 := kc.out.cell (i := 2) rfl
              go_upto_region 6 with fail
              clear y0 y1 y2
              go_wp2_with fail
              (((with_reducible refine (FD.out _ HT.out).mono ?_); rintro e w3 ⟨rfl, hb3⟩); replace HB := Lib.hid (HB.out.trans (hb3.mono HB.out.size)); replace ka := Lib.hid (ka.out.keep hb3); replace kc := Lib.hid (kc.out.keep hb3); clear hb3)
              have y0 := kc.out.cell (i := 0) rfl
              have y1 := kc.out.cell (i := 1) rfl
              have y2 := kc.out.cell (i := 2) rfl
              have z0 := ka.out.cell (i := 0) rfl
              have z1 := ka.out.cell (i := 1) rfl
              have z2 := ka.out.cell (i := 2) rfl
              go_wp2_with fail
              go_ret
              exact ⟨rfl, HB.out⟩
        · have dht1 : decide (x1 < t) = false := decide_eq_false ht1
          have C1 := Lib.hid (corner_lit S v t n 0 0 0 7 (CT.trans (if_neg (by unfold thereB; rw [decide_eq_true_eq]; omega))) (by omega) bv bt bn)
          clear CT bv bt bn
          go_enter Tryd.func4, Tryd.ntmps4
          go_upto_region 1 with fail
          have hbc := below_new1 w (.cells #[.int .i64 x0, .int .i64 x1, .int .i64 x2] 23)
          replace HT := Lib.hid (HT.out.keep hbc)
          have zc : (w.alloc (.cells #[.int .i64 x0, .int .i64 x1, .int .i64 x2] 23)).heap.size = w.heap.size + 1 := by simp
          have HB := Lib.hid hbc
          have kc := Lib.hid (Lok.new w 23 #[.int .i64 x0, .int .i64 x1, .int .i64 x2])
          clear hbc
          generalize w.alloc (.cells #[.int .i64 x0, .int .i64 x1, .int .i64 x2] 23) = Vc at *
          clear zc
          have y0 := kc.out.cell (i := 0) rfl
          have y1 := kc.out.cell (i := 1) rfl
          have y2 := kc.out.cell (i := 2) rfl
          go_wp2_with fail
          (((with_reducible refine (T1.out _ HT.out).mono ?_); rintro e w1 ⟨rfl, hb1⟩); replace HB := Lib.hid (HB.out.trans (hb1.mono HB.out.size)); replace HT := Lib.hid (HT.out.keep hb1); replace kc := Lib.hid (kc.out.keep hb1); clear hb1)
          clear y0 y1 y2
          go_wp2_with fail
          (((with_reducible refine (C1.out _).mono ?_); rintro e w2 ⟨rfl, hb2⟩); replace HB := Lib.hid (HB.out.trans (hb2.mono HB.out.size)); replace HT := Lib.hid (HT.out.keep hb2); replace kc := Lib.hid (kc.out.keep hb2); clear hb2)
          go_upto_region 5 with fail
          have hba := below_new1 w2 (.cells #[.int .i64 (0), .int .i64 (0), .int .i64 (0)] 23)
          replace HT := Lib.hid (HT.out.keep hba)
          replace kc := Lib.hid (kc.out.keep hba)
          have za : (w2.alloc (.cells #[.int .i64 (0), .int .i64 (0), .int .i64 (0)] 23)).heap.size = w2.heap.size + 1 := by simp
          replace HB := Lib.hid (HB.out.trans (hba.mono HB.out.size))
          have ka := Lib.hid (Lok.new w2 23 #[.int .i64 (0), .int .i64 (0), .int .i64 (0)])
          clear hba
          generalize w2.alloc (.cells #[.int .i64 (0), .int .i64 (0), .int .i64 (0)] 23) = Va at *
          clear za
          generalize w2.heap.size = ga at *
          have y0 := kc.out.cell (i := 0) rfl
          have y1 := kc.out.cell (i := 1) rfl
          have y2 := kc.out.cell (i := 2) rfl
          go_upto_region 6 with fail
          clear y0 y1 y2
          go_wp2_with fail
          (((with_reducible refine (FD.out _ HT.out).mono ?_); rintro e w3 ⟨rfl, hb3⟩); replace HB := Lib.hid (HB.out.trans (hb3.mono HB.out.size)); replace ka := Lib.hid (ka.out.keep hb3); replace kc := Lib.hid (kc.out.keep hb3); clear hb3)
          have y0 := kc.out.cell (i := 0) rfl
          have y1 := kc.out.cell (i := 1) rfl
          have y2 := kc.out.cell (i := 2) rfl
          have z0 := ka.out.cell (i := 0) rfl
          have z1 := ka.out.cell (i := 1) rfl
          have z2 := ka.out.cell (i := 2) rfl
          go_wp2_with fail
          go_ret
          exact ⟨rfl, HB.out⟩
    · have dhv : decide (x0 < v) = false := decide_eq_false hv
      have C1 := Lib.hid (corner_lit S v t n 0 0 0 7 (CT.trans (if_neg (by unfold thereB; rw [decide_eq_true_eq]; omega))) (by omega) bv bt bn)
      clear CT bv bt bn
      go_enter Tryd.func4, Tryd.ntmps4
      go_upto_region 1 with fail
      have hbc := below_new1 w (.cells #[.int .i64 x0, .int .i64 x1, .int .i64 x2] 23)
      replace HT := Lib.hid (HT.out.keep hbc)
      have zc : (w.alloc (.cells #[.int .i64 x0, .int .i64 x1, .int .i64 x2] 23)).heap.size = w.heap.size + 1 := by simp
      have HB := Lib.hid hbc
      have kc := Lib.hid (Lok.new w 23 #[.int .i64 x0, .int .i64 x1, .int .i64 x2])
      clear hbc
      generalize w.alloc (.cells #[.int .i64 x0, .int .i64 x1, .int .i64 x2] 23) = Vc at *
      clear zc
      have y0 := kc.out.cell (i := 0) rfl
      have y1 := kc.out.cell (i := 1) rfl
      have y2 := kc.out.cell (i := 2) rfl
      go_wp2_with fail
      (((with_reducible refine (T1.out _ HT.out).mono ?_); rintro e w1 ⟨rfl, hb1⟩); replace HB := Lib.hid (HB.out.trans (hb1.mono HB.out.size)); replace HT := Lib.hid (HT.out.keep hb1); replace kc := Lib.hid (kc.out.keep hb1); clear hb1)
      clear y0 y1 y2
      go_wp2_with fail
      (((with_reducible refine (C1.out _).mono ?_); rintro e w2 ⟨rfl, hb2⟩); replace HB := Lib.hid (HB.out.trans (hb2.mono HB.out.size)); replace HT := Lib.hid (HT.out.keep hb2); replace kc := Lib.hid (kc.out.keep hb2); clear hb2)
      go_upto_region 5 with fail
      have hba := below_new1 w2 (.cells #[.int .i64 (0), .int .i64 (0), .int .i64 (0)] 23)
      replace HT := Lib.hid (HT.out.keep hba)
      replace kc := Lib.hid (kc.out.keep hba)
      have za : (w2.alloc (.cells #[.int .i64 (0), .int .i64 (0), .int .i64 (0)] 23)).heap.size = w2.heap.size + 1 := by simp
      replace HB := Lib.hid (HB.out.trans (hba.mono HB.out.size))
      have ka := Lib.hid (Lok.new w2 23 #[.int .i64 (0), .int .i64 (0), .int .i64 (0)])
      clear hba
      generalize w2.alloc (.cells #[.int .i64 (0), .int .i64 (0), .int .i64 (0)] 23) = Va at *
      clear za
      generalize w2.heap.size = ga at *
      have y0 := kc.out.cell (i := 0) rfl
      have y1 := kc.out.cell (i := 1) rfl
      have y2 := kc.out.cell (i := 2) rfl
      go_upto_region 6 with fail
      clear y0 y1 y2
      go_wp2_with fail
      (((with_reducible refine (FD.out _ HT.out).mono ?_); rintro e w3 ⟨rfl, hb3⟩); replace HB := Lib.hid (HB.out.trans (hb3.mono HB.out.size)); replace ka := Lib.hid (ka.out.keep hb3); replace kc := Lib.hid (kc.out.keep hb3); clear hb3)
      have y0 := kc.out.cell (i := 0) rfl
      have y1 := kc.out.cell (i := 1) rfl
      have y2 := kc.out.cell (i := 2) rfl
      have z0 := ka.out.cell (i := 0) rfl
      have z1 := ka.out.cell (i := 1) rfl
      have z2 := ka.out.cell (i := 2) rfl
      go_wp2_with fail
      go_ret
      exact ⟨rfl, HB.out⟩
  · have hpr : printC x0 x1 x2 = ([], 1) := if_neg hok
    have T1 := Lib.hid (print_lit x0 x1 x2 _ _ hpr)
    clear hok hpr bv bt bn
    go_enter Tryd.func4, Tryd.ntmps4
    go_upto_region 1 with fail
    have hbc := below_new1 w (.cells #[.int .i64 x0, .int .i64 x1, .int .i64 x2] 23)
    replace HT := Lib.hid (HT.out.keep hbc)
    have zc : (w.alloc (.cells #[.int .i64 x0, .int .i64 x1, .int .i64 x2] 23)).heap.size = w.heap.size + 1 := by simp
    have HB := Lib.hid hbc
    have kc := Lib.hid (Lok.new w 23 #[.int .i64 x0, .int .i64 x1, .int .i64 x2])
    clear hbc
    generalize w.alloc (.cells #[.int .i64 x0, .int .i64 x1, .int .i64 x2] 23) = Vc at *
    clear zc
    have y0 := kc.out.cell (i := 0) rfl
    have y1 := kc.out.cell (i := 1) rfl
    have y2 := kc.out.cell (i := 2) rfl
    go_wp2_with fail
    (((with_reducible refine (T1.out _ HT.out).mono ?_); rintro e w1 ⟨rfl, hb1⟩); replace HB := Lib.hid (HB.out.trans (hb1.mono HB.out.size)); replace HT := Lib.hid (HT.out.keep hb1); replace kc := Lib.hid (kc.out.keep hb1); clear hb1)
    clear y0 y1 y2
    go_wp2_with fail
    (((with_reducible refine (FD.out _ HT.out).mono ?_); rintro e w2 ⟨rfl, hb2⟩); replace HB := Lib.hid (HB.out.trans (hb2.mono HB.out.size)); clear hb2)
    go_wp2_with fail
    go_ret
    exact ⟨rfl, HB.out⟩
end Go.Proofs.YtlpfijdjkaijeaaDoor
