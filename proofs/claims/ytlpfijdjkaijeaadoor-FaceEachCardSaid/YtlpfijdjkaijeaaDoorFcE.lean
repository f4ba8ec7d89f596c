/-
  The reference of layer 7: Print. (gen/FcE.py)
-/
import Derived.Test.YtlpfijdjkaijeaaDoorFcD
namespace Go.Proofs.YtlpfijdjkaijeaaDoor
open Go.RowKit

theorem text_nN2 (v n : Int) (h : ¬ n = -1) : textC v (-1) n = (Lib.decDigits (v + 1).toNat ++ [47] ++ [47]) ++ prS n := by rw [text_nN v n h]; simp [prS]
theorem text_tn2 (v t : Int) (h : ¬ t = -1) : textC v t (-1) = Lib.decDigits (v + 1).toNat ++ [47] ++ prS t := by rw [text_tn v t h]; simp
theorem text_tN2 (v t n : Int) (h : ¬ t = -1) (h' : ¬ n = -1) : textC v t n = Lib.decDigits (v + 1).toNat ++ [47] ++ prS t ++ [47] ++ prS n := by rw [text_tN v t n h h']; simp
theorem dig_p (p : Int) (h : okI p = true) (h1 : 0 ≤ p) (W : World) :
    Calls Tryd.prog 21 #[.int .i64 (p + 1)] W fun e w' => e = .returned (.string ⟨(prS p).toArray⟩) ∧ Below W.heap.size W w' := by
  rw [okI_iff] at h
  have e0 : ((p + 1).toNat : Int) = p + 1 := by omega
  have c := digits_any (p + 1).toNat W (by omega)
  rw [e0] at c
  unfold prS
  rw [if_neg (by omega)]
  exact c
set_option maxRecDepth 100000 in
set_option maxHeartbeats 4000000 in
theorem rprint_f (v t n : Int) (w : World) :
    Calls Tryd.prog 14 #[.agg #[.int .i64 v, .int .i64 t, .int .i64 n]] w fun e w' => e = retT (printC v t n) ∧ Below w.heap.size w w' := by
  by_cases b0 : v < 0
  · have PC : Hid (printC v t n = ([], 1)) := Lib.hid (if_neg (by rw [okI_iff, okI_iff, okI_iff]; omega))
    have d0 : decide (v < 0) = true := decide_eq_true b0
    go_enter Tryd.func14, Tryd.ntmps14
    go_upto_region 1 with fail
    have hbx := below_new1 w (.cells #[.int .i64 v, .int .i64 t, .int .i64 n] 23)
    have zx : (w.alloc (.cells #[.int .i64 v, .int .i64 t, .int .i64 n] 23)).heap.size = w.heap.size + 1 := by simp
    have HB := Lib.hid hbx
    have kx := Lib.hid (Lok.new w 23 #[.int .i64 v, .int .i64 t, .int .i64 n])
    clear hbx
    generalize w.alloc (.cells #[.int .i64 v, .int .i64 t, .int .i64 n] 23) = Vx at *
    clear zx
    have c0 := kx.out.cell (i := 0) rfl
    have c1 := kx.out.cell (i := 1) rfl
    have c2 := kx.out.cell (i := 2) rfl
    go_wp2_with fail
    go_ret2
    exact ⟨by rw [PC.out]; rfl, HB.out⟩
  · have d0 : decide (v < 0) = false := decide_eq_false b0
    by_cases b1 : 9999998 < v
    · have PC : Hid (printC v t n = ([], 1)) := Lib.hid (if_neg (by rw [okI_iff, okI_iff, okI_iff]; omega))
      have d1 : decide (9999998 < v) = true := decide_eq_true b1
      go_enter Tryd.func14, Tryd.ntmps14
      go_upto_region 1 with fail
      have hbx := below_new1 w (.cells #[.int .i64 v, .int .i64 t, .int .i64 n] 23)
      have zx : (w.alloc (.cells #[.int .i64 v, .int .i64 t, .int .i64 n] 23)).heap.size = w.heap.size + 1 := by simp
      have HB := Lib.hid hbx
      have kx := Lib.hid (Lok.new w 23 #[.int .i64 v, .int .i64 t, .int .i64 n])
      clear hbx
      generalize w.alloc (.cells #[.int .i64 v, .int .i64 t, .int .i64 n] 23) = Vx at *
      clear zx
      have c0 := kx.out.cell (i := 0) rfl
      have c1 := kx.out.cell (i := 1) rfl
      have c2 := kx.out.cell (i := 2) rfl
      go_wp2_with fail
      go_ret2
      exact ⟨by rw [PC.out]; rfl, HB.out⟩
    · have d1 : decide (9999998 < v) = false := decide_eq_false b1
      by_cases b2 : t < -1
      · have PC : Hid (printC v t n = ([], 1)) := Lib.hid (if_neg (by rw [okI_iff, okI_iff, okI_iff]; omega))
        have d2 : decide (t < -1) = true := decide_eq_true b2
        go_enter Tryd.func14, Tryd.ntmps14
        go_upto_region 1 with fail
        have hbx := below_new1 w (.cells #[.int .i64 v, .int .i64 t, .int .i64 n] 23)
        have zx : (w.alloc (.cells #[.int .i64 v, .int .i64 t, .int .i64 n] 23)).heap.size = w.heap.size + 1 := by simp
        have HB := Lib.hid hbx
        have kx := Lib.hid (Lok.new w 23 #[.int .i64 v, .int .i64 t, .int .i64 n])
        clear hbx
        generalize w.alloc (.cells #[.int .i64 v, .int .i64 t, .int .i64 n] 23) = Vx at *
        clear zx
        have c0 := kx.out.cell (i := 0) rfl
        have c1 := kx.out.cell (i := 1) rfl
        have c2 := kx.out.cell (i := 2) rfl
        go_wp2_with fail
        go_ret2
        exact ⟨by rw [PC.out]; rfl, HB.out⟩
      · have d2 : decide (t < -1) = false := decide_eq_false b2
        by_cases b3 : 9999998 < t
        · have PC : Hid (printC v t n = ([], 1)) := Lib.hid (if_neg (by rw [okI_iff, okI_iff, okI_iff]; omega))
          have d3 : decide (9999998 < t) = true := decide_eq_true b3
          go_enter Tryd.func14, Tryd.ntmps14
          go_upto_region 1 with fail
          have hbx := below_new1 w (.cells #[.int .i64 v, .int .i64 t, .int .i64 n] 23)
          have zx : (w.alloc (.cells #[.int .i64 v, .int .i64 t, .int .i64 n] 23)).heap.size = w.heap.size + 1 := by simp
          have HB := Lib.hid hbx
          have kx := Lib.hid (Lok.new w 23 #[.int .i64 v, .int .i64 t, .int .i64 n])
          clear hbx
          generalize w.alloc (.cells #[.int .i64 v, .int .i64 t, .int .i64 n] 23) = Vx at *
          clear zx
          have c0 := kx.out.cell (i := 0) rfl
          have c1 := kx.out.cell (i := 1) rfl
          have c2 := kx.out.cell (i := 2) rfl
          go_wp2_with fail
          go_ret2
          exact ⟨by rw [PC.out]; rfl, HB.out⟩
        · have d3 : decide (9999998 < t) = false := decide_eq_false b3
          by_cases b4 : n < -1
          · have PC : Hid (printC v t n = ([], 1)) := Lib.hid (if_neg (by rw [okI_iff, okI_iff, okI_iff]; omega))
            have d4 : decide (n < -1) = true := decide_eq_true b4
            go_enter Tryd.func14, Tryd.ntmps14
            go_upto_region 1 with fail
            have hbx := below_new1 w (.cells #[.int .i64 v, .int .i64 t, .int .i64 n] 23)
            have zx : (w.alloc (.cells #[.int .i64 v, .int .i64 t, .int .i64 n] 23)).heap.size = w.heap.size + 1 := by simp
            have HB := Lib.hid hbx
            have kx := Lib.hid (Lok.new w 23 #[.int .i64 v, .int .i64 t, .int .i64 n])
            clear hbx
            generalize w.alloc (.cells #[.int .i64 v, .int .i64 t, .int .i64 n] 23) = Vx at *
            clear zx
            have c0 := kx.out.cell (i := 0) rfl
            have c1 := kx.out.cell (i := 1) rfl
            have c2 := kx.out.cell (i := 2) rfl
            go_wp2_with fail
            go_ret2
            exact ⟨by rw [PC.out]; rfl, HB.out⟩
          · have d4 : decide (n < -1) = false := decide_eq_false b4
            by_cases b5 : 9999998 < n
            · have PC : Hid (printC v t n = ([], 1)) := Lib.hid (if_neg (by rw [okI_iff, okI_iff, okI_iff]; omega))
              have d5 : decide (9999998 < n) = true := decide_eq_true b5
              go_enter Tryd.func14, Tryd.ntmps14
              go_upto_region 1 with fail
              have hbx := below_new1 w (.cells #[.int .i64 v, .int .i64 t, .int .i64 n] 23)
              have zx : (w.alloc (.cells #[.int .i64 v, .int .i64 t, .int .i64 n] 23)).heap.size = w.heap.size + 1 := by simp
              have HB := Lib.hid hbx
              have kx := Lib.hid (Lok.new w 23 #[.int .i64 v, .int .i64 t, .int .i64 n])
              clear hbx
              generalize w.alloc (.cells #[.int .i64 v, .int .i64 t, .int .i64 n] 23) = Vx at *
              clear zx
              have c0 := kx.out.cell (i := 0) rfl
              have c1 := kx.out.cell (i := 1) rfl
              have c2 := kx.out.cell (i := 2) rfl
              go_wp2_with fail
              go_ret2
              exact ⟨by rw [PC.out]; rfl, HB.out⟩
            · have d5 : decide (9999998 < n) = false := decide_eq_false b5
              have hv : okI v = true := by rw [okI_iff]; omega
              have htt : okI t = true := by rw [okI_iff]; omega
              have hn : okI n = true := by rw [okI_iff]; omega
              have v0 : 0 ≤ v := by omega
              have PC : Hid (printC v t n = (textC v t n, 0)) := Lib.hid (if_pos ⟨v0, hv, htt, hn⟩)
              have LV := prS_len v hv
              have LT := prS_len t htt
              have LM := prS_len n hn
              have EV : prS v = Lib.decDigits (v + 1).toNat := if_neg (by omega)
              have D0 := Lib.hid (dig_p v hv v0)
              have D1 := Lib.hid (fun (h : 0 ≤ t) W => dig_p t htt h W)
              have D2 := Lib.hid (fun (h : 0 ≤ n) W => dig_p n hn h W)
              have q0 : IntKind.i64.wrap (v + 1) = v + 1 := by rw [IntKind.wrap_i64]; omega
              have q1 : IntKind.i64.wrap (t + 1) = t + 1 := by rw [IntKind.wrap_i64]; omega
              have q2 : IntKind.i64.wrap (n + 1) = n + 1 := by rw [IntKind.wrap_i64]; omega
              obtain ⟨SV, hSV⟩ : ∃ S : ByteArray, (⟨(prS v).toArray⟩ : ByteArray) = S := ⟨_, rfl⟩
              obtain ⟨ST, hST⟩ : ∃ S : ByteArray, (⟨(prS t).toArray⟩ : ByteArray) = S := ⟨_, rfl⟩
              obtain ⟨SN, hSN⟩ : ∃ S : ByteArray, (⟨(prS n).toArray⟩ : ByteArray) = S := ⟨_, rfl⟩
              have l0 : SV.size ≤ 7 := by rw [← hSV]; exact len_size LV
              have l1 : ST.size ≤ 7 := by rw [← hST]; exact len_size LT
              have l2 : SN.size ≤ 7 := by rw [← hSN]; exact len_size LM
              rw [hSV] at D0
              rw [hST] at D1
              rw [hSN] at D2
              by_cases t1 : t = -1
              · subst t1
                clear D1
                by_cases n1 : n = -1
                · subst n1
                  have TX : Hid ((⟨(textC v (-1) (-1)).toArray⟩ : ByteArray) = SV) := Lib.hid (by rw [text_nn, ← EV, hSV])
                  clear D2
                  clear hSV hST hSN LV LT LM EV b0 b1 b2 b3 b4 b5 hv htt hn
                  go_enter Tryd.func14, Tryd.ntmps14
                  go_upto_region 1 with fail
                  have hbx := below_new1 w (.cells #[.int .i64 v, .int .i64 (-1), .int .i64 (-1)] 23)
                  have zx : (w.alloc (.cells #[.int .i64 v, .int .i64 (-1), .int .i64 (-1)] 23)).heap.size = w.heap.size + 1 := by simp
                  have HB := Lib.hid hbx
                  have kx := Lib.hid (Lok.new w 23 #[.int .i64 v, .int .i64 (-1), .int .i64 (-1)])
                  clear hbx
                  generalize w.alloc (.cells #[.int .i64 v, .int .i64 (-1), .int .i64 (-1)] 23) = Vx at *
                  clear zx
                  have c0 := kx.out.cell (i := 0) rfl
                  have c1 := kx.out.cell (i := 1) rfl
                  have c2 := kx.out.cell (i := 2) rfl
                  go_wp2_with fail
                  (((with_reducible refine (D0.out _).mono ?_); rintro e w5 ⟨rfl, hb5⟩); replace HB := Lib.hid (HB.out.trans (hb5.mono HB.out.size)); replace kx := Lib.hid (kx.out.keep hb5); clear hb5)
                  clear c0 c1 c2
                  have c0 := kx.out.cell (i := 0) rfl
                  have c1 := kx.out.cell (i := 1) rfl
                  have c2 := kx.out.cell (i := 2) rfl
                  go_wp2_with fail
                  go_ret2
                  exact ⟨by rw [PC.out]; show _ = Ending.returned (.tuple #[.string ⟨(textC _ _ _).toArray⟩, .int .i64 0]); rw [TX.out]; rfl, HB.out⟩
                · have n2 : 0 ≤ n := by omega
                  replace D2 := Lib.hid (D2.out n2)
                  have TX : Hid ((⟨(textC v (-1) n).toArray⟩ : ByteArray) = SV ++ ⟨#[47]⟩ ++ ⟨#[47]⟩ ++ SN) := Lib.hid (by rw [text_nN2 v n n1, ← EV, ← hSV, ← hSN, ← str_add, ← str_add, ← str_add])
                  clear hSV hST hSN LV LT LM EV b0 b1 b2 b3 b4 b5 hv htt hn
                  go_enter Tryd.func14, Tryd.ntmps14
                  go_upto_region 1 with fail
                  have hbx := below_new1 w (.cells #[.int .i64 v, .int .i64 (-1), .int .i64 n] 23)
                  have zx : (w.alloc (.cells #[.int .i64 v, .int .i64 (-1), .int .i64 n] 23)).heap.size = w.heap.size + 1 := by simp
                  have HB := Lib.hid hbx
                  have kx := Lib.hid (Lok.new w 23 #[.int .i64 v, .int .i64 (-1), .int .i64 n])
                  clear hbx
                  generalize w.alloc (.cells #[.int .i64 v, .int .i64 (-1), .int .i64 n] 23) = Vx at *
                  clear zx
                  have c0 := kx.out.cell (i := 0) rfl
                  have c1 := kx.out.cell (i := 1) rfl
                  have c2 := kx.out.cell (i := 2) rfl
                  go_wp2_with fail
                  (((with_reducible refine (D0.out _).mono ?_); rintro e w5 ⟨rfl, hb5⟩); replace HB := Lib.hid (HB.out.trans (hb5.mono HB.out.size)); replace kx := Lib.hid (kx.out.keep hb5); clear hb5)
                  clear c0 c1 c2
                  have c0 := kx.out.cell (i := 0) rfl
                  have c1 := kx.out.cell (i := 1) rfl
                  have c2 := kx.out.cell (i := 2) rfl
                  go_wp2_with fail
                  (((with_reducible refine (D2.out _).mono ?_); rintro e w6 ⟨rfl, hb6⟩); replace HB := Lib.hid (HB.out.trans (hb6.mono HB.out.size)); replace kx := Lib.hid (kx.out.keep hb6); clear hb6)
                  clear c0 c1 c2
                  have c0 := kx.out.cell (i := 0) rfl
                  have c1 := kx.out.cell (i := 1) rfl
                  have c2 := kx.out.cell (i := 2) rfl
                  go_wp2_with fail
                  go_ret2
                  exact ⟨by rw [PC.out]; show _ = Ending.returned (.tuple #[.string ⟨(textC _ _ _).toArray⟩, .int .i64 0]); rw [TX.out]; rfl, HB.out⟩
              · have t2 : 0 ≤ t := by omega
                have t3 : ¬ t < 0 := by omega
                replace D1 := Lib.hid (D1.out t2)
                by_cases n1 : n = -1
                · subst n1
                  have TX : Hid ((⟨(textC v t (-1)).toArray⟩ : ByteArray) = SV ++ ⟨#[47]⟩ ++ ST) := Lib.hid (by rw [text_tn2 v t t1, ← EV, ← hSV, ← hST, ← str_add, ← str_add])
                  clear D2
                  clear hSV hST hSN LV LT LM EV b0 b1 b2 b3 b4 b5 hv htt hn
                  go_enter Tryd.func14, Tryd.ntmps14
                  go_upto_region 1 with fail
                  have hbx := below_new1 w (.cells #[.int .i64 v, .int .i64 t, .int .i64 (-1)] 23)
                  have zx : (w.alloc (.cells #[.int .i64 v, .int .i64 t, .int .i64 (-1)] 23)).heap.size = w.heap.size + 1 := by simp
                  have HB := Lib.hid hbx
                  have kx := Lib.hid (Lok.new w 23 #[.int .i64 v, .int .i64 t, .int .i64 (-1)])
                  clear hbx
                  generalize w.alloc (.cells #[.int .i64 v, .int .i64 t, .int .i64 (-1)] 23) = Vx at *
                  clear zx
                  have c0 := kx.out.cell (i := 0) rfl
                  have c1 := kx.out.cell (i := 1) rfl
                  have c2 := kx.out.cell (i := 2) rfl
                  go_wp2_with fail
                  (((with_reducible refine (D0.out _).mono ?_); rintro e w5 ⟨rfl, hb5⟩); replace HB := Lib.hid (HB.out.trans (hb5.mono HB.out.size)); replace kx := Lib.hid (kx.out.keep hb5); clear hb5)
                  clear c0 c1 c2
                  have c0 := kx.out.cell (i := 0) rfl
                  have c1 := kx.out.cell (i := 1) rfl
                  have c2 := kx.out.cell (i := 2) rfl
                  go_wp2_with fail
                  (((with_reducible refine (D1.out _).mono ?_); rintro e w6 ⟨rfl, hb6⟩); replace HB := Lib.hid (HB.out.trans (hb6.mono HB.out.size)); replace kx := Lib.hid (kx.out.keep hb6); clear hb6)
                  clear c0 c1 c2
                  have c0 := kx.out.cell (i := 0) rfl
                  have c1 := kx.out.cell (i := 1) rfl
                  have c2 := kx.out.cell (i := 2) rfl
                  go_wp2_with fail
                  go_ret2
                  exact ⟨by rw [PC.out]; show _ = Ending.returned (.tuple #[.string ⟨(textC _ _ _).toArray⟩, .int .i64 0]); rw [TX.out]; rfl, HB.out⟩
                · have n2 : 0 ≤ n := by omega
                  replace D2 := Lib.hid (D2.out n2)
                  have TX : Hid ((⟨(textC v t n).toArray⟩ : ByteArray) = SV ++ ⟨#[47]⟩ ++ ST ++ ⟨#[47]⟩ ++ SN) := Lib.hid (by rw [text_tN2 v t n t1 n1, ← EV, ← hSV, ← hST, ← hSN, ← str_add, ← str_add, ← str_add, ← str_add])
                  clear hSV hST hSN LV LT LM EV b0 b1 b2 b3 b4 b5 hv htt hn
                  go_enter Tryd.func14, Tryd.ntmps14
                  go_upto_region 1 with fail
                  have hbx := below_new1 w (.cells #[.int .i64 v, .int .i64 t, .int .i64 n] 23)
                  have zx : (w.alloc (.cells #[.int .i64 v, .int .i64 t, .int .i64 n] 23)).heap.size = w.heap.size + 1 := by simp
                  have HB := Lib.hid hbx
                  have kx := Lib.hid (Lok.new w 23 #[.int .i64 v, .int .i64 t, .int .i64 n])
                  clear hbx
                  generalize w.alloc (.cells #[.int .i64 v, .int .i64 t, .int .i64 n] 23) = Vx at *
                  clear zx
                  have c0 := kx.out.cell (i := 0) rfl
                  have c1 := kx.out.cell (i := 1) rfl
                  have c2 := kx.out.cell (i := 2) rfl
                  go_wp2_with fail
                  (((with_reducible refine (D0.out _).mono ?_); rintro e w5 ⟨rfl, hb5⟩); replace HB := Lib.hid (HB.out.trans (hb5.mono HB.out.size)); replace kx := Lib.hid (kx.out.keep hb5); clear hb5)
                  clear c0 c1 c2
                  have c0 := kx.out.cell (i := 0) rfl
                  have c1 := kx.out.cell (i := 1) rfl
                  have c2 := kx.out.cell (i := 2) rfl
                  go_wp2_with fail
                  (((with_reducible refine (D1.out _).mono ?_); rintro e w6 ⟨rfl, hb6⟩); replace HB := Lib.hid (HB.out.trans (hb6.mono HB.out.size)); replace kx := Lib.hid (kx.out.keep hb6); clear hb6)
                  clear c0 c1 c2
                  have c0 := kx.out.cell (i := 0) rfl
                  have c1 := kx.out.cell (i := 1) rfl
                  have c2 := kx.out.cell (i := 2) rfl
                  go_wp2_with fail
                  (((with_reducible refine (D2.out _).mono ?_); rintro e w7 ⟨rfl, hb7⟩); replace HB := Lib.hid (HB.out.trans (hb7.mono HB.out.size)); replace kx := Lib.hid (kx.out.keep hb7); clear hb7)
                  clear c0 c1 c2
                  have c0 := kx.out.cell (i := 0) rfl
                  have c1 := kx.out.cell (i := 1) rfl
                  have c2 := kx.out.cell (i := 2) rfl
                  go_wp2_with fail
                  go_ret2
                  exact ⟨by rw [PC.out]; show _ = Ending.returned (.tuple #[.string ⟨(textC _ _ _).toArray⟩, .int .i64 0]); rw [TX.out]; rfl, HB.out⟩
end Go.Proofs.YtlpfijdjkaijeaaDoor
