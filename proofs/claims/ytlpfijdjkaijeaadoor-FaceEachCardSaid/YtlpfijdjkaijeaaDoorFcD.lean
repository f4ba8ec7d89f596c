/-
  Package face: isPrintable, printed, Print; the reference's Print. (gen/FcD.py)
-/
import Derived.Test.YtlpfijdjkaijeaaDoorFcPure
import Derived.Test.YtlpfijdjkaijeaaDoorRDg
import Derived.Test.YtlpfijdjkaijeaaDoorItS
namespace Go.Proofs.YtlpfijdjkaijeaaDoor
open Go.RowKit

def prS (p : Int) : List UInt8 := if p = -1 then [] else Lib.decDigits (p + 1).toNat
def okI (p : Int) : Bool := decide (-1 ≤ p ∧ p ≤ 9999998)
def textC (v t n : Int) : List UInt8 := Lib.decDigits (v + 1).toNat ++ ((if t = -1 ∧ n = -1 then [] else 47 :: prS t) ++ (if n = -1 then [] else 47 :: prS n))
def printC (v t n : Int) : List UInt8 × Int := if 0 ≤ v ∧ okI v = true ∧ okI t = true ∧ okI n = true then (textC v t n, 0) else ([], 1)
theorem okI_iff (p : Int) : okI p = true ↔ -1 ≤ p ∧ p ≤ 9999998 := by unfold okI; simp
theorem dec_len8 (n : Nat) (h : n ≤ 9999999) : (Lib.decDigits n).length ≤ 7 := by
  rw [Lib.decDigits_length]; exact nDig_le 7 _ (by decide) (by simp only [show (10 : Nat) ^ 7 = 10000000 from rfl]; omega)
theorem prS_len (p : Int) (h : okI p = true) : (prS p).length ≤ 7 := by
  rw [okI_iff] at h
  unfold prS
  split
  · exact Nat.zero_le _
  · exact dec_len8 _ (by omega)

theorem isPr_any (p : Int) (w : World) :
    Calls Tryd.prog 27 #[.int .i64 p] w fun e w' => e = .returned (.bool (okI p)) ∧ Below w.heap.size w w' := by
  unfold okI
  go_enter Tryd.func27, Tryd.ntmps27
  go_wp2_with fail
  all_goals go_ret
  all_goals refine ⟨?_, Below.refl _ _⟩
  all_goals congr 2
  all_goals simp
  all_goals omega
set_option maxHeartbeats 1000000 in
theorem printed_f (p : Int) (w : World) (h : okI p = true) (ht : Tab w) :
    Calls Tryd.prog 28 #[.int .i64 p] w fun e w' => e = .returned (.string ⟨(prS p).toArray⟩) ∧ Below w.heap.size w w' := by
  have HB := Lib.hid (Below.refl w.heap.size w)
  rw [okI_iff] at h
  unfold prS
  by_cases h1 : p = -1
  · subst h1
    rw [if_pos rfl]
    go_enter Tryd.func28, Tryd.ntmps28
    go_wp2_with fail
    go_ret
    exact ⟨rfl, HB.out⟩
  · rw [if_neg h1]
    have HT := Lib.hid ht
    have e0 : ((p + 1).toNat : Int) = p + 1 := by omega
    have C := Lib.hid (fun (W : World) (hW : Tab W) => itoaN_any (p + 1).toNat W (by omega) hW)
    have q1 : IntKind.i64.wrap (p + 1) = p + 1 := by rw [IntKind.wrap_i64]; omega
    have x1 : (p == -1) = false := by simp [h1]
    rw [e0] at C
    generalize (p + 1).toNat = m at *
    clear ht e0
    go_enter Tryd.func28, Tryd.ntmps28
    go_wp2_with fail
    (((with_reducible refine (C.out _ HT.out).mono ?_); rintro e w1 ⟨rfl, hb1⟩); replace HB := Lib.hid (HB.out.trans (hb1.mono HB.out.size)); clear hb1)
    go_wp2_with fail
    go_ret
    exact ⟨rfl, HB.out⟩
theorem text_nn (v : Int) : textC v (-1) (-1) = Lib.decDigits (v + 1).toNat := by unfold textC; simp
theorem text_tn (v t : Int) (h : ¬ t = -1) : textC v t (-1) = Lib.decDigits (v + 1).toNat ++ ([47] ++ prS t) := by unfold textC; simp [h]
theorem text_nN (v n : Int) (h : ¬ n = -1) : textC v (-1) n = Lib.decDigits (v + 1).toNat ++ ([47] ++ prS (-1)) ++ ([47] ++ prS n) := by unfold textC; simp [h]
theorem text_tN (v t n : Int) (h : ¬ t = -1) (h' : ¬ n = -1) : textC v t n = Lib.decDigits (v + 1).toNat ++ ([47] ++ prS t) ++ ([47] ++ prS n) := by unfold textC; simp [h, h']

set_option maxRecDepth 100000 in
set_option maxHeartbeats 4000000 in
theorem print_f (v t n : Int) (w : World) (ht : Tab w) :
    Calls Tryd.prog 13 #[.agg #[.int .i64 v, .int .i64 t, .int .i64 n]] w fun e w' => e = retT (printC v t n) ∧ Below w.heap.size w w' := by
  have HT := Lib.hid ht
  have I := Lib.hid isPr_any
  have D := Lib.hid printed_f
  clear ht
  by_cases h1 : v = -1
  · subst h1
    have PC : Hid (printC (-1) t n = ([], 1)) := Lib.hid (if_neg (by rintro ⟨a, b, c, d⟩; omega))
    go_enter Tryd.func13, Tryd.ntmps13
    go_upto_region 1 with fail
    have hbx := below_new1 w (.cells #[.int .i64 (-1), .int .i64 t, .int .i64 n] 23)
    replace HT := Lib.hid (HT.out.keep hbx)
    have zx : (w.alloc (.cells #[.int .i64 (-1), .int .i64 t, .int .i64 n] 23)).heap.size = w.heap.size + 1 := by simp
    have HB := Lib.hid hbx
    have kx := Lib.hid (Lok.new w 23 #[.int .i64 (-1), .int .i64 t, .int .i64 n])
    clear hbx
    generalize w.alloc (.cells #[.int .i64 (-1), .int .i64 t, .int .i64 n] 23) = Vx at *
    clear zx
    have c0 := kx.out.cell (i := 0) rfl
    go_wp2_with fail
    go_ret2
    exact ⟨by rw [PC.out]; rfl, HB.out⟩
  have x0 : (v == -1) = false := by simp [h1]
  cases hv : okI v with
  | false =>
    have PC : Hid (printC v t n = ([], 1)) := Lib.hid (if_neg (by rintro ⟨a, b, c, d⟩; rw [hv] at b; cases b))
    go_enter Tryd.func13, Tryd.ntmps13
    go_upto_region 1 with fail
    have hbx := below_new1 w (.cells #[.int .i64 v, .int .i64 t, .int .i64 n] 23)
    replace HT := Lib.hid (HT.out.keep hbx)
    have zx : (w.alloc (.cells #[.int .i64 v, .int .i64 t, .int .i64 n] 23)).heap.size = w.heap.size + 1 := by simp
    have HB := Lib.hid hbx
    have kx := Lib.hid (Lok.new w 23 #[.int .i64 v, .int .i64 t, .int .i64 n])
    clear hbx
    generalize w.alloc (.cells #[.int .i64 v, .int .i64 t, .int .i64 n] 23) = Vx at *
    clear zx
    have c0 := kx.out.cell (i := 0) rfl
    go_wp2_with fail
    (((with_reducible refine (I.out _ _).mono ?_); rintro e w1 ⟨rfl, hb1⟩); replace HB := Lib.hid (HB.out.trans (hb1.mono HB.out.size)); replace kx := Lib.hid (kx.out.keep hb1); replace HT := Lib.hid (HT.out.keep hb1); clear hb1)
    rw [hv]
    clear c0
    go_wp2_with fail
    go_ret2
    exact ⟨by rw [PC.out]; rfl, HB.out⟩
  | true =>
    cases htt : okI t with
    | false =>
      have PC : Hid (printC v t n = ([], 1)) := Lib.hid (if_neg (by rintro ⟨a, b, c, d⟩; rw [htt] at c; cases c))
      go_enter Tryd.func13, Tryd.ntmps13
      go_upto_region 1 with fail
      have hbx := below_new1 w (.cells #[.int .i64 v, .int .i64 t, .int .i64 n] 23)
      replace HT := Lib.hid (HT.out.keep hbx)
      have zx : (w.alloc (.cells #[.int .i64 v, .int .i64 t, .int .i64 n] 23)).heap.size = w.heap.size + 1 := by simp
      have HB := Lib.hid hbx
      have kx := Lib.hid (Lok.new w 23 #[.int .i64 v, .int .i64 t, .int .i64 n])
      clear hbx
      generalize w.alloc (.cells #[.int .i64 v, .int .i64 t, .int .i64 n] 23) = Vx at *
      clear zx
      have c0 := kx.out.cell (i := 0) rfl
      go_wp2_with fail
      (((with_reducible refine (I.out _ _).mono ?_); rintro e w1 ⟨rfl, hb1⟩); replace HB := Lib.hid (HB.out.trans (hb1.mono HB.out.size)); replace kx := Lib.hid (kx.out.keep hb1); replace HT := Lib.hid (HT.out.keep hb1); clear hb1)
      rw [hv]
      clear c0
      have c1 := kx.out.cell (i := 1) rfl
      go_wp2_with fail
      (((with_reducible refine (I.out _ _).mono ?_); rintro e w2 ⟨rfl, hb2⟩); replace HB := Lib.hid (HB.out.trans (hb2.mono HB.out.size)); replace kx := Lib.hid (kx.out.keep hb2); replace HT := Lib.hid (HT.out.keep hb2); clear hb2)
      rw [htt]
      clear c1
      go_wp2_with fail
      go_ret2
      exact ⟨by rw [PC.out]; rfl, HB.out⟩
    | true =>
      cases hn : okI n with
      | false =>
        have PC : Hid (printC v t n = ([], 1)) := Lib.hid (if_neg (by rintro ⟨a, b, c, d⟩; rw [hn] at d; cases d))
        go_enter Tryd.func13, Tryd.ntmps13
        go_upto_region 1 with fail
        have hbx := below_new1 w (.cells #[.int .i64 v, .int .i64 t, .int .i64 n] 23)
        replace HT := Lib.hid (HT.out.keep hbx)
        have zx : (w.alloc (.cells #[.int .i64 v, .int .i64 t, .int .i64 n] 23)).heap.size = w.heap.size + 1 := by simp
        have HB := Lib.hid hbx
        have kx := Lib.hid (Lok.new w 23 #[.int .i64 v, .int .i64 t, .int .i64 n])
        clear hbx
        generalize w.alloc (.cells #[.int .i64 v, .int .i64 t, .int .i64 n] 23) = Vx at *
        clear zx
        have c0 := kx.out.cell (i := 0) rfl
        go_wp2_with fail
        (((with_reducible refine (I.out _ _).mono ?_); rintro e w1 ⟨rfl, hb1⟩); replace HB := Lib.hid (HB.out.trans (hb1.mono HB.out.size)); replace kx := Lib.hid (kx.out.keep hb1); replace HT := Lib.hid (HT.out.keep hb1); clear hb1)
        rw [hv]
        clear c0
        have c1 := kx.out.cell (i := 1) rfl
        go_wp2_with fail
        (((with_reducible refine (I.out _ _).mono ?_); rintro e w2 ⟨rfl, hb2⟩); replace HB := Lib.hid (HB.out.trans (hb2.mono HB.out.size)); replace kx := Lib.hid (kx.out.keep hb2); replace HT := Lib.hid (HT.out.keep hb2); clear hb2)
        rw [htt]
        clear c1
        have c2 := kx.out.cell (i := 2) rfl
        go_wp2_with fail
        (((with_reducible refine (I.out _ _).mono ?_); rintro e w3 ⟨rfl, hb3⟩); replace HB := Lib.hid (HB.out.trans (hb3.mono HB.out.size)); replace kx := Lib.hid (kx.out.keep hb3); replace HT := Lib.hid (HT.out.keep hb3); clear hb3)
        rw [hn]
        clear c2
        go_wp2_with fail
        go_ret2
        exact ⟨by rw [PC.out]; rfl, HB.out⟩
      | true =>
        have v0 : 0 ≤ v := by rw [okI_iff] at hv; omega
        have PC : Hid (printC v t n = (textC v t n, 0)) := Lib.hid (if_pos ⟨v0, hv, htt, hn⟩)
        have LV := prS_len v hv
        have LT := prS_len t htt
        have LM := prS_len n hn
        have EV : prS v = Lib.decDigits (v + 1).toNat := if_neg h1
        have D0 := Lib.hid (fun W h => D.out v W hv h)
        have D1 := Lib.hid (fun W h => D.out t W htt h)
        have D2 := Lib.hid (fun W h => D.out n W hn h)
        clear D
        obtain ⟨SV, hSV⟩ : ∃ S : ByteArray, (⟨(prS v).toArray⟩ : ByteArray) = S := ⟨_, rfl⟩
        obtain ⟨ST, hST⟩ : ∃ S : ByteArray, (⟨(prS t).toArray⟩ : ByteArray) = S := ⟨_, rfl⟩
        obtain ⟨SN, hSN⟩ : ∃ S : ByteArray, (⟨(prS n).toArray⟩ : ByteArray) = S := ⟨_, rfl⟩
        have l0 : SV.size ≤ 7 := by rw [← hSV]; exact len_size LV
        have l1 : ST.size ≤ 7 := by rw [← hST]; exact len_size LT
        have l2 : SN.size ≤ 7 := by rw [← hSN]; exact len_size LM
        rw [hSV] at D0
        rw [hST] at D1
        rw [hSN] at D2
        by_cases t1 : t = -1
        · subst t1
          by_cases n1 : n = -1
          · subst n1
            have TX : Hid ((⟨(textC v (-1) (-1)).toArray⟩ : ByteArray) = SV) := Lib.hid (by rw [text_nn, ← EV, hSV])
            clear hSV hST hSN LV LT LM D2 EV
            go_enter Tryd.func13, Tryd.ntmps13
            go_upto_region 1 with fail
            have hbx := below_new1 w (.cells #[.int .i64 v, .int .i64 (-1), .int .i64 (-1)] 23)
            replace HT := Lib.hid (HT.out.keep hbx)
            have zx : (w.alloc (.cells #[.int .i64 v, .int .i64 (-1), .int .i64 (-1)] 23)).heap.size = w.heap.size + 1 := by simp
            have HB := Lib.hid hbx
            have kx := Lib.hid (Lok.new w 23 #[.int .i64 v, .int .i64 (-1), .int .i64 (-1)])
            clear hbx
            generalize w.alloc (.cells #[.int .i64 v, .int .i64 (-1), .int .i64 (-1)] 23) = Vx at *
            clear zx
            have c0 := kx.out.cell (i := 0) rfl
            go_wp2_with fail
            (((with_reducible refine (I.out _ _).mono ?_); rintro e w1 ⟨rfl, hb1⟩); replace HB := Lib.hid (HB.out.trans (hb1.mono HB.out.size)); replace kx := Lib.hid (kx.out.keep hb1); replace HT := Lib.hid (HT.out.keep hb1); clear hb1)
            rw [hv]
            clear c0
            have c1 := kx.out.cell (i := 1) rfl
            go_wp2_with fail
            (((with_reducible refine (I.out _ _).mono ?_); rintro e w2 ⟨rfl, hb2⟩); replace HB := Lib.hid (HB.out.trans (hb2.mono HB.out.size)); replace kx := Lib.hid (kx.out.keep hb2); replace HT := Lib.hid (HT.out.keep hb2); clear hb2)
            rw [htt]
            clear c1
            have c2 := kx.out.cell (i := 2) rfl
            go_wp2_with fail
            (((with_reducible refine (I.out _ _).mono ?_); rintro e w3 ⟨rfl, hb3⟩); replace HB := Lib.hid (HB.out.trans (hb3.mono HB.out.size)); replace kx := Lib.hid (kx.out.keep hb3); replace HT := Lib.hid (HT.out.keep hb3); clear hb3)
            rw [hn]
            clear c2
            have c0 := kx.out.cell (i := 0) rfl
            go_wp2_with fail
            (((with_reducible refine (D0.out _ HT.out).mono ?_); rintro e w5 ⟨rfl, hb5⟩); replace HB := Lib.hid (HB.out.trans (hb5.mono HB.out.size)); replace kx := Lib.hid (kx.out.keep hb5); replace HT := Lib.hid (HT.out.keep hb5); clear hb5)
            clear c0
            have c1 := kx.out.cell (i := 1) rfl
            have c2 := kx.out.cell (i := 2) rfl
            go_wp2_with fail
            go_ret2
            exact ⟨by rw [PC.out]; show _ = Ending.returned (.tuple #[.string ⟨(textC _ _ _).toArray⟩, .int .i64 0]); rw [TX.out]; rfl, HB.out⟩
          · have n1' : (n != -1) = true := by simp [n1]
            have TX : Hid ((⟨(textC v (-1) n).toArray⟩ : ByteArray) = SV ++ (⟨#[47]⟩ ++ ST) ++ (⟨#[47]⟩ ++ SN)) := Lib.hid (by rw [text_nN v n n1, ← EV, ← hSV, ← hST, ← hSN, ← str_add, ← str_add, ← str_add, ← str_add])
            clear hSV hST hSN LV LT LM EV
            go_enter Tryd.func13, Tryd.ntmps13
            go_upto_region 1 with fail
            have hbx := below_new1 w (.cells #[.int .i64 v, .int .i64 (-1), .int .i64 n] 23)
            replace HT := Lib.hid (HT.out.keep hbx)
            have zx : (w.alloc (.cells #[.int .i64 v, .int .i64 (-1), .int .i64 n] 23)).heap.size = w.heap.size + 1 := by simp
            have HB := Lib.hid hbx
            have kx := Lib.hid (Lok.new w 23 #[.int .i64 v, .int .i64 (-1), .int .i64 n])
            clear hbx
            generalize w.alloc (.cells #[.int .i64 v, .int .i64 (-1), .int .i64 n] 23) = Vx at *
            clear zx
            have c0 := kx.out.cell (i := 0) rfl
            go_wp2_with fail
            (((with_reducible refine (I.out _ _).mono ?_); rintro e w1 ⟨rfl, hb1⟩); replace HB := Lib.hid (HB.out.trans (hb1.mono HB.out.size)); replace kx := Lib.hid (kx.out.keep hb1); replace HT := Lib.hid (HT.out.keep hb1); clear hb1)
            rw [hv]
            clear c0
            have c1 := kx.out.cell (i := 1) rfl
            go_wp2_with fail
            (((with_reducible refine (I.out _ _).mono ?_); rintro e w2 ⟨rfl, hb2⟩); replace HB := Lib.hid (HB.out.trans (hb2.mono HB.out.size)); replace kx := Lib.hid (kx.out.keep hb2); replace HT := Lib.hid (HT.out.keep hb2); clear hb2)
            rw [htt]
            clear c1
            have c2 := kx.out.cell (i := 2) rfl
            go_wp2_with fail
            (((with_reducible refine (I.out _ _).mono ?_); rintro e w3 ⟨rfl, hb3⟩); replace HB := Lib.hid (HB.out.trans (hb3.mono HB.out.size)); replace kx := Lib.hid (kx.out.keep hb3); replace HT := Lib.hid (HT.out.keep hb3); clear hb3)
            rw [hn]
            clear c2
            have c0 := kx.out.cell (i := 0) rfl
            go_wp2_with fail
            (((with_reducible refine (D0.out _ HT.out).mono ?_); rintro e w5 ⟨rfl, hb5⟩); replace HB := Lib.hid (HB.out.trans (hb5.mono HB.out.size)); replace kx := Lib.hid (kx.out.keep hb5); replace HT := Lib.hid (HT.out.keep hb5); clear hb5)
            clear c0
            have c1 := kx.out.cell (i := 1) rfl
            have c2 := kx.out.cell (i := 2) rfl
            go_wp2_with fail
            (((with_reducible refine (D1.out _ HT.out).mono ?_); rintro e w6 ⟨rfl, hb6⟩); replace HB := Lib.hid (HB.out.trans (hb6.mono HB.out.size)); replace kx := Lib.hid (kx.out.keep hb6); replace HT := Lib.hid (HT.out.keep hb6); clear hb6)
            clear c1 c2
            have c2 := kx.out.cell (i := 2) rfl
            go_wp2_with fail
            (((with_reducible refine (D2.out _ HT.out).mono ?_); rintro e w7 ⟨rfl, hb7⟩); replace HB := Lib.hid (HB.out.trans (hb7.mono HB.out.size)); replace kx := Lib.hid (kx.out.keep hb7); replace HT := Lib.hid (HT.out.keep hb7); clear hb7)
            clear c2
            go_wp2_with fail
            go_ret2
            exact ⟨by rw [PC.out]; show _ = Ending.returned (.tuple #[.string ⟨(textC _ _ _).toArray⟩, .int .i64 0]); rw [TX.out]; rfl, HB.out⟩
        · have t1' : (t != -1) = true := by simp [t1]
          by_cases n1 : n = -1
          · subst n1
            have TX : Hid ((⟨(textC v t (-1)).toArray⟩ : ByteArray) = SV ++ (⟨#[47]⟩ ++ ST)) := Lib.hid (by rw [text_tn v t t1, ← EV, ← hSV, ← hST, ← str_add, ← str_add])
            clear hSV hST hSN LV LT LM D2 EV
            go_enter Tryd.func13, Tryd.ntmps13
            go_upto_region 1 with fail
            have hbx := below_new1 w (.cells #[.int .i64 v, .int .i64 t, .int .i64 (-1)] 23)
            replace HT := Lib.hid (HT.out.keep hbx)
            have zx : (w.alloc (.cells #[.int .i64 v, .int .i64 t, .int .i64 (-1)] 23)).heap.size = w.heap.size + 1 := by simp
            have HB := Lib.hid hbx
            have kx := Lib.hid (Lok.new w 23 #[.int .i64 v, .int .i64 t, .int .i64 (-1)])
            clear hbx
            generalize w.alloc (.cells #[.int .i64 v, .int .i64 t, .int .i64 (-1)] 23) = Vx at *
            clear zx
            have c0 := kx.out.cell (i := 0) rfl
            go_wp2_with fail
            (((with_reducible refine (I.out _ _).mono ?_); rintro e w1 ⟨rfl, hb1⟩); replace HB := Lib.hid (HB.out.trans (hb1.mono HB.out.size)); replace kx := Lib.hid (kx.out.keep hb1); replace HT := Lib.hid (HT.out.keep hb1); clear hb1)
            rw [hv]
            clear c0
            have c1 := kx.out.cell (i := 1) rfl
            go_wp2_with fail
            (((with_reducible refine (I.out _ _).mono ?_); rintro e w2 ⟨rfl, hb2⟩); replace HB := Lib.hid (HB.out.trans (hb2.mono HB.out.size)); replace kx := Lib.hid (kx.out.keep hb2); replace HT := Lib.hid (HT.out.keep hb2); clear hb2)
            rw [htt]
            clear c1
            have c2 := kx.out.cell (i := 2) rfl
            go_wp2_with fail
            (((with_reducible refine (I.out _ _).mono ?_); rintro e w3 ⟨rfl, hb3⟩); replace HB := Lib.hid (HB.out.trans (hb3.mono HB.out.size)); replace kx := Lib.hid (kx.out.keep hb3); replace HT := Lib.hid (HT.out.keep hb3); clear hb3)
            rw [hn]
            clear c2
            have c0 := kx.out.cell (i := 0) rfl
            go_wp2_with fail
            (((with_reducible refine (D0.out _ HT.out).mono ?_); rintro e w5 ⟨rfl, hb5⟩); replace HB := Lib.hid (HB.out.trans (hb5.mono HB.out.size)); replace kx := Lib.hid (kx.out.keep hb5); replace HT := Lib.hid (HT.out.keep hb5); clear hb5)
            clear c0
            have c1 := kx.out.cell (i := 1) rfl
            have c2 := kx.out.cell (i := 2) rfl
            go_wp2_with fail
            (((with_reducible refine (D1.out _ HT.out).mono ?_); rintro e w6 ⟨rfl, hb6⟩); replace HB := Lib.hid (HB.out.trans (hb6.mono HB.out.size)); replace kx := Lib.hid (kx.out.keep hb6); replace HT := Lib.hid (HT.out.keep hb6); clear hb6)
            clear c1 c2
            have c2 := kx.out.cell (i := 2) rfl
            go_wp2_with fail
            go_ret2
            exact ⟨by rw [PC.out]; show _ = Ending.returned (.tuple #[.string ⟨(textC _ _ _).toArray⟩, .int .i64 0]); rw [TX.out]; rfl, HB.out⟩
          · have n1' : (n != -1) = true := by simp [n1]
            have TX : Hid ((⟨(textC v t n).toArray⟩ : ByteArray) = SV ++ (⟨#[47]⟩ ++ ST) ++ (⟨#[47]⟩ ++ SN)) := Lib.hid (by rw [text_tN v t n t1 n1, ← EV, ← hSV, ← hST, ← hSN, ← str_add, ← str_add, ← str_add, ← str_add])
            clear hSV hST hSN LV LT LM EV
            go_enter Tryd.func13, Tryd.ntmps13
            go_upto_region 1 with fail
            have hbx := below_new1 w (.cells #[.int .i64 v, .int .i64 t, .int .i64 n] 23)
            replace HT := Lib.hid (HT.out.keep hbx)
            have zx : (w.alloc (.cells #[.int .i64 v, .int .i64 t, .int .i64 n] 23)).heap.size = w.heap.size + 1 := by simp
            have HB := Lib.hid hbx
            have kx := Lib.hid (Lok.new w 23 #[.int .i64 v, .int .i64 t, .int .i64 n])
            clear hbx
            generalize w.alloc (.cells #[.int .i64 v, .int .i64 t, .int .i64 n] 23) = Vx at *
            clear zx
            have c0 := kx.out.cell (i := 0) rfl
            go_wp2_with fail
            (((with_reducible refine (I.out _ _).mono ?_); rintro e w1 ⟨rfl, hb1⟩); replace HB := Lib.hid (HB.out.trans (hb1.mono HB.out.size)); replace kx := Lib.hid (kx.out.keep hb1); replace HT := Lib.hid (HT.out.keep hb1); clear hb1)
            rw [hv]
            clear c0
            have c1 := kx.out.cell (i := 1) rfl
            go_wp2_with fail
            (((with_reducible refine (I.out _ _).mono ?_); rintro e w2 ⟨rfl, hb2⟩); replace HB := Lib.hid (HB.out.trans (hb2.mono HB.out.size)); replace kx := Lib.hid (kx.out.keep hb2); replace HT := Lib.hid (HT.out.keep hb2); clear hb2)
            rw [htt]
            clear c1
            have c2 := kx.out.cell (i := 2) rfl
            go_wp2_with fail
            (((with_reducible refine (I.out _ _).mono ?_); rintro e w3 ⟨rfl, hb3⟩); replace HB := Lib.hid (HB.out.trans (hb3.mono HB.out.size)); replace kx := Lib.hid (kx.out.keep hb3); replace HT := Lib.hid (HT.out.keep hb3); clear hb3)
            rw [hn]
            clear c2
            have c0 := kx.out.cell (i := 0) rfl
            go_wp2_with fail
            (((with_reducible refine (D0.out _ HT.out).mono ?_); rintro e w5 ⟨rfl, hb5⟩); replace HB := Lib.hid (HB.out.trans (hb5.mono HB.out.size)); replace kx := Lib.hid (kx.out.keep hb5); replace HT := Lib.hid (HT.out.keep hb5); clear hb5)
            clear c0
            have c1 := kx.out.cell (i := 1) rfl
            have c2 := kx.out.cell (i := 2) rfl
            go_wp2_with fail
            (((with_reducible refine (D1.out _ HT.out).mono ?_); rintro e w6 ⟨rfl, hb6⟩); replace HB := Lib.hid (HB.out.trans (hb6.mono HB.out.size)); replace kx := Lib.hid (kx.out.keep hb6); replace HT := Lib.hid (HT.out.keep hb6); clear hb6)
            clear c1 c2
            have c2 := kx.out.cell (i := 2) rfl
            go_wp2_with fail
            (((with_reducible refine (D2.out _ HT.out).mono ?_); rintro e w7 ⟨rfl, hb7⟩); replace HB := Lib.hid (HB.out.trans (hb7.mono HB.out.size)); replace kx := Lib.hid (kx.out.keep hb7); replace HT := Lib.hid (HT.out.keep hb7); clear hb7)
            clear c2
            go_wp2_with fail
            go_ret2
            exact ⟨by rw [PC.out]; show _ = Ending.returned (.tuple #[.string ⟨(textC _ _ _).toArray⟩, .int .i64 0]); rw [TX.out]; rfl, HB.out⟩
end Go.Proofs.YtlpfijdjkaijeaaDoor
