/-
  The law's far; FaceDoes.
-/
import Derived.Test.YtlpfijdjkaijeaaDoorFcO
namespace Go.Proofs.YtlpfijdjkaijeaaDoor
open Go.RowKit

def RetFar (F : Nat → ByteArray) (n : Nat) (w : World) (e : Ending) (w' : World) : Prop :=
  Below w.heap.size w w' ∧ (e = .returned (.bool true) ∨ (e = .returned (.bool false) ∧ n ≤ 30 ∧ ∀ i, i < n → (F i).size ≤ 100))
set_option maxRecDepth 100000 in
set_option maxHeartbeats 1000000 in
theorem far_any (A : Option Addr) (n c : Nat) (F : Nat → ByteArray) (w : World) (hr : RowS w A n c F) (hn : n ≤ 9223372036854775807) :
    Calls Tryd.prog 8 #[.slice A n c] w (RetFar F n w) := by
  have R := Lib.hid hr
  have HB := Lib.hid (Below.refl w.heap.size w)
  clear hr
  go_enter Tryd.func8, Tryd.ntmps8
  go_wp2_with fail
  go_loopw [3] (fun x wr => ∃ k : Nat, x = .int .i64 k ∧ k ≤ n ∧ (∀ i, i < k → (F i).size ≤ 100) ∧ Below w.heap.size w wr) (fun x _ => n - (intOf x).toNat)
  case atStart => exact ⟨0, rfl, Nat.zero_le _, fun i hi => by omega, HB.out⟩
  case round =>
    clear HB
    obtain ⟨k, rfl, hk, hA, hB⟩ := hrel
    have HB := Lib.hid hB
    have HA := Lib.hid hA
    clear hB hA
    by_cases hlt : k < n
    · obtain ⟨b, off, rfl, hl, hc⟩ := (R.out.keep HB.out).at hlt
      have c1 := hc k hlt
      have i0 : (0 : Int) ≤ (k : Int) := by omega
      have i1 : (k : Int) < n := by omega
      obtain ⟨S, hS⟩ : ∃ S, F k = S := ⟨_, rfl⟩
      rw [hS] at c1
      have HSS := Lib.hid hS
      clear hc hS
      by_cases h : 100 < S.size
      · have h' : (100 : Int) < S.size := by omega
        go_wp2_with fail
        go_ret
        exact ⟨HB.out, .inl rfl⟩
      · have h' : ¬ (100 : Int) < S.size := by omega
        go_wp2_with fail
        go_roundw
        case rel => exact ⟨k + 1, by go_num, hlt, fun i hi => by rcases (by omega : i < k ∨ i = k) with q | q; exact HA.out i q; subst q; rw [HSS.out]; omega, HB.out⟩
        case measure => simp [intOf]; omega
    · obtain rfl : k = n := by omega
      by_cases h : 30 < k
      · have h' : (30 : Int) < k := by omega
        have h'' : decide ((30 : Int) < k) = true := decide_eq_true h'
        go_wp2_with fail
        go_ret
        exact ⟨HB.out, .inl rfl⟩
      · have h' : ¬ (30 : Int) < k := by omega
        have h'' : decide ((30 : Int) < k) = false := decide_eq_false h'
        go_wp2_with fail
        go_ret
        exact ⟨HB.out, .inr ⟨rfl, by omega, HA.out⟩⟩
theorem rowK_none (W : World) (k : Nat) (F : Nat → Nat → Int) : RowK W none 0 k F := Or.inl rfl
theorem rcorner_lit (s : ByteArray) (v t n a b c x : Int) (h : cornerS s.data.toList v t n = (a, b, c, x)) (hs : s.size ≤ 100) (bv : -9223372036854775808 ≤ v ∧ v ≤ 9223372036854775807) (bt : -9223372036854775808 ≤ t ∧ t ≤ 9223372036854775807) (bn : -9223372036854775808 ≤ n ∧ n ≤ 9223372036854775807) (w : World) :
    Calls Tryd.prog 10 #[.string s, .int .i64 v, .int .i64 t, .int .i64 n] w fun e w' => e = .returned (.tuple #[.agg #[.int .i64 a, .int .i64 b, .int .i64 c], .int .i64 x]) ∧ Below w.heap.size w w' := by
  have k := rcorner_any s v t n w hs bv bt bn
  rw [h] at k
  exact k
theorem rprint_lit (v t n : Int) (l : List UInt8) (x : Int) (h : printC v t n = (l, x)) (w : World) :
    Calls Tryd.prog 14 #[.agg #[.int .i64 v, .int .i64 t, .int .i64 n]] w fun e w' => e = .returned (.tuple #[.string ⟨l.toArray⟩, .int .i64 x]) ∧ Below w.heap.size w w' := by
  have k := rprint_f v t n w
  rw [h] at k
  exact k
theorem place_lit (s : ByteArray) (m p x : Int) (h : placeS s.data.toList m = (p, x)) (b0 : -9223372036854775808 ≤ m ∧ m ≤ 9223372036854775807) (w : World) :
    Calls Tryd.prog 11 #[.string s, .int .i64 m] w fun e w' => e = .returned (.tuple #[.int .i64 p, .int .i64 x]) ∧ Below w.heap.size w w' := by
  have k := place_any s m w b0
  rw [h] at k
  exact k
theorem rplace_lit (s : ByteArray) (m p x : Int) (h : placeS s.data.toList m = (p, x)) (b0 : -9223372036854775808 ≤ m ∧ m ≤ 9223372036854775807) (hs : s.size ≤ 100) (w : World) :
    Calls Tryd.prog 12 #[.string s, .int .i64 m] w fun e w' => e = .returned (.tuple #[.int .i64 p, .int .i64 x]) ∧ Below w.heap.size w w' := by
  have k := rplace_any s m w b0 hs
  rw [h] at k
  exact k

set_option maxRecDepth 100000 in
set_option maxHeartbeats 8000000 in
theorem law_does (s : ByteArray) (v t n x0 x1 x2 : Int) (A : Option Addr) (N c : Nat) (F : Nat → ByteArray) (B : Option Addr) (M d : Nat) (G : Nat → Nat → Int) (w : World) (hr : RowS w A N c F) (hN : N ≤ 9223372036854775807) (hg : RowK w B M 3 G) (hM : M ≤ 9223372036854775807) (ht : Tab w)
    (bv : -9223372036854775808 ≤ v ∧ v ≤ 9223372036854775807) (bt : -9223372036854775808 ≤ t ∧ t ≤ 9223372036854775807) (bn : -9223372036854775808 ≤ n ∧ n ≤ 9223372036854775807) :
    Calls Tryd.prog 3 #[.string s, .int .i64 v, .int .i64 t, .int .i64 n, .agg #[.int .i64 x0, .int .i64 x1, .int .i64 x2], .slice A N c, .slice B M d] w fun e w' => e = .returned (.bool true) ∧ Below w.heap.size w w' := by
  have HT := Lib.hid ht
  have RS := Lib.hid hr
  have RK := Lib.hid hg
  have FA := Lib.hid (fun W h => far_any A N c F W h hN)
  have BV := Lib.hid bv
  have BT := Lib.hid bt
  have BN := Lib.hid bn
  clear ht hr hg bv bt bn
  by_cases hs : 100 < s.size
  · have hs1 : (100 : Int) < s.size := by omega
    have hs2 : decide ((100 : Int) < s.size) = true := decide_eq_true hs1
    go_enter Tryd.func3, Tryd.ntmps3
    go_upto_region 1 with fail
    have hbc := below_new1 w (.cells #[.int .i64 x0, .int .i64 x1, .int .i64 x2] 23)
    have zc : (w.alloc (.cells #[.int .i64 x0, .int .i64 x1, .int .i64 x2] 23)).heap.size = w.heap.size + 1 := by simp
    have HB := Lib.hid hbc
    have kc := Lib.hid (Lok.new w 23 #[.int .i64 x0, .int .i64 x1, .int .i64 x2])
    clear hbc
    generalize w.alloc (.cells #[.int .i64 x0, .int .i64 x1, .int .i64 x2] 23) = Vc at *
    clear zc
    go_wp2_with fail
    go_ret
    exact ⟨rfl, HB.out⟩
  · have hs1 : ¬ (100 : Int) < s.size := by omega
    have hs2 : decide ((100 : Int) < s.size) = false := decide_eq_false hs1
    go_enter Tryd.func3, Tryd.ntmps3
    go_upto_region 1 with fail
    have hbc := below_new1 w (.cells #[.int .i64 x0, .int .i64 x1, .int .i64 x2] 23)
    replace HT := Lib.hid (HT.out.keep hbc)
    replace RS := Lib.hid (RS.out.keep hbc)
    replace RK := Lib.hid (RK.out.keep hbc)
    have zc : (w.alloc (.cells #[.int .i64 x0, .int .i64 x1, .int .i64 x2] 23)).heap.size = w.heap.size + 1 := by simp
    have HB := Lib.hid hbc
    have kc := Lib.hid (Lok.new w 23 #[.int .i64 x0, .int .i64 x1, .int .i64 x2])
    clear hbc
    generalize w.alloc (.cells #[.int .i64 x0, .int .i64 x1, .int .i64 x2] 23) = Vc at *
    clear zc
    go_wp2_with fail
    (with_reducible refine (FA.out _ RS.out).mono ?_); rintro e w1 ⟨hb, rfl | ⟨rfl, hN30, hF⟩⟩
    all_goals
      replace HB := Lib.hid (HB.out.trans (hb.mono HB.out.size))
      replace kc := Lib.hid (kc.out.keep hb)
      replace HT := Lib.hid (HT.out.keep hb)
      replace RS := Lib.hid (RS.out.keep hb)
      replace RK := Lib.hid (RK.out.keep hb)
      clear hb FA
    · go_wp2_with fail
      go_ret
      exact ⟨rfl, HB.out⟩
    · by_cases hm : 60 < M
      · have hm1 : (60 : Int) < M := by omega
        have hm2 : decide ((60 : Int) < M) = true := decide_eq_true hm1
        go_wp2_with fail
        go_ret
        exact ⟨rfl, HB.out⟩
      · have hm1 : ¬ (60 : Int) < M := by omega
        have hm2 : decide ((60 : Int) < M) = false := decide_eq_false hm1
        obtain ⟨ca, hca⟩ : ∃ x, cornerS s.data.toList v t n = x := ⟨_, rfl⟩
        obtain ⟨a0, a1, a2, a3⟩ := ca
        obtain ⟨pa, hpa⟩ : ∃ x, placeS s.data.toList v = x := ⟨_, rfl⟩
        obtain ⟨p0, p1⟩ := pa
        obtain ⟨ta, hta⟩ : ∃ x, printC x0 x1 x2 = x := ⟨_, rfl⟩
        obtain ⟨tl, te⟩ := ta
        have C1 := Lib.hid (corner_lit s v t n a0 a1 a2 a3 hca (by omega) BV.out BT.out BN.out)
        have C2 := Lib.hid (rcorner_lit s v t n a0 a1 a2 a3 hca (by omega) BV.out BT.out BN.out)
        have P1 := Lib.hid (place_lit s v p0 p1 hpa BV.out)
        have P2 := Lib.hid (rplace_lit s v p0 p1 hpa BV.out (by omega))
        have T1 := Lib.hid (print_lit x0 x1 x2 tl te hta)
        have T2 := Lib.hid (rprint_lit x0 x1 x2 tl te hta)
        have F1 := Lib.hid (fun W (h : RowS W A N c F) => face_any v t n A N c F W h (by omega) (fun i hi => Nat.le_trans (hF i hi) (by decide)) BV.out BT.out BN.out)
        have F2 := Lib.hid (fun W (h : RowS W A N c F) => rface_any v t n A N c F W h (by omega) hF BV.out BT.out BN.out)
        have Q1 := Lib.hid (fun W (h : RowK W B M 3 G) => fan_any B M d G W h (by omega))
        have Q2 := Lib.hid (fun W (h : RowK W B M 3 G) => rfan_any B M d G W h (by omega))
        have FD := Lib.hid faced_any
        have S9 := Lib.hid same9
        have NM : N ≤ 30 ∧ M ≤ 60 := by omega
        clear hca hpa hta hF BV BT BN
        obtain ⟨ts, hts⟩ : ∃ x : ByteArray, (⟨tl.toArray⟩ : ByteArray) = x := ⟨_, rfl⟩
        rw [hts] at T1 T2
        clear hts
        go_wp2_with fail
        (((with_reducible refine (C1.out _).mono ?_); rintro e w3 ⟨rfl, hb3⟩); replace HB := Lib.hid (HB.out.trans (hb3.mono HB.out.size)); replace HT := Lib.hid (HT.out.keep hb3); replace RS := Lib.hid (RS.out.keep hb3); replace RK := Lib.hid (RK.out.keep hb3); replace kc := Lib.hid (kc.out.keep hb3); clear hb3)
        go_upto_region 4 with fail
        have hba := below_new1 w3 (.cells #[.int .i64 a0, .int .i64 a1, .int .i64 a2] 23)
        replace HT := Lib.hid (HT.out.keep hba)
        replace RS := Lib.hid (RS.out.keep hba)
        replace RK := Lib.hid (RK.out.keep hba)
        replace kc := Lib.hid (kc.out.keep hba)
        have za : (w3.alloc (.cells #[.int .i64 a0, .int .i64 a1, .int .i64 a2] 23)).heap.size = w3.heap.size + 1 := by simp
        replace HB := Lib.hid (HB.out.trans (hba.mono HB.out.size))
        have ka := Lib.hid (Lok.new w3 23 #[.int .i64 a0, .int .i64 a1, .int .i64 a2])
        clear hba
        generalize w3.alloc (.cells #[.int .i64 a0, .int .i64 a1, .int .i64 a2] 23) = Va at *
        clear za
        generalize w3.heap.size = ga at *
        go_wp2_with fail
        (((with_reducible refine (C2.out _).mono ?_); rintro e w4 ⟨rfl, hb4⟩); replace HB := Lib.hid (HB.out.trans (hb4.mono HB.out.size)); replace HT := Lib.hid (HT.out.keep hb4); replace RS := Lib.hid (RS.out.keep hb4); replace RK := Lib.hid (RK.out.keep hb4); replace kc := Lib.hid (kc.out.keep hb4); replace ka := Lib.hid (ka.out.keep hb4); clear hb4)
        go_upto_region 5 with fail
        have hbb := below_new1 w4 (.cells #[.int .i64 a0, .int .i64 a1, .int .i64 a2] 23)
        replace HT := Lib.hid (HT.out.keep hbb)
        replace RS := Lib.hid (RS.out.keep hbb)
        replace RK := Lib.hid (RK.out.keep hbb)
        replace kc := Lib.hid (kc.out.keep hbb)
        replace ka := Lib.hid (ka.out.keep hbb)
        have zb : (w4.alloc (.cells #[.int .i64 a0, .int .i64 a1, .int .i64 a2] 23)).heap.size = w4.heap.size + 1 := by simp
        replace HB := Lib.hid (HB.out.trans (hbb.mono HB.out.size))
        have kb := Lib.hid (Lok.new w4 23 #[.int .i64 a0, .int .i64 a1, .int .i64 a2])
        clear hbb
        generalize w4.alloc (.cells #[.int .i64 a0, .int .i64 a1, .int .i64 a2] 23) = Vb at *
        clear zb
        generalize w4.heap.size = gb at *
        go_wp2_with fail
        (((with_reducible refine (P1.out _).mono ?_); rintro e w5 ⟨rfl, hb5⟩); replace HB := Lib.hid (HB.out.trans (hb5.mono HB.out.size)); replace HT := Lib.hid (HT.out.keep hb5); replace RS := Lib.hid (RS.out.keep hb5); replace RK := Lib.hid (RK.out.keep hb5); replace kc := Lib.hid (kc.out.keep hb5); replace ka := Lib.hid (ka.out.keep hb5); replace kb := Lib.hid (kb.out.keep hb5); clear hb5)
        go_wp2_with fail
        (((with_reducible refine (P2.out _).mono ?_); rintro e w6 ⟨rfl, hb6⟩); replace HB := Lib.hid (HB.out.trans (hb6.mono HB.out.size)); replace HT := Lib.hid (HT.out.keep hb6); replace RS := Lib.hid (RS.out.keep hb6); replace RK := Lib.hid (RK.out.keep hb6); replace kc := Lib.hid (kc.out.keep hb6); replace ka := Lib.hid (ka.out.keep hb6); replace kb := Lib.hid (kb.out.keep hb6); clear hb6)
        have y0 := kc.out.cell (i := 0) rfl
        have y1 := kc.out.cell (i := 1) rfl
        have y2 := kc.out.cell (i := 2) rfl
        go_wp2_with fail
        (((with_reducible refine (T1.out _ HT.out).mono ?_); rintro e w7 ⟨rfl, hb7⟩); replace HB := Lib.hid (HB.out.trans (hb7.mono HB.out.size)); replace HT := Lib.hid (HT.out.keep hb7); replace RS := Lib.hid (RS.out.keep hb7); replace RK := Lib.hid (RK.out.keep hb7); replace kc := Lib.hid (kc.out.keep hb7); replace ka := Lib.hid (ka.out.keep hb7); replace kb := Lib.hid (kb.out.keep hb7); clear hb7)
        clear y0 y1 y2
        have y0 := kc.out.cell (i := 0) rfl
        have y1 := kc.out.cell (i := 1) rfl
        have y2 := kc.out.cell (i := 2) rfl
        go_wp2_with fail
        (((with_reducible refine (T2.out _).mono ?_); rintro e w8 ⟨rfl, hb8⟩); replace HB := Lib.hid (HB.out.trans (hb8.mono HB.out.size)); replace HT := Lib.hid (HT.out.keep hb8); replace RS := Lib.hid (RS.out.keep hb8); replace RK := Lib.hid (RK.out.keep hb8); replace ka := Lib.hid (ka.out.keep hb8); replace kb := Lib.hid (kb.out.keep hb8); clear hb8)
        clear y0 y1 y2 kc
        go_wp2_with fail
        (with_reducible refine (F1.out _ RS.out).mono ?_); rintro e w9 ⟨hb, ⟨h0, rfl⟩ | ⟨h0, h3, al, cl, rfl, hrl, -⟩⟩
        all_goals
          replace HB := Lib.hid (HB.out.trans (hb.mono HB.out.size))
          replace HT := Lib.hid (HT.out.keep hb)
          replace RS := Lib.hid (RS.out.keep hb)
          replace RK := Lib.hid (RK.out.keep hb)
          replace ka := Lib.hid (ka.out.keep hb)
          replace kb := Lib.hid (kb.out.keep hb)
        · clear hb F1
          go_wp2_with fail
          (with_reducible refine (F2.out _ RS.out).mono ?_); rintro e w10 ⟨hb, ⟨h0', rfl⟩ | ⟨h0', -, -⟩⟩
          · replace HB := Lib.hid (HB.out.trans (hb.mono HB.out.size))
            replace HT := Lib.hid (HT.out.keep hb)
            replace RK := Lib.hid (RK.out.keep hb)
            replace ka := Lib.hid (ka.out.keep hb)
            replace kb := Lib.hid (kb.out.keep hb)
            obtain ⟨fe, hfe⟩ : ∃ x, faceE F v t n N = x := ⟨_, rfl⟩
            rw [hfe]
            clear hb F2 RS h0 h0' hfe
            go_wp2_with fail
            (((with_reducible refine (FD.out _ HT.out).mono ?_); rintro e w11 ⟨rfl, hb11⟩); replace HB := Lib.hid (HB.out.trans (hb11.mono HB.out.size)); replace ka := Lib.hid (ka.out.keep hb11); replace kb := Lib.hid (kb.out.keep hb11); replace RK := Lib.hid (RK.out.keep hb11); clear hb11)
            have y0 := ka.out.cell (i := 0) rfl
            have y1 := ka.out.cell (i := 1) rfl
            have y2 := ka.out.cell (i := 2) rfl
            have z0 := kb.out.cell (i := 0) rfl
            have z1 := kb.out.cell (i := 1) rfl
            have z2 := kb.out.cell (i := 2) rfl
            go_wp2_with fail
            (((with_reducible refine (S9.out none none 0 0 0 (fun _ _ => 0) _ (rowK_none _ _ _) (rowK_none _ _ _) (by decide)).mono ?_); rintro e w12 ⟨rfl, hb12⟩); replace HB := Lib.hid (HB.out.trans (hb12.mono HB.out.size)); replace RK := Lib.hid (RK.out.keep hb12); clear hb12)
            clear y0 y1 y2 z0 z1 z2 ka kb
            go_wp2_with fail
            (with_reducible refine (Q1.out _ RK.out).mono ?_); rintro e w13 ⟨hb, af, cf, rfl, hrf, -⟩
            replace HB := Lib.hid (HB.out.trans (hb.mono HB.out.size))
            replace RK := Lib.hid (RK.out.keep hb)
            have RF := Lib.hid hrf
            clear hb hrf
            go_wp2_with fail
            (with_reducible refine (Q2.out _ RK.out).mono ?_); rintro e w14 ⟨hb, ag, cg, rfl, hrg, -⟩
            replace HB := Lib.hid (HB.out.trans (hb.mono HB.out.size))
            replace RF := Lib.hid (RF.out.keep hb)
            have RG := Lib.hid hrg
            clear hb hrg
            go_wp2_with fail
            (((with_reducible refine (S9.out _ _ (M - 2) _ _ _ _ RF.out RG.out (by omega)).mono ?_); rintro e w15 ⟨rfl, hb15⟩); replace HB := Lib.hid (HB.out.trans (hb15.mono HB.out.size)); clear hb15)
            go_wp2_with fail
            go_ret
            exact ⟨rfl, HB.out⟩
          · exact absurd h0' h0
        · have RL := Lib.hid hrl
          clear hb F1 hrl
          go_wp2_with fail
          (with_reducible refine (F2.out _ RS.out).mono ?_); rintro e w10 ⟨hb, ⟨h0', -⟩ | ⟨h0', -, am, cm, rfl, hrm, -⟩⟩
          · exact absurd h0 h0'
          · replace HB := Lib.hid (HB.out.trans (hb.mono HB.out.size))
            replace HT := Lib.hid (HT.out.keep hb)
            replace RK := Lib.hid (RK.out.keep hb)
            replace ka := Lib.hid (ka.out.keep hb)
            replace kb := Lib.hid (kb.out.keep hb)
            replace RL := Lib.hid (RL.out.keep hb)
            have RM := Lib.hid hrm
            clear hb F2 RS h0 h0' hrm
            go_wp2_with fail
            (((with_reducible refine (FD.out _ HT.out).mono ?_); rintro e w11 ⟨rfl, hb11⟩); replace HB := Lib.hid (HB.out.trans (hb11.mono HB.out.size)); replace ka := Lib.hid (ka.out.keep hb11); replace kb := Lib.hid (kb.out.keep hb11); replace RK := Lib.hid (RK.out.keep hb11); replace RL := Lib.hid (RL.out.keep hb11); replace RM := Lib.hid (RM.out.keep hb11); clear hb11)
            have y0 := ka.out.cell (i := 0) rfl
            have y1 := ka.out.cell (i := 1) rfl
            have y2 := ka.out.cell (i := 2) rfl
            have z0 := kb.out.cell (i := 0) rfl
            have z1 := kb.out.cell (i := 1) rfl
            have z2 := kb.out.cell (i := 2) rfl
            go_wp2_with fail
            (((with_reducible refine (S9.out _ _ (N - 2) _ _ _ _ RL.out RM.out (by omega)).mono ?_); rintro e w12 ⟨rfl, hb12⟩); replace HB := Lib.hid (HB.out.trans (hb12.mono HB.out.size)); replace RK := Lib.hid (RK.out.keep hb12); clear hb12)
            clear y0 y1 y2 z0 z1 z2 ka kb
            go_wp2_with fail
            (with_reducible refine (Q1.out _ RK.out).mono ?_); rintro e w13 ⟨hb, af, cf, rfl, hrf, -⟩
            replace HB := Lib.hid (HB.out.trans (hb.mono HB.out.size))
            replace RK := Lib.hid (RK.out.keep hb)
            have RF := Lib.hid hrf
            clear hb hrf
            go_wp2_with fail
            (with_reducible refine (Q2.out _ RK.out).mono ?_); rintro e w14 ⟨hb, ag, cg, rfl, hrg, -⟩
            replace HB := Lib.hid (HB.out.trans (hb.mono HB.out.size))
            replace RF := Lib.hid (RF.out.keep hb)
            have RG := Lib.hid hrg
            clear hb hrg
            go_wp2_with fail
            (((with_reducible refine (S9.out _ _ (M - 2) _ _ _ _ RF.out RG.out (by omega)).mono ?_); rintro e w15 ⟨rfl, hb15⟩); replace HB := Lib.hid (HB.out.trans (hb15.mono HB.out.size)); clear hb15)
            go_wp2_with fail
            go_ret
            exact ⟨rfl, HB.out⟩
end Go.Proofs.YtlpfijdjkaijeaaDoor
