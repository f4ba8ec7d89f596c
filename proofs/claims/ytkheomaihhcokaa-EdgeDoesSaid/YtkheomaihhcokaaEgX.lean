/-
  The law EdgeDoes. (gen/EgX.py)
-/
import Derived.Test.YtkheomaihhcokaaEgO
import Derived.Test.YtkheomaihhcokaaEgKT
namespace Go.Proofs.Ytkheomaihhcokaa
open Go.RowKit

theorem lok_above {V W : World} {lo g : Nat} {t : TypeId} {cs : Array Value} (h : Lok V g t cs) (hl : lo ≤ g) (hA : AbP lo V W) : Lok W g t cs := (hA.2 g hl h.lt).trans h
theorem rowE_one {W : World} {g m c : Nat} {t : Option Addr} {x y : Int} {l : List Int} (h : Lok W g 39 #[.int .i64 x, .int .i64 y, .slice t m c]) (hr : RowI W t m l) (ht : t = none → m = 0 ∧ c = 0) (hm : m ≤ c) (hc : c ≤ 9223372036854775807) : RowE W (some ⟨g, 0, none⟩) 1 [(x, y, l)] := by
  refine ⟨rfl, .inr ⟨g, 0, rfl, h.lt, fun i hi => ?_⟩⟩
  have h0 : i = 0 := by simpa using hi
  subst h0
  exact ⟨h.cell rfl, h.cell rfl, t, m, c, h.cell rfl, hr, ht, hm, hc⟩
theorem ownE_one {W : World} {B g : Nat} {v : Value} {x y : Int} {l : List Int} (h : Lok W g 39 #[.int .i64 x, .int .i64 y, v]) (hg : B ≤ g) (ho : OwnI W B v l) : OwnE W B (.slice (some ⟨g, 0, none⟩) 1 1) [(x, y, l, v)] := by
  refine ⟨⟨rfl, .inr ⟨g, 1, _, rfl, hg, h, Nat.le_refl _, by unfold maxLen; omega, rfl, rfl⟩⟩, fun z hz => ?_⟩
  obtain rfl : z = (x, y, l, v) := by simpa using hz
  refine ⟨ho, fun g' e q => ?_⟩
  cases q
  obtain ⟨_, ⟨hv, _⟩ | ⟨g2, cap, cur, hv, _, hh, _⟩⟩ := ho
  · rw [hv] at e; cases e
  · rw [hv] at e
    cases e
    exact lok_apart h hh (by decide) rfl
set_option maxRecDepth 100000 in
set_option maxHeartbeats 32000000 in
theorem law_does (pa1 pa2 pa3 pa4 : Option Addr) (n1 n2 n3 n4 c1 c2 c3 c4 : Nat) (FV FT FN FC : Nat → Nat → Int) (i : Int) (a : Option Addr) (n c : Nat) (L : List (Int × Int × List Int)) (p q : Int) (w : World) (hm : RowK w pa1 n1 3 FV ∧ RowK w pa2 n2 2 FT ∧ RowK w pa3 n3 3 FN ∧ RowK w pa4 n4 9 FC) (hl : RowE w a n L) (hn : n ≤ 9223372036854775807) :
    Calls Try.prog 3 #[.agg #[.slice pa1 n1 c1, .slice pa2 n2 c2, .slice pa3 n3 c3, .slice pa4 n4 c4], .int .i64 i, .slice a n c, .int .i64 p, .int .i64 q] w fun e w' => e = .returned (.bool true) ∧ Below w.heap.size w w' := by
  have HB := Lib.hid (Below.refl w.heap.size w)
  have FW := Lib.hid (fun W => rfew_any pa1 pa2 pa3 pa4 n1 n2 n3 n4 c1 c2 c3 c4 W)
  have BG := Lib.hid (fun W (h : Below w.heap.size w W) => rbig_edges a n c L W (hl.keep h) hn)
  have ED := Lib.hid (edged_any edge_ok)
  have RL := Lib.hid (fun W (h : Below w.heap.size w W) => hl.keep h)
  have hln := Lib.hid hl.1
  clear hl
  cases hf : fwB n1 n2 n3 n4 with
  | false =>
    rw [hf] at FW
    go_enter Try.func3, Try.ntmps3
    go_upto_region 1 with fail
    have hbm := below_new1 w (.cells #[.slice pa1 n1 c1, .slice pa2 n2 c2, .slice pa3 n3 c3, .slice pa4 n4 c4] 26)
    have zm : (w.alloc (.cells #[.slice pa1 n1 c1, .slice pa2 n2 c2, .slice pa3 n3 c3, .slice pa4 n4 c4] 26)).heap.size = w.heap.size + 1 := by simp
    have HB := Lib.hid hbm
    have km := Lib.hid (Lok.new w 26 #[.slice pa1 n1 c1, .slice pa2 n2 c2, .slice pa3 n3 c3, .slice pa4 n4 c4])
    clear hbm
    generalize w.alloc (.cells #[.slice pa1 n1 c1, .slice pa2 n2 c2, .slice pa3 n3 c3, .slice pa4 n4 c4] 26) = Vm at *
    clear zm
    have m0 := km.out.cell (i := 0) rfl
    have m1 := km.out.cell (i := 1) rfl
    have m2 := km.out.cell (i := 2) rfl
    have m3 := km.out.cell (i := 3) rfl
    go_wp2_with fail
    clear m0 m1 m2 m3
    (((with_reducible refine (FW.out _).mono ?_); rintro e w1 ⟨rfl, hb1⟩); replace HB := Lib.hid (HB.out.trans (hb1.mono HB.out.size)); replace km := Lib.hid (km.out.keep hb1); clear hb1)
    clear km
    go_wp2
    go_ret
    exact ⟨rfl, HB.out⟩
  | true =>
    have hq := fw_yes hf
    rw [hf] at FW
    have M := Lib.hid (show MsW w pa1 pa2 pa3 pa4 n1 n2 n3 n4 FV FT FN FC from ⟨hm, by omega, by omega, by omega, by omega⟩)
    clear hf hm
    cases hb : bigB L with
    | true =>
      rw [hb] at BG
      go_enter Try.func3, Try.ntmps3
      go_upto_region 1 with fail
      have hbm := below_new1 w (.cells #[.slice pa1 n1 c1, .slice pa2 n2 c2, .slice pa3 n3 c3, .slice pa4 n4 c4] 26)
      have zm : (w.alloc (.cells #[.slice pa1 n1 c1, .slice pa2 n2 c2, .slice pa3 n3 c3, .slice pa4 n4 c4] 26)).heap.size = w.heap.size + 1 := by simp
      have HB := Lib.hid hbm
      have km := Lib.hid (Lok.new w 26 #[.slice pa1 n1 c1, .slice pa2 n2 c2, .slice pa3 n3 c3, .slice pa4 n4 c4])
      clear hbm
      generalize w.alloc (.cells #[.slice pa1 n1 c1, .slice pa2 n2 c2, .slice pa3 n3 c3, .slice pa4 n4 c4] 26) = Vm at *
      clear zm
      have m0 := km.out.cell (i := 0) rfl
      have m1 := km.out.cell (i := 1) rfl
      have m2 := km.out.cell (i := 2) rfl
      have m3 := km.out.cell (i := 3) rfl
      go_wp2_with fail
      clear m0 m1 m2 m3
      (((with_reducible refine (FW.out _).mono ?_); rintro e w1 ⟨rfl, hb1⟩); replace HB := Lib.hid (HB.out.trans (hb1.mono HB.out.size)); replace km := Lib.hid (km.out.keep hb1); clear hb1)
      clear km
      go_wp2_with fail
      (((with_reducible refine (BG.out _ HB.out).mono ?_); rintro e w2 ⟨rfl, hb2⟩); replace HB := Lib.hid (HB.out.trans (hb2.mono HB.out.size)); clear hb2)
      go_wp2
      go_ret
      exact ⟨rfl, HB.out⟩
    | false =>
      rw [hb] at BG
      obtain ⟨hn60, h60⟩ := big_no hb
      rw [hln.out] at hn60
      have H60 := Lib.hid h60
      clear hb h60
      have L60 : Hid (∀ e ∈ lsL L, e.2.2.length ≤ 60) := Lib.hid (fun e he => H60.out e (List.mem_filter.1 he).1)
      have LS : (lsL L).length ≤ 60 := by
        have z := ls_len L n
        rw [List.take_of_length_le (Nat.le_of_eq hln.out)] at z
        omega
      have LE : (egA (msB n1 n2 n3 n4 FV FT FN FC) FC n4 n1).length ≤ 400 := by
        unfold egA
        split
        · exact Nat.le_trans (eaL_len FC n4 n1 n1) (Nat.le_trans (Nat.mul_le_mul hq.1 hq.1) (by decide))
        · exact Nat.zero_le _
      have AL := Lib.hid (fun W (h : Below w.heap.size w W) => rall_edges a n c L W (RL.out W h) hn60 H60.out)
      have LO := Lib.hid (fun W (h : Below w.heap.size w W) => loose_any a n c L W (RL.out W h) hn60 H60.out)
      have FI := Lib.hid (fun W (h : Below w.heap.size w W) => find_any a n c L p q W (RL.out W h) (by omega) H60.out)
      have FR := Lib.hid (fun (a' : Option Addr) (c' : Nat) W (h : RowE W a' n L) => rfind_edges a' n c' L p q W h hn60 H60.out)
      have LR := Lib.hid (fun (a' : Option Addr) (c' : Nat) W (h : RowE W a' n L) => rloose_edges a' n c' L W h hn60 H60.out)
      have EG := Lib.hid (fun W (h : Below w.heap.size w W) => edgesE_any pa1 pa2 pa3 pa4 n1 n2 n3 n4 c1 c2 c3 c4 FV FT FN FC W (M.out.keep h) hq.1)
      have ER := Lib.hid (fun W (h : Below w.heap.size w W) => redges_any pa1 pa2 pa3 pa4 n1 n2 n3 n4 c1 c2 c3 c4 FV FT FN FC W (M.out.keep h) hq.1)
      have NX := Lib.hid (fun W (h : Below w.heap.size w W) => nextE_any pa1 pa2 pa3 pa4 n1 n2 n3 n4 c1 c2 c3 c4 FV FT FN FC i W (M.out.keep h))
      have NR := Lib.hid (fun W (h : Below w.heap.size w W) => rnextL_any pa1 pa2 pa3 pa4 n1 n2 n3 n4 c1 c2 c3 c4 FV FT FN FC i W (M.out.keep h))
      have PA := Lib.hid (fun W (h : Below w.heap.size w W) => partsE_any pa1 pa2 pa3 pa4 n1 n2 n3 n4 c1 c2 c3 c4 FV FT FN FC W (M.out.keep h))
      have PR := Lib.hid (fun W (h : Below w.heap.size w W) => rparts_any pa1 pa2 pa3 pa4 n1 n2 n3 n4 c1 c2 c3 c4 FV FT FN FC W (M.out.keep h))
      clear M
      generalize nxA (okN (msB n1 n2 n3 n4 FV FT FN FC) i n4) FC i n4 = LN at NX NR
      generalize agE (okN (msB n1 n2 n3 n4 FV FT FN FC) i n4) = eN at NX NR
      generalize ptA (msB n1 n2 n3 n4 FV FT FN FC) FC n4 = LP at PA PR
      generalize egA (msB n1 n2 n3 n4 FV FT FN FC) FC n4 n1 = LG at EG ER LE
      generalize agE (msB n1 n2 n3 n4 FV FT FN FC) = eE at EG ER PA PR
      generalize fdV (L.find? (fdB p q)) = fe at FI FR
      generalize (L.find? (fdB p q)).isSome = fb at FI FR
      obtain ⟨x, y, l⟩ := fe
      dsimp only at FI FR
      go_enter Try.func3, Try.ntmps3
      go_upto_region 1 with fail
      have hbm := below_new1 w (.cells #[.slice pa1 n1 c1, .slice pa2 n2 c2, .slice pa3 n3 c3, .slice pa4 n4 c4] 26)
      have zm : (w.alloc (.cells #[.slice pa1 n1 c1, .slice pa2 n2 c2, .slice pa3 n3 c3, .slice pa4 n4 c4] 26)).heap.size = w.heap.size + 1 := by simp
      have HB := Lib.hid hbm
      have km := Lib.hid (Lok.new w 26 #[.slice pa1 n1 c1, .slice pa2 n2 c2, .slice pa3 n3 c3, .slice pa4 n4 c4])
      clear hbm
      generalize w.alloc (.cells #[.slice pa1 n1 c1, .slice pa2 n2 c2, .slice pa3 n3 c3, .slice pa4 n4 c4] 26) = Vm at *
      clear zm
      have m0 := km.out.cell (i := 0) rfl
      have m1 := km.out.cell (i := 1) rfl
      have m2 := km.out.cell (i := 2) rfl
      have m3 := km.out.cell (i := 3) rfl
      go_wp2_with fail
      clear m0 m1 m2 m3
      (((with_reducible refine (FW.out _).mono ?_); rintro e w1 ⟨rfl, hb1⟩); replace HB := Lib.hid (HB.out.trans (hb1.mono HB.out.size)); replace km := Lib.hid (km.out.keep hb1); clear hb1)
      go_wp2_with fail
      (((with_reducible refine (BG.out _ HB.out).mono ?_); rintro e w2 ⟨rfl, hb2⟩); replace HB := Lib.hid (HB.out.trans (hb2.mono HB.out.size)); replace km := Lib.hid (km.out.keep hb2); clear hb2)
      clear FW BG
      go_wp2_with fail
      ((with_reducible refine (AL.out _ HB.out).mono ?_); rintro e w3 ⟨⟨v3, Z3, rfl, O3, HZ3⟩, hb3⟩)
      replace HB := Lib.hid (HB.out.trans (hb3.mono HB.out.size))
      replace km := Lib.hid (km.out.keep hb3)
      obtain ⟨a3, d3, rfl, -, lc3, mc3, R3⟩ := rowE_of_own O3
      rw [HZ3] at R3
      have l3 : Z3.length = n := by rw [← R3.1, hln.out]
      rw [l3] at R3 ⊢
      replace R3 := Lib.hid R3
      clear O3 HZ3 l3 lc3 hb3 AL
      have m0 := km.out.cell (i := 0) rfl
      have m1 := km.out.cell (i := 1) rfl
      have m2 := km.out.cell (i := 2) rfl
      have m3 := km.out.cell (i := 3) rfl
      go_wp2_with fail
      clear m0 m1 m2 m3
      ((with_reducible refine (EG.out _ HB.out).mono ?_); rintro e w4 ⟨⟨v4, Z4, rfl, O4, HZ4⟩, hb4⟩)
      replace HB := Lib.hid (HB.out.trans (hb4.mono HB.out.size))
      replace km := Lib.hid (km.out.keep hb4)
      replace R3 := Lib.hid (R3.out.keep hb4)
      obtain ⟨a4, d4, rfl, -, lc4, mc4, R4⟩ := rowE_of_own O4
      rw [HZ4] at R4
      have l4 : Z4.length ≤ 400 := by have z := R4.1; omega
      clear O4 HZ4 hb4 lc4 mc4 EG
      generalize Z4.length = k4 at *
      replace R4 := Lib.hid R4
      have m0 := km.out.cell (i := 0) rfl
      have m1 := km.out.cell (i := 1) rfl
      have m2 := km.out.cell (i := 2) rfl
      have m3 := km.out.cell (i := 3) rfl
      go_wp2_with fail
      clear m0 m1 m2 m3
      ((with_reducible refine (ER.out _ HB.out).mono ?_); rintro e w5 ⟨⟨v5, Z5, rfl, O5, HZ5⟩, hb5⟩)
      replace HB := Lib.hid (HB.out.trans (hb5.mono HB.out.size))
      replace km := Lib.hid (km.out.keep hb5)
      replace R3 := Lib.hid (R3.out.keep hb5)
      replace R4 := Lib.hid (R4.out.keep hb5)
      obtain ⟨a5, d5, rfl, -, lc5, mc5, R5⟩ := rowE_of_own O5
      rw [HZ5] at R5
      have l5 : Z5.length ≤ 400 := by have z := R5.1; omega
      clear O5 HZ5 hb5 lc5 mc5 ER
      generalize Z5.length = k5 at *
      replace R5 := Lib.hid R5
      have m0 := km.out.cell (i := 0) rfl
      have m1 := km.out.cell (i := 1) rfl
      have m2 := km.out.cell (i := 2) rfl
      have m3 := km.out.cell (i := 3) rfl
      go_wp2_with fail
      clear m0 m1 m2 m3
      ((with_reducible refine (NX.out _ HB.out).mono ?_); rintro e w6 ⟨⟨v6, rfl, O6⟩, hb6⟩)
      replace HB := Lib.hid (HB.out.trans (hb6.mono HB.out.size))
      replace km := Lib.hid (km.out.keep hb6)
      replace R3 := Lib.hid (R3.out.keep hb6)
      replace R4 := Lib.hid (R4.out.keep hb6)
      replace R5 := Lib.hid (R5.out.keep hb6)
      obtain ⟨a6, d6, rfl, -, lc6, mc6, R6⟩ := rowI_of_own O6
      replace R6 := Lib.hid R6
      clear O6 hb6 NX
      have m0 := km.out.cell (i := 0) rfl
      have m1 := km.out.cell (i := 1) rfl
      have m2 := km.out.cell (i := 2) rfl
      have m3 := km.out.cell (i := 3) rfl
      go_wp2_with fail
      clear m0 m1 m2 m3
      ((with_reducible refine (NR.out _ HB.out).mono ?_); rintro e w7 ⟨⟨v7, rfl, O7⟩, hb7⟩)
      replace HB := Lib.hid (HB.out.trans (hb7.mono HB.out.size))
      replace km := Lib.hid (km.out.keep hb7)
      replace R3 := Lib.hid (R3.out.keep hb7)
      replace R4 := Lib.hid (R4.out.keep hb7)
      replace R5 := Lib.hid (R5.out.keep hb7)
      replace R6 := Lib.hid (R6.out.keep hb7)
      obtain ⟨a7, d7, rfl, -, lc7, mc7, R7⟩ := rowI_of_own O7
      replace R7 := Lib.hid R7
      clear O7 hb7 NR
      have m0 := km.out.cell (i := 0) rfl
      have m1 := km.out.cell (i := 1) rfl
      have m2 := km.out.cell (i := 2) rfl
      have m3 := km.out.cell (i := 3) rfl
      go_wp2_with fail
      clear m0 m1 m2 m3
      ((with_reducible refine (PA.out _ HB.out).mono ?_); rintro e w8 ⟨⟨v8, rfl, O8⟩, hb8⟩)
      replace HB := Lib.hid (HB.out.trans (hb8.mono HB.out.size))
      replace km := Lib.hid (km.out.keep hb8)
      replace R3 := Lib.hid (R3.out.keep hb8)
      replace R4 := Lib.hid (R4.out.keep hb8)
      replace R5 := Lib.hid (R5.out.keep hb8)
      replace R6 := Lib.hid (R6.out.keep hb8)
      replace R7 := Lib.hid (R7.out.keep hb8)
      obtain ⟨a8, d8, rfl, -, lc8, mc8, R8⟩ := rowI_of_own O8
      replace R8 := Lib.hid R8
      clear O8 hb8 PA
      have m0 := km.out.cell (i := 0) rfl
      have m1 := km.out.cell (i := 1) rfl
      have m2 := km.out.cell (i := 2) rfl
      have m3 := km.out.cell (i := 3) rfl
      go_wp2_with fail
      clear m0 m1 m2 m3
      ((with_reducible refine (PR.out _ HB.out).mono ?_); rintro e w9 ⟨⟨v9, rfl, O9⟩, hb9⟩)
      replace HB := Lib.hid (HB.out.trans (hb9.mono HB.out.size))
      replace km := Lib.hid (km.out.keep hb9)
      replace R3 := Lib.hid (R3.out.keep hb9)
      replace R4 := Lib.hid (R4.out.keep hb9)
      replace R5 := Lib.hid (R5.out.keep hb9)
      replace R6 := Lib.hid (R6.out.keep hb9)
      replace R7 := Lib.hid (R7.out.keep hb9)
      replace R8 := Lib.hid (R8.out.keep hb9)
      obtain ⟨a9, d9, rfl, -, lc9, mc9, R9⟩ := rowI_of_own O9
      replace R9 := Lib.hid R9
      clear O9 hb9 PR
      have B9 := Lib.hid (Below.refl w9.heap.size w9)
      have H9 := HB.out.size
      have S3 := R3
      clear km
      go_wp2_with fail
      ((with_reducible refine (LO.out _ HB.out).mono ?_); rintro e w10 ⟨⟨v10, Z10, rfl, O10, HZ10⟩, hb10⟩)
      replace HB := Lib.hid (HB.out.trans (hb10.mono HB.out.size))
      replace B9 := Lib.hid (B9.out.trans (hb10.mono B9.out.size))
      replace R3 := Lib.hid (R3.out.keep hb10)
      replace R4 := Lib.hid (R4.out.keep hb10)
      replace R5 := Lib.hid (R5.out.keep hb10)
      replace R6 := Lib.hid (R6.out.keep hb10)
      replace R7 := Lib.hid (R7.out.keep hb10)
      replace R8 := Lib.hid (R8.out.keep hb10)
      replace R9 := Lib.hid (R9.out.keep hb10)
      have H10 := B9.out.size
      have T10 : Hid (∀ z ∈ Z10, ∀ g, z.2.2.2.ownBlock = some g → g < w10.heap.size) := Lib.hid (fun z hz g hg => (World.ownsRow.lt (O10.2 z hz).1 g hg).2)
      have Q10 := rowE_of_own O10
      replace O10 := Lib.hid O10
      obtain ⟨a10, d10, e10, -, lc10, mc10, R10⟩ := Q10
      subst e10
      rw [HZ10] at R10
      have l10 : Z10.length ≤ 60 := by have z := R10.1; omega
      clear HZ10 hb10 LO lc10 mc10
      obtain ⟨k10, hk10⟩ : ∃ k10, Z10.length = k10 := ⟨_, rfl⟩
      rw [hk10] at R10 l10 O10 ⊢
      replace R10 := Lib.hid R10
      clear hk10
      go_wp2_with fail
      ((with_reducible refine (FI.out _ HB.out).mono ?_); rintro e w11 ⟨⟨v11, rfl, O11⟩, hb11⟩)
      replace HB := Lib.hid (HB.out.trans (hb11.mono HB.out.size))
      replace B9 := Lib.hid (B9.out.trans (hb11.mono B9.out.size))
      replace R3 := Lib.hid (R3.out.keep hb11)
      replace R4 := Lib.hid (R4.out.keep hb11)
      replace R5 := Lib.hid (R5.out.keep hb11)
      replace R6 := Lib.hid (R6.out.keep hb11)
      replace R7 := Lib.hid (R7.out.keep hb11)
      replace R8 := Lib.hid (R8.out.keep hb11)
      replace R9 := Lib.hid (R9.out.keep hb11)
      replace O10 := Lib.hid (O10.out.keep hb11)
      replace R10 := Lib.hid (R10.out.keep hb11)
      have g11 := hb11.size
      have Q11 := rowI_of_own O11
      obtain ⟨a11, d11, e11, ht11, lc11, mc11, R11⟩ := Q11
      subst e11
      replace O11 := Lib.hid O11
      replace R11 := Lib.hid R11
      clear hb11 FI
      go_upto_region 12 with fail
      have hbv := Lib.hid (below_new1 w11 (.cells #[.int .i64 x, .int .i64 y, .slice a11 l.length d11] 39))
      have hbv := below_new1 w11 (.cells #[.int .i64 x, .int .i64 y, .slice a11 l.length d11] 39)
      replace R3 := Lib.hid (R3.out.keep hbv)
      replace R4 := Lib.hid (R4.out.keep hbv)
      replace R5 := Lib.hid (R5.out.keep hbv)
      replace R6 := Lib.hid (R6.out.keep hbv)
      replace R7 := Lib.hid (R7.out.keep hbv)
      replace R8 := Lib.hid (R8.out.keep hbv)
      replace R9 := Lib.hid (R9.out.keep hbv)
      replace O10 := Lib.hid (O10.out.keep hbv)
      replace R10 := Lib.hid (R10.out.keep hbv)
      replace O11 := Lib.hid (O11.out.keep hbv)
      replace R11 := Lib.hid (R11.out.keep hbv)
      have zv : (w11.alloc (.cells #[.int .i64 x, .int .i64 y, .slice a11 l.length d11] 39)).heap.size = w11.heap.size + 1 := by simp
      replace HB := Lib.hid (HB.out.trans (hbv.mono HB.out.size))
      have kv := Lib.hid (Lok.new w11 39 #[.int .i64 x, .int .i64 y, .slice a11 l.length d11])
      clear hbv
      generalize w11.alloc (.cells #[.int .i64 x, .int .i64 y, .slice a11 l.length d11] 39) = Vv at *
      replace B9 := Lib.hid (B9.out.trans (hbv.out.mono B9.out.size))
      clear hbv
      have hvw : w11.heap.size < Vv.heap.size := by rw [zv]; omega
      clear zv
      go_wp2_with fail
      ((with_reducible refine (FR.out a3 d3 _ R3.out).mono ?_); rintro e w12 ⟨⟨v12, rfl, O12⟩, hb12⟩)
      replace HB := Lib.hid (HB.out.trans (hb12.mono HB.out.size))
      replace B9 := Lib.hid (B9.out.trans (hb12.mono B9.out.size))
      replace R3 := Lib.hid (R3.out.keep hb12)
      replace R4 := Lib.hid (R4.out.keep hb12)
      replace R5 := Lib.hid (R5.out.keep hb12)
      replace R6 := Lib.hid (R6.out.keep hb12)
      replace R7 := Lib.hid (R7.out.keep hb12)
      replace R8 := Lib.hid (R8.out.keep hb12)
      replace R9 := Lib.hid (R9.out.keep hb12)
      replace O10 := Lib.hid (O10.out.keep hb12)
      replace R10 := Lib.hid (R10.out.keep hb12)
      replace O11 := Lib.hid (O11.out.keep hb12)
      replace R11 := Lib.hid (R11.out.keep hb12)
      replace kv := Lib.hid (kv.out.keep hb12)
      have g12 := hb12.size
      obtain ⟨a12, d12, rfl, ht12, lc12, mc12, R12⟩ := rowI_of_own O12
      replace R12 := Lib.hid R12
      clear hb12 FR O12
      go_upto_region 13 with fail
      have hbv := Lib.hid (below_new1 w12 (.cells #[.int .i64 x, .int .i64 y, .slice a12 l.length d12] 39))
      have hbu := below_new1 w12 (.cells #[.int .i64 x, .int .i64 y, .slice a12 l.length d12] 39)
      replace R3 := Lib.hid (R3.out.keep hbu)
      replace R4 := Lib.hid (R4.out.keep hbu)
      replace R5 := Lib.hid (R5.out.keep hbu)
      replace R6 := Lib.hid (R6.out.keep hbu)
      replace R7 := Lib.hid (R7.out.keep hbu)
      replace R8 := Lib.hid (R8.out.keep hbu)
      replace R9 := Lib.hid (R9.out.keep hbu)
      replace O10 := Lib.hid (O10.out.keep hbu)
      replace R10 := Lib.hid (R10.out.keep hbu)
      replace O11 := Lib.hid (O11.out.keep hbu)
      replace R11 := Lib.hid (R11.out.keep hbu)
      replace kv := Lib.hid (kv.out.keep hbu)
      replace R12 := Lib.hid (R12.out.keep hbu)
      have zu : (w12.alloc (.cells #[.int .i64 x, .int .i64 y, .slice a12 l.length d12] 39)).heap.size = w12.heap.size + 1 := by simp
      replace HB := Lib.hid (HB.out.trans (hbu.mono HB.out.size))
      have ku := Lib.hid (Lok.new w12 39 #[.int .i64 x, .int .i64 y, .slice a12 l.length d12])
      clear hbu
      generalize w12.alloc (.cells #[.int .i64 x, .int .i64 y, .slice a12 l.length d12] 39) = Vu at *
      replace B9 := Lib.hid (B9.out.trans (hbv.out.mono B9.out.size))
      clear hbv zu
      have gv : w10.heap.size ≤ w11.heap.size := g11
      generalize hgv : w11.heap.size = bv at *
      generalize w12.heap.size = bu at *
      clear hgv g11 g12 hvw
      have SE := rsame_edges a4 a5 k4 k5 d4 d5 LG LG _ R4.out R5.out (by omega) (by omega)
      rw [seB_self] at SE
      go_wp2_with fail
      ((with_reducible refine (SE).mono ?_); rintro e w13 ⟨rfl, hb13⟩)
      replace HB := Lib.hid (HB.out.trans (hb13.mono HB.out.size))
      replace B9 := Lib.hid (B9.out.trans (hb13.mono B9.out.size))
      replace R3 := Lib.hid (R3.out.keep hb13)
      replace R6 := Lib.hid (R6.out.keep hb13)
      replace R7 := Lib.hid (R7.out.keep hb13)
      replace R8 := Lib.hid (R8.out.keep hb13)
      replace R9 := Lib.hid (R9.out.keep hb13)
      replace O10 := Lib.hid (O10.out.keep hb13)
      replace R10 := Lib.hid (R10.out.keep hb13)
      replace O11 := Lib.hid (O11.out.keep hb13)
      replace R11 := Lib.hid (R11.out.keep hb13)
      replace kv := Lib.hid (kv.out.keep hb13)
      replace R12 := Lib.hid (R12.out.keep hb13)
      replace ku := Lib.hid (ku.out.keep hb13)
      clear hb13 SE R4 R5
      have SE := Lib.hid (fun W (h : Below w13.heap.size w13 W) => rsame_list a6 a7 LN.length LN.length d6 d7 LN LN W (R6.out.keep h) (R7.out.keep h) (by omega) (by omega))
      rw [smB_self] at SE
      have B13 := Lib.hid (Below.refl w13.heap.size w13)
      go_wp2_with fail
      ((with_reducible refine (SE.out _ B13.out).mono ?_); rintro e w14 ⟨rfl, hb14⟩)
      replace HB := Lib.hid (HB.out.trans (hb14.mono HB.out.size))
      replace B9 := Lib.hid (B9.out.trans (hb14.mono B9.out.size))
      replace R3 := Lib.hid (R3.out.keep hb14)
      replace O10 := Lib.hid (O10.out.keep hb14)
      replace R10 := Lib.hid (R10.out.keep hb14)
      replace O11 := Lib.hid (O11.out.keep hb14)
      replace R11 := Lib.hid (R11.out.keep hb14)
      replace kv := Lib.hid (kv.out.keep hb14)
      replace R12 := Lib.hid (R12.out.keep hb14)
      replace ku := Lib.hid (ku.out.keep hb14)
      replace R8 := Lib.hid (R8.out.keep hb14)
      replace R9 := Lib.hid (R9.out.keep hb14)
      clear hb14 SE R6 R7 B13
      have SE := rsame_list a8 a9 LP.length LP.length d8 d9 LP LP _ R8.out R9.out (by omega) (by omega)
      rw [smB_self] at SE
      go_wp2_with fail
      ((with_reducible refine (SE).mono ?_); rintro e w15 ⟨rfl, hb15⟩)
      replace HB := Lib.hid (HB.out.trans (hb15.mono HB.out.size))
      replace B9 := Lib.hid (B9.out.trans (hb15.mono B9.out.size))
      replace R3 := Lib.hid (R3.out.keep hb15)
      replace O10 := Lib.hid (O10.out.keep hb15)
      replace R10 := Lib.hid (R10.out.keep hb15)
      replace O11 := Lib.hid (O11.out.keep hb15)
      replace R11 := Lib.hid (R11.out.keep hb15)
      replace kv := Lib.hid (kv.out.keep hb15)
      replace R12 := Lib.hid (R12.out.keep hb15)
      replace ku := Lib.hid (ku.out.keep hb15)
      clear hb15 SE R8 R9
      go_wp2_with fail
      ((with_reducible refine (LR.out a3 d3 _ R3.out).mono ?_); rintro e w16 ⟨⟨v16, Z16, rfl, O16, HZ16⟩, hb16⟩)
      replace HB := Lib.hid (HB.out.trans (hb16.mono HB.out.size))
      replace B9 := Lib.hid (B9.out.trans (hb16.mono B9.out.size))
      replace R3 := Lib.hid (R3.out.keep hb16)
      replace O10 := Lib.hid (O10.out.keep hb16)
      replace R10 := Lib.hid (R10.out.keep hb16)
      replace O11 := Lib.hid (O11.out.keep hb16)
      replace R11 := Lib.hid (R11.out.keep hb16)
      replace kv := Lib.hid (kv.out.keep hb16)
      replace R12 := Lib.hid (R12.out.keep hb16)
      replace ku := Lib.hid (ku.out.keep hb16)
      obtain ⟨a16, d16, rfl, -, lc16, mc16, R16⟩ := rowE_of_own O16
      rw [HZ16] at R16
      have l16 : Z16.length ≤ 60 := by have z := R16.1; omega
      clear O16 HZ16 hb16 LR lc16 mc16
      generalize Z16.length = k16 at *
      have SE := rsame_edges a10 a16 k10 k16 d10 d16 (lsL L) (lsL L) _ R10.out R16 (by omega) (by omega)
      rw [seB_self] at SE
      clear R16
      go_wp2_with fail
      ((with_reducible refine (SE).mono ?_); rintro e w17 ⟨rfl, hb17⟩)
      replace HB := Lib.hid (HB.out.trans (hb17.mono HB.out.size))
      replace B9 := Lib.hid (B9.out.trans (hb17.mono B9.out.size))
      replace R3 := Lib.hid (R3.out.keep hb17)
      replace O10 := Lib.hid (O10.out.keep hb17)
      replace O11 := Lib.hid (O11.out.keep hb17)
      replace R11 := Lib.hid (R11.out.keep hb17)
      replace kv := Lib.hid (kv.out.keep hb17)
      replace R12 := Lib.hid (R12.out.keep hb17)
      replace ku := Lib.hid (ku.out.keep hb17)
      clear hb17 SE R10
      have y0 := kv.out.cell (i := 0) rfl
      have y1 := kv.out.cell (i := 1) rfl
      have y2 := kv.out.cell (i := 2) rfl
      have u0 := ku.out.cell (i := 0) rfl
      have u1 := ku.out.cell (i := 1) rfl
      have u2 := ku.out.cell (i := 2) rfl
      have hb1 := (Below.refl w17.heap.size w17).alloc (Nat.le_refl _) (.cells #[.int .i64 x, .int .i64 y, .slice a11 l.length d11] 39)
      replace u0 := keepc hb1 u0
      replace u1 := keepc hb1 u1
      replace u2 := keepc hb1 u2
      have K1 := Lok.new w17 39 #[.int .i64 x, .int .i64 y, .slice a11 l.length d11]
      have hb2 := (Below.refl (w17.alloc (.cells #[.int .i64 x, .int .i64 y, .slice a11 l.length d11] 39)).heap.size (w17.alloc (.cells #[.int .i64 x, .int .i64 y, .slice a11 l.length d11] 39))).alloc (Nat.le_refl _) (.cells #[.int .i64 x, .int .i64 y, .slice a12 l.length d12] 39)
      have K2 := Lok.new (w17.alloc (.cells #[.int .i64 x, .int .i64 y, .slice a11 l.length d11] 39)) 39 #[.int .i64 x, .int .i64 y, .slice a12 l.length d12]
      have hs : (w17.alloc (.cells #[.int .i64 x, .int .i64 y, .slice a11 l.length d11] 39)).heap.size = w17.heap.size + 1 := by simp
      rw [hs] at K2
      clear hs
      have hb3 := hb1.trans (hb2.mono hb1.size)
      have SE := rsame_edges _ _ 1 1 1 1 _ _ _ (rowE_one (K1.keep hb2) (R11.out.keep hb3) ht11 lc11 mc11) (rowE_one K2 (R12.out.keep hb3) ht12 lc12 mc12) (by omega) (by omega)
      rw [seB_self] at SE
      have SF := Lib.hid SE
      clear SE
      clear K1 K2 hb2
      go_wp2_with fail
      ((with_reducible refine SF.out.mono ?_); rintro e w18 ⟨rfl, hb18⟩)
      clear y0 y1 y2 u0 u1 u2 SF hb1
      have hb19 := hb3.trans (hb18.mono hb3.size)
      clear hb18 hb3
      clear ku R12
      replace HB := Lib.hid (HB.out.trans (hb19.mono HB.out.size))
      replace B9 := Lib.hid (B9.out.trans (hb19.mono B9.out.size))
      replace R3 := Lib.hid (R3.out.keep hb19)
      replace O10 := Lib.hid (O10.out.keep hb19)
      replace O11 := Lib.hid (O11.out.keep hb19)
      replace R11 := Lib.hid (R11.out.keep hb19)
      replace kv := Lib.hid (kv.out.keep hb19)
      clear hb19
      have SM := lsmudge_mid _ _ w9.heap.size w10.heap.size _ O10.out T10.out
      go_wp2_with fail
      ((with_reducible refine SM.mono ?_); rintro e w20 ⟨rfl, hb20, ab20⟩)
      replace B9 := Lib.hid (B9.out.trans hb20)
      replace HB := Lib.hid (HB.out.trans (hb20.mono H9))
      replace kv := Lib.hid (lok_above kv.out gv ab20)
      replace O11 := Lib.hid (own_above O11.out (Nat.le_refl _) ab20)
      clear hb20 ab20 SM O10 T10 R3 R11
      have y0 := kv.out.cell (i := 0) rfl
      have y1 := kv.out.cell (i := 1) rfl
      have y2 := kv.out.cell (i := 2) rfl
      have hb1 := Lib.hid ((Below.refl w20.heap.size w20).alloc (Nat.le_refl _) (.cells #[.int .i64 x, .int .i64 y, .slice a11 l.length d11] 39))
      have K1 := Lok.new w20 39 #[.int .i64 x, .int .i64 y, .slice a11 l.length d11]
      have SM := lsmudge_own _ _ w10.heap.size _ (ownE_one K1 (Nat.le_trans gv (Nat.le_of_lt kv.out.lt)) (OwnI.keep O11.out hb1.out))
      clear K1
      go_wp2_with fail
      ((with_reducible refine SM.mono ?_); rintro e w21 ⟨rfl, hb21⟩)
      clear y0 y1 y2 SM kv O11
      replace B9 := Lib.hid ((B9.out.trans (hb1.out.mono B9.out.size)).trans (hb21.mono H10))
      replace HB := Lib.hid ((HB.out.trans (hb1.out.mono HB.out.size)).trans (hb21.mono (Nat.le_trans H9 H10)))
      clear hb1 hb21
      go_wp2_with fail
      ((with_reducible refine (ED.out _).mono ?_); rintro e w22 ⟨rfl, hb22⟩)
      replace B9 := Lib.hid (B9.out.trans (hb22.mono B9.out.size))
      replace HB := Lib.hid (HB.out.trans (hb22.mono HB.out.size))
      clear hb22
      have SE := rsame_edges a a3 n n c d3 L L _ (RL.out _ HB.out) (S3.out.keep B9.out) (by omega) (by omega)
      rw [seB_self] at SE
      go_wp2_with fail
      (((with_reducible refine (SE).mono ?_); rintro e w23 ⟨rfl, hb23⟩); replace HB := Lib.hid (HB.out.trans (hb23.mono HB.out.size)); clear hb23)
      go_wp2
      go_ret
      exact ⟨rfl, HB.out⟩
end Go.Proofs.Ytkheomaihhcokaa
