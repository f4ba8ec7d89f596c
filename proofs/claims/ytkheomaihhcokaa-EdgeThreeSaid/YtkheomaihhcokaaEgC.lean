/-
  The reference limewashref14: Next, Few. (gen/EgC.py)
-/
import Derived.Test.YtkheomaihhcokaaEgB
import Derived.Test.YtkheomaihhcokaaGaC
import Derived.Test.YtkheomaihhcokaaMsC
namespace Go.Proofs.Ytkheomaihhcokaa
open Go.RowKit

/-- The places of those that are next to one, rising. -/
def nxL (F : Nat → Nat → Int) (i : Nat) : Nat → List Int
  | 0 => []
  | k + 1 => nxL F i k ++ (if nxB F i k then [(k : Int)] else [])
theorem nxL_len (F : Nat → Nat → Int) (i : Nat) : ∀ n, (nxL F i n).length ≤ n
  | 0 => Nat.le_refl 0
  | k + 1 => by
    have := nxL_len F i k
    show (nxL F i k ++ (if nxB F i k then [(k : Int)] else [])).length ≤ k + 1
    rw [List.length_append]
    split
    · show _ + 1 ≤ _; omega
    · show _ + 0 ≤ _; omega
/-- A place of a mesh's triangles that is told right. -/
def okN (r : Bool) (i : Int) (n : Nat) : Bool := r && plB i n
/-- The answer of Next: none where it is refused. -/
def nxA (t : Bool) (F : Nat → Nat → Int) (i : Int) (n : Nat) : List Int := if t then nxL F i.toNat n else []
def agE (t : Bool) : Int := if t then 0 else 1
set_option maxRecDepth 100000 in
set_option maxHeartbeats 16000000 in
theorem rnextL_any (pa1 pa2 pa3 pa4 : Option Addr) (n1 n2 n3 n4 c1 c2 c3 c4 : Nat) (FV FT FN FC : Nat → Nat → Int) (i : Int) (w : World) (hm : MsW w pa1 pa2 pa3 pa4 n1 n2 n3 n4 FV FT FN FC) :
    Calls Try.prog 14 #[.agg #[.slice pa1 n1 c1, .slice pa2 n2 c2, .slice pa3 n3 c3, .slice pa4 n4 c4], .int .i64 i] w fun e w' => (∃ v, e = .returned (.tuple #[v, .int .i64 (agE (okN (msB n1 n2 n3 n4 FV FT FN FC) i n4))]) ∧ OwnI w' w.heap.size v (nxA (okN (msB n1 n2 n3 n4 FV FT FN FC) i n4) FC i n4)) ∧ Below w.heap.size w w' := by
  have HB := Lib.hid (Below.refl w.heap.size w)
  have M := Lib.hid hm
  have IS := Lib.hid (fun W (h : Below w.heap.size w W) => rmis_any pa1 pa2 pa3 pa4 n1 n2 n3 n4 c1 c2 c3 c4 FV FT FN FC W (hm.keep h))
  have bn4 := hm.2.2.2.2
  clear hm
  unfold okN
  cases hr : msB n1 n2 n3 n4 FV FT FN FC with
  | false =>
    rw [hr] at IS
    clear hr
    rw [Bool.false_and, show agE false = 1 from rfl, show nxA false FC i n4 = [] from rfl]
    go_enter Try.func14, Try.ntmps14
    go_upto_region 1 with fail
    have hbm := below_new1 w (.cells #[.slice pa1 n1 c1, .slice pa2 n2 c2, .slice pa3 n3 c3, .slice pa4 n4 c4] 26)
    have zm : (w.alloc (.cells #[.slice pa1 n1 c1, .slice pa2 n2 c2, .slice pa3 n3 c3, .slice pa4 n4 c4] 26)).heap.size = w.heap.size + 1 := by simp
    have HB := Lib.hid hbm
    have km := Lib.hid (Lok.new w 26 #[.slice pa1 n1 c1, .slice pa2 n2 c2, .slice pa3 n3 c3, .slice pa4 n4 c4])
    clear hbm
    generalize w.alloc (.cells #[.slice pa1 n1 c1, .slice pa2 n2 c2, .slice pa3 n3 c3, .slice pa4 n4 c4] 26) = Vm at *
    clear zm
    have m0 := km.out.cell (i := 0) rfl
    have m1 := km.out.cell (i := 1) rfl
    have m2 := km.out.cell (i := 2) rfl
    have m3 := km.out.cell (i := 3) rfl
    go_wp2_with fail
    clear m0 m1 m2 m3
    (((with_reducible refine (IS.out _ HB.out).mono ?_); rintro e w1 ⟨rfl, hb1⟩); replace HB := Lib.hid (HB.out.trans (hb1.mono HB.out.size)); replace km := Lib.hid (km.out.keep hb1); clear hb1)
    clear IS
    clear km
    go_wp2
    go_ret2
    exact ⟨⟨_, rfl, OwnI.nil _ _⟩, HB.out⟩
  | true =>
    rw [hr] at IS
    have h500 : n4 ≤ 500 := by
      unfold msB at hr
      rw [Bool.and_eq_true] at hr
      exact (shB_iff.1 hr.1).2
    clear hr
    rw [Bool.true_and]
    by_cases p0 : 0 ≤ i
    case neg =>
      rw [plB_no p0, show agE false = 1 from rfl, show nxA false FC i n4 = [] from rfl]
      have p1 : i < 0 := by omega
      go_enter Try.func14, Try.ntmps14
      go_upto_region 1 with fail
      have hbm := below_new1 w (.cells #[.slice pa1 n1 c1, .slice pa2 n2 c2, .slice pa3 n3 c3, .slice pa4 n4 c4] 26)
      have zm : (w.alloc (.cells #[.slice pa1 n1 c1, .slice pa2 n2 c2, .slice pa3 n3 c3, .slice pa4 n4 c4] 26)).heap.size = w.heap.size + 1 := by simp
      have HB := Lib.hid hbm
      have km := Lib.hid (Lok.new w 26 #[.slice pa1 n1 c1, .slice pa2 n2 c2, .slice pa3 n3 c3, .slice pa4 n4 c4])
      clear hbm
      generalize w.alloc (.cells #[.slice pa1 n1 c1, .slice pa2 n2 c2, .slice pa3 n3 c3, .slice pa4 n4 c4] 26) = Vm at *
      clear zm
      have m0 := km.out.cell (i := 0) rfl
      have m1 := km.out.cell (i := 1) rfl
      have m2 := km.out.cell (i := 2) rfl
      have m3 := km.out.cell (i := 3) rfl
      go_wp2_with fail
      clear m0 m1 m2 m3
      (((with_reducible refine (IS.out _ HB.out).mono ?_); rintro e w1 ⟨rfl, hb1⟩); replace HB := Lib.hid (HB.out.trans (hb1.mono HB.out.size)); replace km := Lib.hid (km.out.keep hb1); clear hb1)
      clear IS
      clear km
      go_wp2
      go_ret2
      exact ⟨⟨_, rfl, OwnI.nil _ _⟩, HB.out⟩
    by_cases p2 : i < n4
    case neg =>
      rw [plB_ge p0, decide_eq_false p2, show agE false = 1 from rfl, show nxA false FC i n4 = [] from rfl]
      have p1 : ¬ i < 0 := by omega
      have p3 : (n4 : Int) ≤ i := by omega
      go_enter Try.func14, Try.ntmps14
      go_upto_region 1 with fail
      have hbm := below_new1 w (.cells #[.slice pa1 n1 c1, .slice pa2 n2 c2, .slice pa3 n3 c3, .slice pa4 n4 c4] 26)
      have zm : (w.alloc (.cells #[.slice pa1 n1 c1, .slice pa2 n2 c2, .slice pa3 n3 c3, .slice pa4 n4 c4] 26)).heap.size = w.heap.size + 1 := by simp
      have HB := Lib.hid hbm
      have km := Lib.hid (Lok.new w 26 #[.slice pa1 n1 c1, .slice pa2 n2 c2, .slice pa3 n3 c3, .slice pa4 n4 c4])
      clear hbm
      generalize w.alloc (.cells #[.slice pa1 n1 c1, .slice pa2 n2 c2, .slice pa3 n3 c3, .slice pa4 n4 c4] 26) = Vm at *
      clear zm
      have m0 := km.out.cell (i := 0) rfl
      have m1 := km.out.cell (i := 1) rfl
      have m2 := km.out.cell (i := 2) rfl
      have m3 := km.out.cell (i := 3) rfl
      go_wp2_with fail
      clear m0 m1 m2 m3
      (((with_reducible refine (IS.out _ HB.out).mono ?_); rintro e w1 ⟨rfl, hb1⟩); replace HB := Lib.hid (HB.out.trans (hb1.mono HB.out.size)); replace km := Lib.hid (km.out.keep hb1); clear hb1)
      clear IS
      have m0 := km.out.cell (i := 0) rfl
      have m1 := km.out.cell (i := 1) rfl
      have m2 := km.out.cell (i := 2) rfl
      have m3 := km.out.cell (i := 3) rfl
      clear m0 m1 m2
      go_wp2
      go_ret2
      exact ⟨⟨_, rfl, OwnI.nil _ _⟩, HB.out⟩
    rw [plB_ge p0, decide_eq_true p2, show agE true = 0 from rfl, show nxA true FC i n4 = nxL FC i.toNat n4 from rfl]
    have p1 : ¬ i < 0 := by omega
    have p3 : ¬ (n4 : Int) ≤ i := by omega
    obtain ⟨j, rfl⟩ : ∃ j : Nat, i = (j : Int) := ⟨i.toNat, by omega⟩
    rw [show ((j : Int)).toNat = j from by omega]
    have hj : j < n4 := by omega
    have p4 : ¬ n4 ≤ j := by omega
    have NX := Lib.hid (fun k (hk : k < n4) W (h : Below w.heap.size w W) => rnext_any pa1 pa2 pa3 pa4 n1 n2 n3 n4 c1 c2 c3 c4 FV FT FN FC j k W (M.out.keep h) hj hk)
    clear M
    go_enter Try.func14, Try.ntmps14
    go_upto_region 1 with fail
    have hbm := below_new1 w (.cells #[.slice pa1 n1 c1, .slice pa2 n2 c2, .slice pa3 n3 c3, .slice pa4 n4 c4] 26)
    have zm : (w.alloc (.cells #[.slice pa1 n1 c1, .slice pa2 n2 c2, .slice pa3 n3 c3, .slice pa4 n4 c4] 26)).heap.size = w.heap.size + 1 := by simp
    have HB := Lib.hid hbm
    have km := Lib.hid (Lok.new w 26 #[.slice pa1 n1 c1, .slice pa2 n2 c2, .slice pa3 n3 c3, .slice pa4 n4 c4])
    clear hbm
    generalize w.alloc (.cells #[.slice pa1 n1 c1, .slice pa2 n2 c2, .slice pa3 n3 c3, .slice pa4 n4 c4] 26) = Vm at *
    clear zm
    have m0 := km.out.cell (i := 0) rfl
    have m1 := km.out.cell (i := 1) rfl
    have m2 := km.out.cell (i := 2) rfl
    have m3 := km.out.cell (i := 3) rfl
    go_wp2_with fail
    clear m0 m1 m2 m3
    (((with_reducible refine (IS.out _ HB.out).mono ?_); rintro e w1 ⟨rfl, hb1⟩); replace HB := Lib.hid (HB.out.trans (hb1.mono HB.out.size)); replace km := Lib.hid (km.out.keep hb1); clear hb1)
    clear IS
    have km0 := km
    have HB0 := HB
    clear km HB
    have m3 := km0.out.cell (i := 3) rfl
    go_wp2_with fail
    clear m3 p1 p3 p0 p2 p4
    go_loopw [6, 7] (fun v x wr => ∃ k : Nat, x = .int .i64 k ∧ k ≤ n4 ∧ OwnI wr w1.heap.size v (nxL FC j k) ∧ Below w1.heap.size w1 wr) (fun _ x _ => n4 - (intOf x).toNat)
    case atStart => exact ⟨0, rfl, Nat.zero_le _, OwnI.nil _ _, Below.refl _ _⟩
    case round =>
      obtain ⟨k, rfl, hk, hO, hB⟩ := hrel
      have HB := Lib.hid (HB0.out.trans (hB.mono HB0.out.size))
      have BW := Lib.hid hB
      have km := Lib.hid (km0.out.keep hB)
      have OW := Lib.hid hO
      clear hB hO
      have m3 := km.out.cell (i := 3) rfl
      by_cases hlt : k < n4
      · have NK := Lib.hid (NX.out k hlt)
        have m0 := km.out.cell (i := 0) rfl
        have m1 := km.out.cell (i := 1) rfl
        have m2 := km.out.cell (i := 2) rfl
        have i0 : (0 : Int) ≤ (k : Int) := by omega
        have i1 : (k : Int) < (n4 : Int) := by omega
        have LE : Hid (nxL FC j (k + 1) = nxL FC j k ++ (if nxB FC j k then [(k : Int)] else [])) := Lib.hid rfl
        have ln := nxL_len FC j k
        go_wp2_with fail
        ((with_reducible refine (NK.out _ HB.out).mono ?_); rintro e w5 ⟨rfl, hb5⟩)
        replace HB := Lib.hid (HB.out.trans (hb5.mono HB.out.size))
        replace BW := Lib.hid (BW.out.trans (hb5.mono BW.out.size))
        replace OW := Lib.hid (OW.out.keep hb5)
        clear hb5 NK m0 m1 m2 m3 km
        cases hq : nxB FC j k with
        | false =>
          rw [hq] at LE
          have E : Hid (nxL FC j (k + 1) = nxL FC j k) := Lib.hid (by rw [LE.out]; exact List.append_nil _)
          clear LE
          go_wp2_with fail
          go_roundw
          case rel => exact ⟨k + 1, by go_num, hlt, by rw [E.out]; exact OW.out, BW.out⟩
          case measure => simp [intOf]; omega
        | true =>
          rw [hq] at LE
          have E : Hid (nxL FC j (k + 1) = nxL FC j k ++ [(k : Int)]) := Lib.hid (by rw [LE.out]; rfl)
          clear LE
          generalize nxL FC j k = L at *
          generalize hL2 : nxL FC j (k + 1) = L2 at *
          have HL2 := Lib.hid hL2
          clear hL2
          have hk1 : (L.length + 1) * 8 ≤ 140737488355328 := by omega
          have hk2 : L.length ≤ 1000000 := by omega
          have hbs := BW.out.size
          have hO := OW.out
          unfold OwnI at hO
          go_wp2_with (at_builtin; refine app_one rfl _ _ 34 3 (.int .i64 0) 1 8 Try.underlying34 infoI rfl (by decide) rfl w1.heap.size u6 L.length (L.map (Value.int .i64)) [.int .i64 (k : Int)] rfl (fun u hu => by rw [List.mem_singleton] at hu; subst hu; rfl) rfl hO rfl hk1 hk2 hbs ?_)
          intro v2 w6 own6 hb6
          have OW2 : Hid (OwnI w6 w1.heap.size v2 L2) := Lib.hid (by
            rw [E.out]
            unfold OwnI
            rw [List.length_append, List.map_append]
            exact own6)
          replace BW := Lib.hid (BW.out.trans hb6)
          clear own6 hb6 OW hO
          go_wp2
          go_roundw
          case rel => exact ⟨k + 1, by go_num, hlt, by rw [HL2.out]; exact OW2.out, BW.out⟩
          case measure => simp [intOf]; omega
      · obtain rfl : k = n4 := by omega
        have HO := Lib.hid (ownI_mono OW.out HB0.out.size)
        go_wp2
        go_ret2
        exact ⟨⟨_, rfl, HO.out⟩, HB.out⟩
end Go.Proofs.Ytkheomaihhcokaa
