/-
  The reference limewashref14: Parts. (gen/EgD.py)
-/
import Derived.Test.YtkheomaihhcokaaEgC
namespace Go.Proofs.Ytkheomaihhcokaa
open Go.RowKit

/-- The places themselves. -/
def upL : Nat → List Int
  | 0 => []
  | k + 1 => upL k ++ [(k : Int)]
theorem upL_len : ∀ n, (upL n).length = n
  | 0 => rfl
  | k + 1 => by show (upL k ++ [(k : Int)]).length = _; rw [List.length_append, upL_len k]; rfl
/-- One look at two triangles: the lesser part of two that are next to one another. -/
def ptS (F : Nat → Nat → Int) (i k : Nat) (L : List Int) : List Int := if L.getD k 0 < L.getD i 0 ∧ nxB F i k = true then L.set i (L.getD k 0) else L
def ptK (F : Nat → Nat → Int) (i : Nat) (L : List Int) : Nat → List Int
  | 0 => L
  | k + 1 => ptS F i k (ptK F i L k)
def ptI (F : Nat → Nat → Int) (n : Nat) (L : List Int) : Nat → List Int
  | 0 => L
  | i + 1 => ptK F i (ptI F n L i) n
def ptR (F : Nat → Nat → Int) (n : Nat) : Nat → List Int
  | 0 => upL n
  | r + 1 => ptI F n (ptR F n r) n
theorem ptS_len (F : Nat → Nat → Int) (i k : Nat) (L : List Int) : (ptS F i k L).length = L.length := by
  unfold ptS
  split
  · exact List.length_set
  · rfl
theorem ptK_len (F : Nat → Nat → Int) (i : Nat) (L : List Int) : ∀ k, (ptK F i L k).length = L.length
  | 0 => rfl
  | k + 1 => (ptS_len F i k _).trans (ptK_len F i L k)
theorem ptI_len (F : Nat → Nat → Int) (n : Nat) (L : List Int) : ∀ i, (ptI F n L i).length = L.length
  | 0 => rfl
  | i + 1 => (ptK_len F i _ n).trans (ptI_len F n L i)
theorem ptR_len (F : Nat → Nat → Int) (n : Nat) : ∀ r, (ptR F n r).length = n
  | 0 => upL_len n
  | r + 1 => (ptI_len F n _ n).trans (ptR_len F n r)
/-- The answer of Parts. -/
def ptA (t : Bool) (F : Nat → Nat → Int) (n : Nat) : List Int := if t then ptR F n n else []
set_option maxRecDepth 100000 in
set_option maxHeartbeats 16000000 in
theorem rparts_any (pa1 pa2 pa3 pa4 : Option Addr) (n1 n2 n3 n4 c1 c2 c3 c4 : Nat) (FV FT FN FC : Nat → Nat → Int) (w : World) (hm : MsW w pa1 pa2 pa3 pa4 n1 n2 n3 n4 FV FT FN FC) :
    Calls Try.prog 16 #[.agg #[.slice pa1 n1 c1, .slice pa2 n2 c2, .slice pa3 n3 c3, .slice pa4 n4 c4]] w fun e w' => (∃ v, e = .returned (.tuple #[v, .int .i64 (agE (msB n1 n2 n3 n4 FV FT FN FC))]) ∧ OwnI w' w.heap.size v (ptA (msB n1 n2 n3 n4 FV FT FN FC) FC n4)) ∧ Below w.heap.size w w' := by
  have HB := Lib.hid (Below.refl w.heap.size w)
  have M := Lib.hid hm
  have IS := Lib.hid (fun W (h : Below w.heap.size w W) => rmis_any pa1 pa2 pa3 pa4 n1 n2 n3 n4 c1 c2 c3 c4 FV FT FN FC W (hm.keep h))
  have bn4 := hm.2.2.2.2
  clear hm
  cases hr : msB n1 n2 n3 n4 FV FT FN FC with
  | false =>
    rw [hr] at IS
    clear hr
    rw [show agE false = 1 from rfl, show ptA false FC n4 = [] from rfl]
    go_enter Try.func16, Try.ntmps16
    go_upto_region 1 with fail
    have hbm := below_new1 w (.cells #[.slice pa1 n1 c1, .slice pa2 n2 c2, .slice pa3 n3 c3, .slice pa4 n4 c4] 26)
    have zm : (w.alloc (.cells #[.slice pa1 n1 c1, .slice pa2 n2 c2, .slice pa3 n3 c3, .slice pa4 n4 c4] 26)).heap.size = w.heap.size + 1 := by simp
    have HB := Lib.hid hbm
    have km := Lib.hid (Lok.new w 26 #[.slice pa1 n1 c1, .slice pa2 n2 c2, .slice pa3 n3 c3, .slice pa4 n4 c4])
    clear hbm
    generalize w.alloc (.cells #[.slice pa1 n1 c1, .slice pa2 n2 c2, .slice pa3 n3 c3, .slice pa4 n4 c4] 26) = Vm at *
    clear zm
    have m0 := km.out.cell (i := 0) rfl
    have m1 := km.out.cell (i := 1) rfl
    have m2 := km.out.cell (i := 2) rfl
    have m3 := km.out.cell (i := 3) rfl
    go_wp2_with fail
    clear m0 m1 m2 m3
    (((with_reducible refine (IS.out _ HB.out).mono ?_); rintro e w1 ⟨rfl, hb1⟩); replace HB := Lib.hid (HB.out.trans (hb1.mono HB.out.size)); replace km := Lib.hid (km.out.keep hb1); clear hb1)
    clear IS
    clear km
    go_wp2
    go_ret2
    exact ⟨⟨_, rfl, OwnI.nil _ _⟩, HB.out⟩
  | true =>
    rw [hr] at IS
    have h500 : n4 ≤ 500 := by
      unfold msB at hr
      rw [Bool.and_eq_true] at hr
      exact (shB_iff.1 hr.1).2
    clear hr
    rw [show agE true = 0 from rfl, show ptA true FC n4 = ptR FC n4 n4 from rfl]
    have NX := Lib.hid (fun j k (hj : j < n4) (hk : k < n4) W (h : Below w.heap.size w W) => rnext_any pa1 pa2 pa3 pa4 n1 n2 n3 n4 c1 c2 c3 c4 FV FT FN FC j k W (M.out.keep h) hj hk)
    clear M
    go_enter Try.func16, Try.ntmps16
    go_upto_region 1 with fail
    have hbm := below_new1 w (.cells #[.slice pa1 n1 c1, .slice pa2 n2 c2, .slice pa3 n3 c3, .slice pa4 n4 c4] 26)
    have zm : (w.alloc (.cells #[.slice pa1 n1 c1, .slice pa2 n2 c2, .slice pa3 n3 c3, .slice pa4 n4 c4] 26)).heap.size = w.heap.size + 1 := by simp
    have HB := Lib.hid hbm
    have km := Lib.hid (Lok.new w 26 #[.slice pa1 n1 c1, .slice pa2 n2 c2, .slice pa3 n3 c3, .slice pa4 n4 c4])
    clear hbm
    generalize w.alloc (.cells #[.slice pa1 n1 c1, .slice pa2 n2 c2, .slice pa3 n3 c3, .slice pa4 n4 c4] 26) = Vm at *
    clear zm
    have m0 := km.out.cell (i := 0) rfl
    have m1 := km.out.cell (i := 1) rfl
    have m2 := km.out.cell (i := 2) rfl
    have m3 := km.out.cell (i := 3) rfl
    go_wp2_with fail
    clear m0 m1 m2 m3
    (((with_reducible refine (IS.out _ HB.out).mono ?_); rintro e w1 ⟨rfl, hb1⟩); replace HB := Lib.hid (HB.out.trans (hb1.mono HB.out.size)); replace km := Lib.hid (km.out.keep hb1); clear hb1)
    clear IS
    have km0 := km
    have HB0 := HB
    clear km HB
    have m3 := km0.out.cell (i := 3) rfl
    go_wp2_with fail
    clear m3
    go_loopw [4, 5] (fun v x wr => ∃ k : Nat, x = .int .i64 k ∧ k ≤ n4 ∧ OwnI wr w1.heap.size v (upL k) ∧ Below w1.heap.size w1 wr) (fun _ x _ => n4 - (intOf x).toNat)
    case atStart => exact ⟨0, rfl, Nat.zero_le _, OwnI.nil _ _, Below.refl _ _⟩
    case round =>
      obtain ⟨k, rfl, hk, hO, hB⟩ := hrel
      have BW := Lib.hid hB
      have OW := Lib.hid hO
      have m3 := (km0.out.keep hB).cell (i := 3) rfl
      clear hB hO
      by_cases hlt : k < n4
      · have i0 : (0 : Int) ≤ (k : Int) := by omega
        have i1 : (k : Int) < (n4 : Int) := by omega
        have ln := upL_len k
        have E : Hid (upL (k + 1) = upL k ++ [(k : Int)]) := Lib.hid rfl
        generalize upL k = L at *
        generalize hL2 : upL (k + 1) = L2 at *
        have HL2 := Lib.hid hL2
        clear hL2
        have hk1 : (L.length + 1) * 8 ≤ 140737488355328 := by omega
        have hk2 : L.length ≤ 1000000 := by omega
        have hbs := BW.out.size
        have hO := OW.out
        unfold OwnI at hO
        go_wp2_with (at_builtin; refine app_one rfl _ _ 34 3 (.int .i64 0) 1 8 Try.underlying34 infoI rfl (by decide) rfl w1.heap.size u4 L.length (L.map (Value.int .i64)) [.int .i64 (k : Int)] rfl (fun u hu => by rw [List.mem_singleton] at hu; subst hu; rfl) rfl hO rfl hk1 hk2 hbs ?_)
        intro v2 w6 own6 hb6
        have OW2 : Hid (OwnI w6 w1.heap.size v2 L2) := Lib.hid (by
          rw [E.out]
          unfold OwnI
          rw [List.length_append, List.map_append, ln]
          exact own6)
        replace BW := Lib.hid (BW.out.trans hb6)
        clear own6 hb6 OW hO m3
        go_wp2
        go_roundw
        case rel => exact ⟨k + 1, by go_num, hlt, by rw [HL2.out]; exact OW2.out, BW.out⟩
        case measure => simp [intOf]; omega
      · obtain rfl : k = n4 := by omega
        rcases Nat.eq_zero_or_pos k with hz | hz
        · subst hz
          have HO := Lib.hid (ownI_mono OW.out HB0.out.size)
          have BZ := Lib.hid (HB0.out.trans (BW.out.mono HB0.out.size))
          have BZ2 := BW
          go_wp2_with fail
          go_loopw [6] (fun x wv => x = .int .i64 0 ∧ Below wr.heap.size wr wv) (fun _ _ => 0)
          case atStart => exact ⟨rfl, Below.refl _ _⟩
          case round =>
            obtain ⟨rfl, hB⟩ := hrel
            have m9 := (km0.out.keep (BW.out.trans (hB.mono BW.out.size))).cell (i := 3) rfl
            have HO2 := Lib.hid (HO.out.keep hB)
            replace BZ := Lib.hid (BZ.out.trans (hB.mono BZ.out.size))
            go_wp2
            go_ret2
            exact ⟨⟨_, rfl, HO2.out⟩, BZ.out⟩
        · obtain ⟨g, cap, cur, hv, hg, hc, -, -, -⟩ := OW.out.open (by rw [upL_len]; exact hz)
          rw [upL_len] at hv hc
          subst hv
          have hlt' : k < k + 1 := by omega
          go_wp2_with fail
          clear m3
          go_loopw [6] (fun x wr => ∃ r : Nat, x = .int .i64 r ∧ r ≤ k ∧ OwnI wr w1.heap.size (.slice (some ⟨g, 0, none⟩) k cap) (ptR FC k r) ∧ Below w1.heap.size w1 wr) (fun x _ => k - (intOf x).toNat)
          case atStart => exact ⟨0, rfl, Nat.zero_le _, OW.out, BW.out⟩
          case round =>
            clear OW BW
            obtain ⟨r, rfl, hr, hO, hB⟩ := hrel
            have BW := Lib.hid hB
            have OW := Lib.hid hO
            have m3 := (km0.out.keep hB).cell (i := 3) rfl
            clear hB hO
            by_cases hrl : r < k
            · have lR := ptR_len FC k r
              have ER : Hid (ptR FC k (r + 1) = ptI FC k (ptR FC k r) k) := Lib.hid rfl
              generalize ptR FC k r = LR at *
              go_wp2_with fail
              clear m3
              go_loopw [7] (fun x wr => ∃ i : Nat, x = .int .i64 i ∧ i ≤ k ∧ OwnI wr w1.heap.size (.slice (some ⟨g, 0, none⟩) k cap) (ptI FC k LR i) ∧ Below w1.heap.size w1 wr) (fun x _ => k - (intOf x).toNat)
              case atStart => exact ⟨0, rfl, Nat.zero_le _, OW.out, BW.out⟩
              case round =>
                clear OW BW
                obtain ⟨i, rfl, hi, hO, hB⟩ := hrel
                have BW := Lib.hid hB
                have OW := Lib.hid hO
                have m3 := (km0.out.keep hB).cell (i := 3) rfl
                clear hB hO
                by_cases hil : i < k
                · have lI := (ptI_len FC k LR i).trans lR
                  have EI : Hid (ptI FC k LR (i + 1) = ptK FC i (ptI FC k LR i) k) := Lib.hid rfl
                  generalize ptI FC k LR i = LI at *
                  go_wp2_with fail
                  clear m3
                  go_loopw [8] (fun x wr => ∃ q : Nat, x = .int .i64 q ∧ q ≤ k ∧ OwnI wr w1.heap.size (.slice (some ⟨g, 0, none⟩) k cap) (ptK FC i LI q) ∧ Below w1.heap.size w1 wr) (fun x _ => k - (intOf x).toNat)
                  case atStart => exact ⟨0, rfl, Nat.zero_le _, OW.out, BW.out⟩
                  case round =>
                    clear OW BW
                    obtain ⟨q, rfl, hq, hO, hB⟩ := hrel
                    have BW := Lib.hid hB
                    have HB := Lib.hid (HB0.out.trans (hB.mono HB0.out.size))
                    have OW := Lib.hid hO
                    have km := Lib.hid (km0.out.keep hB)
                    clear hB hO
                    by_cases hql : q < k
                    · have lK := (ptK_len FC i LI q).trans lI
                      have EK : Hid (ptK FC i LI (q + 1) = ptS FC i q (ptK FC i LI q)) := Lib.hid rfl
                      generalize ptK FC i LI q = LK at *
                      have NK := Lib.hid (fun D : Of (PastV wr) => NX.out i q hil hql D.world (HB.out.trans ((show Below wr.heap.size wr D.world from D.holds).mono HB.out.size)))
                      have bq := (OW.out.cells (i := q) (by omega)).1
                      have bi := (OW.out.cells (i := i) (by omega)).1
                      have m3 := km.out.cell (i := 3) rfl
                      unfold ptS at EK
                      generalize hx : LK.getD q 0 = x at *
                      have XH := Lib.hid hx
                      clear hx
                      generalize LK.getD i 0 = y at *
                      have d0 : ∀ D : Of (PastV wr), _ := fun D => keepc (show Below wr.heap.size wr D.world from D.holds) bq
                      have d1 : ∀ D : Of (PastV wr), _ := fun D => keepc (show Below wr.heap.size wr D.world from D.holds) bi
                      have e0 : ∀ D : Of (PastV wr), _ := fun D => (km.out.keep (show Below wr.heap.size wr D.world from D.holds)).cell (i := 0) rfl
                      have e1 : ∀ D : Of (PastV wr), _ := fun D => (km.out.keep (show Below wr.heap.size wr D.world from D.holds)).cell (i := 1) rfl
                      have e2 : ∀ D : Of (PastV wr), _ := fun D => (km.out.keep (show Below wr.heap.size wr D.world from D.holds)).cell (i := 2) rfl
                      have e3 : ∀ D : Of (PastV wr), _ := fun D => (km.out.keep (show Below wr.heap.size wr D.world from D.holds)).cell (i := 3) rfl
                      clear bq bi
                      have i0 : (0 : Int) ≤ (i : Int) := by omega
                      have i1 : (i : Int) < (k : Int) := by omega
                      have i2 : ((i : Int)).toNat = i := by omega
                      have q0 : (0 : Int) ≤ (q : Int) := by omega
                      have q1 : (q : Int) < (k : Int) := by omega
                      have q2 : ((q : Int)).toNat = q := by omega
                      have ST := Lib.hid (pastV_stays wr)
                      have ne : Nonempty (Of (PastV wr)) := ⟨⟨wr, Below.refl _ _⟩⟩
                      go_upto_region 17 with fail
                      by_cases hxy : x < y
                      · cases hn : nxB FC i q with
                        | false =>
                          rw [hn] at NK
                          have E : Hid (ptK FC i LI (q + 1) = LK) := Lib.hid (by rw [EK.out, if_neg (fun h => by have := h.2; rw [hn] at this; cases this)])
                          clear EK hn
                          refine wp_region_class (S := PastV wr) (by kernel_rfl) (by kernel_rfl) (Below.refl _ _).drew ?_
                          repeat (go_big_quiet_step (first | (go_at_call 38; first | (with_reducible exact class_call ST.out _ (NK.out _)))))
                          refine wpQuiet_nil ?_
                          rintro _ ⟨D, rfl⟩
                          have hD : Below wr.heap.size wr D.world := D.holds
                          go_wp2
                          go_roundw
                          case rel => exact ⟨q + 1, by go_num, hql, by rw [E.out]; exact OW.out.keep hD, BW.out.trans (hD.mono BW.out.size)⟩
                          case measure => simp [intOf]; omega
                        | true =>
                          rw [hn] at NK
                          have E : Hid (ptK FC i LI (q + 1) = LK.set i x) := Lib.hid (by rw [EK.out, if_pos ⟨hxy, hn⟩])
                          clear EK hn
                          refine wp_region_class (S := PastV wr) (by kernel_rfl) (by kernel_rfl) (Below.refl _ _).drew ?_
                          repeat (go_big_quiet_step (first | (go_at_call 38; first | (with_reducible exact class_call ST.out _ (NK.out _)))))
                          refine wpQuiet_nil ?_
                          rintro _ ⟨D, rfl⟩
                          have hD : Below wr.heap.size wr D.world := D.holds
                          have OD := Lib.hid (OW.out.keep hD)
                          have gq := (OD.out.cells (i := q) (by omega)).1
                          have fi := (OD.out.cells (i := i) (by omega)).2
                          have gi := (OD.out.cells (i := i) (by omega)).1
                          have X := XH
                          rw [X.out] at gq
                          have OS := Lib.hid (OD.out.set i x)
                          have BD := Lib.hid ((BW.out.trans (hD.mono BW.out.size)).setCell (p := ⟨g, i, none⟩) hg (.int .i64 x))
                          generalize D.world = wd at *
                          clear OW OD d0 d1 e0 e1 e2 e3
                          go_wp2
                          go_roundw
                          case rel => exact ⟨q + 1, by go_num, hql, by rw [E.out]; exact OS.out, BD.out⟩
                          case measure => simp [intOf]; omega
                      · have E : Hid (ptK FC i LI (q + 1) = LK) := Lib.hid (by rw [EK.out, if_neg (fun h => hxy h.1)])
                        clear EK
                        refine wp_region_class (S := PastV wr) (by kernel_rfl) (by kernel_rfl) (Below.refl _ _).drew ?_
                        repeat (go_big_quiet_step (first | (go_at_call 38; first | (with_reducible exact class_call ST.out _ (NK.out _)))))
                        refine wpQuiet_nil ?_
                        rintro _ ⟨D, rfl⟩
                        have hD : Below wr.heap.size wr D.world := D.holds
                        go_wp2
                        go_roundw
                        case rel => exact ⟨q + 1, by go_num, hql, by rw [E.out]; exact OW.out.keep hD, BW.out.trans (hD.mono BW.out.size)⟩
                        case measure => simp [intOf]; omega
                    · obtain rfl : q = k := by omega
                      have m3 := km.out.cell (i := 3) rfl
                      go_wp2
                      go_roundw
                      case rel => exact ⟨i + 1, by go_num, hil, by rw [EI.out]; exact OW.out, BW.out⟩
                      case measure => simp [intOf]; omega
                · obtain rfl : i = k := by omega
                  go_wp2
                  go_roundw
                  case rel => exact ⟨r + 1, by go_num, hrl, by rw [ER.out]; exact OW.out, BW.out⟩
                  case measure => simp [intOf]; omega
            · obtain rfl : r = k := by omega
              have HO := Lib.hid (ownI_mono OW.out HB0.out.size)
              have BZ := Lib.hid (HB0.out.trans (BW.out.mono HB0.out.size))
              go_wp2
              go_ret2
              exact ⟨⟨_, rfl, HO.out⟩, BZ.out⟩
end Go.Proofs.Ytkheomaihhcokaa
