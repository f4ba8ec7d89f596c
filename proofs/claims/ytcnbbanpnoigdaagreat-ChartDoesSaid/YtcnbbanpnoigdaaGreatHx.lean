import Derived.Test.YtcnbbanpnoigdaaGreatHu
import Derived.Test.YtcnbbanpnoigdaaGreatHw
import Derived.Test.YtcnbbanpnoigdaaGreatHn
import Derived.Test.YtcnbbanpnoigdaaGreatHm
import Derived.Test.YtcnbbanpnoigdaaGreatHp
import Derived.Test.YtcnbbanpnoigdaaGreatHs
namespace Go.Proofs.YtcnbbanpnoigdaaGreat
open Go.RowKit

theorem take_snoc {l : List Int} {k : Nat} (h : k < l.length) : l.take (k + 1) = l.take k ++ [l.getD k 0] := by
 rw [List.take_add_one, List.getD_eq_getElem?_getD, List.getElem?_eq_getElem h]; rfl
theorem tm_ms {n1 n2 n3 n4 : Nat} {FV FT FN FC : Nat → Nat → Int} (h : tmB n1 n2 n3 n4 FV FT FN FC = true) : msB n1 n2 n3 n4 FV FT FN FC = true := (Bool.and_eq_true_iff.1 h).2
theorem fb_tame {t : Bool} {n : Nat} {FV FC : Nat → Nat → Int} {i ax sd : Int} (h : (chF t n FV FC).fb i ax sd = true) : t = true := by
 cases t with
 | true => rfl
 | false =>
  obtain ⟨_, _, z⟩ := chF_out (t := false) (n := n) (FV := FV) (FC := FC) (i := i) rfl;rw [((ChF.fb_iff _).1 h).1] at z
  cases z
theorem fb_sh {n : Nat} {FV FC : Nat → Nat → Int} {i ax sd : Int} (h : (chF true n FV FC).fb i ax sd = true) : shT true n i ax = true := by
 obtain ⟨⟨k, rfl, hk⟩, hax⟩ := fb_place h;unfold shT;rw [plB_iff.2 ⟨by omega, by omega⟩, decide_eq_true hax]
 rfl
set_option maxRecDepth 100000 in
set_option maxHeartbeats 16000000 in
theorem rfits15_any (pa1 pa2 pa3 pa4 : Option Addr) (n1 n2 n3 n4 c1 c2 c3 c4 : Nat) (FV FT FN FC : Nat → Nat → Int) (ax sd : Int) (a : Option Addr) (m c : Nat) (l : List Int) (i : Int) (w : World) (hm : MsW w pa1 pa2 pa3 pa4 n1 n2 n3 n4 FV FT FN FC) (hr : RowI w a m l) (hm2 : m ≤ 1000000) (h4 : n4 ≤ 1000000) :
  Calls Tryz.prog 14 #[.agg #[.slice pa1 n1 c1, .slice pa2 n2 c2, .slice pa3 n3 c3, .slice pa4 n4 c4], .agg #[.int .i64 ax, .int .i64 sd, .slice a m c], .int .i64 i] w fun e w' => e = .returned (.bool ((chF (tmB n1 n2 n3 n4 FV FT FN FC) n4 FV FC).fits ax sd l i)) ∧ Below w.heap.size w w' := by
 have HB := Lib.hid (Below.refl w.heap.size w);have M := Lib.hid hm;have RL := Lib.hid hr;have hlm := hr.1;have FA := Lib.hid (fun j W (h : Below w.heap.size w W) => rfaces15_any pa1 pa2 pa3 pa4 n1 n2 n3 n4 c1 c2 c3 c4 FV FT FN FC ax sd a m c j W (hm.keep h));have IN := Lib.hid (fun W (h : Below w.heap.size w W) => rin_list a m c l i W (hr.keep h) (by omega));clear hm hr;have FI := Lib.hid (fun W (h : Below w.heap.size w W) => FA.out i W h)
 cases hf : (chF (tmB n1 n2 n3 n4 FV FT FN FC) n4 FV FC).fb i ax sd with
 | false =>
  rw [hf] at FI;rw [ChF.fits_head _ hf];clear hf FA IN M RL
  go_enter Tryz.func14, Tryz.ntmps14
  go_upto_region 1 with fail
  have hbm := below_new1 w (.cells #[.slice pa1 n1 c1, .slice pa2 n2 c2, .slice pa3 n3 c3, .slice pa4 n4 c4] 26)
  have zm : (w.alloc (.cells #[.slice pa1 n1 c1, .slice pa2 n2 c2, .slice pa3 n3 c3, .slice pa4 n4 c4] 26)).heap.size = w.heap.size + 1 := by simp
  have HB := Lib.hid hbm;have km := Lib.hid (Lok.new w 26 #[.slice pa1 n1 c1, .slice pa2 n2 c2, .slice pa3 n3 c3, .slice pa4 n4 c4]);clear hbm;generalize w.alloc (.cells #[.slice pa1 n1 c1, .slice pa2 n2 c2, .slice pa3 n3 c3, .slice pa4 n4 c4] 26) = Vm at *;have hbf := below_new1 Vm (.cells #[.int .i64 ax, .int .i64 sd, .slice a m c] 29);replace km := Lib.hid (km.out.keep hbf)
  have zf : (Vm.alloc (.cells #[.int .i64 ax, .int .i64 sd, .slice a m c] 29)).heap.size = Vm.heap.size + 1 := by simp
  replace HB := Lib.hid (HB.out.trans (hbf.mono HB.out.size));have kf := Lib.hid (Lok.new Vm 29 #[.int .i64 ax, .int .i64 sd, .slice a m c]);clear hbf;generalize Vm.alloc (.cells #[.int .i64 ax, .int .i64 sd, .slice a m c] 29) = Vf at *;rw [zm] at kf;clear zm zf;have m0 := km.out.cell (i := 0) rfl;have m1 := km.out.cell (i := 1) rfl;have m2 := km.out.cell (i := 2) rfl;have m3 := km.out.cell (i := 3) rfl;have f0 := kf.out.cell (i := 0) rfl;have f1 := kf.out.cell (i := 1) rfl;have f2 := kf.out.cell (i := 2) rfl
  go_wp2_with fail
  clear m0 m1 m2 m3 f0 f1 f2
  (((with_reducible refine (FI.out _ HB.out).mono ?_); rintro e w1 ⟨rfl, hb1⟩); replace HB := Lib.hid (HB.out.trans (hb1.mono HB.out.size)); replace km := Lib.hid (km.out.keep hb1); replace kf := Lib.hid (kf.out.keep hb1); clear hb1)
  clear FI;clear km kf
  go_wp2
  go_ret
  exact ⟨rfl, HB.out⟩
 | true =>
  rw [hf] at FI
  cases hin : isIn l i with
  | true =>
   rw [hin] at IN;rw [ChF.fits_in _ (isIn_iff.1 hin)];clear hf hin FA M RL
   go_enter Tryz.func14, Tryz.ntmps14
   go_upto_region 1 with fail
   have hbm := below_new1 w (.cells #[.slice pa1 n1 c1, .slice pa2 n2 c2, .slice pa3 n3 c3, .slice pa4 n4 c4] 26)
   have zm : (w.alloc (.cells #[.slice pa1 n1 c1, .slice pa2 n2 c2, .slice pa3 n3 c3, .slice pa4 n4 c4] 26)).heap.size = w.heap.size + 1 := by simp
   have HB := Lib.hid hbm;have km := Lib.hid (Lok.new w 26 #[.slice pa1 n1 c1, .slice pa2 n2 c2, .slice pa3 n3 c3, .slice pa4 n4 c4]);clear hbm;generalize w.alloc (.cells #[.slice pa1 n1 c1, .slice pa2 n2 c2, .slice pa3 n3 c3, .slice pa4 n4 c4] 26) = Vm at *;have hbf := below_new1 Vm (.cells #[.int .i64 ax, .int .i64 sd, .slice a m c] 29);replace km := Lib.hid (km.out.keep hbf)
   have zf : (Vm.alloc (.cells #[.int .i64 ax, .int .i64 sd, .slice a m c] 29)).heap.size = Vm.heap.size + 1 := by simp
   replace HB := Lib.hid (HB.out.trans (hbf.mono HB.out.size));have kf := Lib.hid (Lok.new Vm 29 #[.int .i64 ax, .int .i64 sd, .slice a m c]);clear hbf;generalize Vm.alloc (.cells #[.int .i64 ax, .int .i64 sd, .slice a m c] 29) = Vf at *;rw [zm] at kf;clear zm zf;have m0 := km.out.cell (i := 0) rfl;have m1 := km.out.cell (i := 1) rfl;have m2 := km.out.cell (i := 2) rfl;have m3 := km.out.cell (i := 3) rfl;have f0 := kf.out.cell (i := 0) rfl;have f1 := kf.out.cell (i := 1) rfl;have f2 := kf.out.cell (i := 2) rfl
   go_wp2_with fail
   clear m0 m1 m2 m3 f0 f1 f2
   (((with_reducible refine (FI.out _ HB.out).mono ?_); rintro e w1 ⟨rfl, hb1⟩); replace HB := Lib.hid (HB.out.trans (hb1.mono HB.out.size)); replace km := Lib.hid (km.out.keep hb1); replace kf := Lib.hid (kf.out.keep hb1); clear hb1)
   clear FI;have f0 := kf.out.cell (i := 0) rfl;have f1 := kf.out.cell (i := 1) rfl;have f2 := kf.out.cell (i := 2) rfl
   go_wp2_with fail
   clear f0 f1 f2
   (((with_reducible refine (IN.out _ HB.out).mono ?_); rintro e w2 ⟨rfl, hb2⟩); replace HB := Lib.hid (HB.out.trans (hb2.mono HB.out.size)); replace km := Lib.hid (km.out.keep hb2); replace kf := Lib.hid (kf.out.keep hb2); clear hb2)
   clear IN;clear km kf
   go_wp2
   go_ret
   exact ⟨rfl, HB.out⟩
  | false =>
   rw [hin] at IN;have ht : tmB n1 n2 n3 n4 FV FT FN FC = true := fb_tame hf
   have hsT : shT (tmB n1 n2 n3 n4 FV FT FN FC) n4 i ax = true := by
    rw [ht];rw [ht] at hf
    exact fb_sh hf
   have SH := Lib.hid (fun j W (h : Below w.heap.size w W) => rshadow15_any pa1 pa2 pa3 pa4 n1 n2 n3 n4 c1 c2 c3 c4 FV FT FN FC j ax W (M.out.keep h));have SI := Lib.hid (fun W (h : Below w.heap.size w W) => SH.out i W h);rw [hsT, show agE true = 0 from rfl] at SI
   simp only [vF_yes] at SI
   have NX := Lib.hid (fun W (h : Below w.heap.size w W) => rnextL_any pa1 pa2 pa3 pa4 n1 n2 n3 n4 c1 c2 c3 c4 FV FT FN FC i W (M.out.keep h));rw [tm_ms ht, ← ht] at NX;have OV := Lib.hid (fun (d1 d2 e1 e2 f1 f2 : Int) (tt : Bool) ht W => roverlap_any (shX FV FC ax.toNat i.toNat 0) (shY FV FC ax.toNat i.toNat 0) (shX FV FC ax.toNat i.toNat 1) (shY FV FC ax.toNat i.toNat 1) (shX FV FC ax.toNat i.toNat 2) (shY FV FC ax.toNat i.toNat 2) d1 d2 e1 e2 f1 f2 tt ht W);have ALL := Lib.hid (fun q => (chF (tmB n1 n2 n3 n4 FV FT FN FC) n4 FV FC).fits_all (l := l) (i := i) hf (isIn_not.1 hin) q)
   have HSK := Lib.hid (fun j (q : (chF (tmB n1 n2 n3 n4 FV FT FN FC) n4 FV FC).fb j ax sd = true) => (by
    rw [ht] at q ⊢
    exact fb_sh q : shT (tmB n1 n2 n3 n4 FV FT FN FC) n4 j ax = true))
   have NXE : Hid (nxA (okN (tmB n1 n2 n3 n4 FV FT FN FC) i n4) FC i n4 = nxA (okN (tmB n1 n2 n3 n4 FV FT FN FC) i n4) FC i n4) := Lib.hid rfl;clear hf hin hsT M;generalize hX : nxA (okN (tmB n1 n2 n3 n4 FV FT FN FC) i n4) FC i n4 = NL at *;have NXB : Hid (∀ j, (chF (tmB n1 n2 n3 n4 FV FT FN FC) n4 FV FC).nx i j = isIn NL j) := Lib.hid (fun j => by rw [← hX]; rfl)
   have hNL : NL.length ≤ 1000000 := by
    rw [← hX];unfold nxA
    split
    ·exact Nat.le_trans (nxL_len FC i.toNat n4) h4
    ·exact Nat.zero_le _
   clear hX NXE ht
   go_enter Tryz.func14, Tryz.ntmps14
   go_upto_region 1 with fail
   have hbm := below_new1 w (.cells #[.slice pa1 n1 c1, .slice pa2 n2 c2, .slice pa3 n3 c3, .slice pa4 n4 c4] 26)
   have zm : (w.alloc (.cells #[.slice pa1 n1 c1, .slice pa2 n2 c2, .slice pa3 n3 c3, .slice pa4 n4 c4] 26)).heap.size = w.heap.size + 1 := by simp
   have HB := Lib.hid hbm;have km := Lib.hid (Lok.new w 26 #[.slice pa1 n1 c1, .slice pa2 n2 c2, .slice pa3 n3 c3, .slice pa4 n4 c4]);clear hbm;generalize w.alloc (.cells #[.slice pa1 n1 c1, .slice pa2 n2 c2, .slice pa3 n3 c3, .slice pa4 n4 c4] 26) = Vm at *;have hbf := below_new1 Vm (.cells #[.int .i64 ax, .int .i64 sd, .slice a m c] 29);replace km := Lib.hid (km.out.keep hbf)
   have zf : (Vm.alloc (.cells #[.int .i64 ax, .int .i64 sd, .slice a m c] 29)).heap.size = Vm.heap.size + 1 := by simp
   replace HB := Lib.hid (HB.out.trans (hbf.mono HB.out.size));have kf := Lib.hid (Lok.new Vm 29 #[.int .i64 ax, .int .i64 sd, .slice a m c]);clear hbf;generalize Vm.alloc (.cells #[.int .i64 ax, .int .i64 sd, .slice a m c] 29) = Vf at *;rw [zm] at kf;clear zm zf;have m0 := km.out.cell (i := 0) rfl;have m1 := km.out.cell (i := 1) rfl;have m2 := km.out.cell (i := 2) rfl;have m3 := km.out.cell (i := 3) rfl;have f0 := kf.out.cell (i := 0) rfl;have f1 := kf.out.cell (i := 1) rfl;have f2 := kf.out.cell (i := 2) rfl
   go_wp2_with fail
   clear m0 m1 m2 m3 f0 f1 f2
   (((with_reducible refine (FI.out _ HB.out).mono ?_); rintro e w1 ⟨rfl, hb1⟩); replace HB := Lib.hid (HB.out.trans (hb1.mono HB.out.size)); replace km := Lib.hid (km.out.keep hb1); replace kf := Lib.hid (kf.out.keep hb1); clear hb1)
   clear FI;have f0 := kf.out.cell (i := 0) rfl;have f1 := kf.out.cell (i := 1) rfl;have f2 := kf.out.cell (i := 2) rfl
   go_wp2_with fail
   clear f0 f1 f2
   (((with_reducible refine (IN.out _ HB.out).mono ?_); rintro e w2 ⟨rfl, hb2⟩); replace HB := Lib.hid (HB.out.trans (hb2.mono HB.out.size)); replace km := Lib.hid (km.out.keep hb2); replace kf := Lib.hid (kf.out.keep hb2); clear hb2)
   clear IN;have m0 := km.out.cell (i := 0) rfl;have m1 := km.out.cell (i := 1) rfl;have m2 := km.out.cell (i := 2) rfl;have m3 := km.out.cell (i := 3) rfl;have f0 := kf.out.cell (i := 0) rfl;have f1 := kf.out.cell (i := 1) rfl;have f2 := kf.out.cell (i := 2) rfl
   go_wp2_with fail
   clear m0 m1 m2 m3 f0 f1 f2;((with_reducible refine (SI.out _ HB.out).mono ?_); rintro e w3 ⟨rfl, hb3⟩);replace HB := Lib.hid (HB.out.trans (hb3.mono HB.out.size));replace km := Lib.hid (km.out.keep hb3);replace kf := Lib.hid (kf.out.keep hb3);clear hb3
   go_upto_region 4 with fail
   have hb3 := below_new1 w3 (.cells #[.int .i64 (shX FV FC ax.toNat i.toNat 0), .int .i64 (shY FV FC ax.toNat i.toNat 0), .int .i64 (shX FV FC ax.toNat i.toNat 1), .int .i64 (shY FV FC ax.toNat i.toNat 1), .int .i64 (shX FV FC ax.toNat i.toNat 2), .int .i64 (shY FV FC ax.toNat i.toNat 2)] 37);replace HB := Lib.hid (HB.out.trans (hb3.mono HB.out.size));replace km := Lib.hid (km.out.keep hb3);replace kf := Lib.hid (kf.out.keep hb3);have k3 := Lib.hid (Lok.new w3 37 #[.int .i64 (shX FV FC ax.toNat i.toNat 0), .int .i64 (shY FV FC ax.toNat i.toNat 0), .int .i64 (shX FV FC ax.toNat i.toNat 1), .int .i64 (shY FV FC ax.toNat i.toNat 1), .int .i64 (shX FV FC ax.toNat i.toNat 2), .int .i64 (shY FV FC ax.toNat i.toNat 2)]);clear hb3;generalize w3.alloc (.cells #[.int .i64 (shX FV FC ax.toNat i.toNat 0), .int .i64 (shY FV FC ax.toNat i.toNat 0), .int .i64 (shX FV FC ax.toNat i.toNat 1), .int .i64 (shY FV FC ax.toNat i.toNat 1), .int .i64 (shX FV FC ax.toNat i.toNat 2), .int .i64 (shY FV FC ax.toNat i.toNat 2)] 37) = V3 at *;generalize w3.heap.size = g3 at *;clear SI;have m0 := km.out.cell (i := 0) rfl;have m1 := km.out.cell (i := 1) rfl;have m2 := km.out.cell (i := 2) rfl;have m3 := km.out.cell (i := 3) rfl
   go_wp2_with fail
   clear m0 m1 m2 m3;((with_reducible refine (NX.out _ HB.out).mono ?_); rintro e w4 ⟨⟨v4, rfl, O4⟩, hb4⟩);clear NX;obtain ⟨aN, cN, rfl, -, -, -, R4⟩ := rowI_of_own O4;clear O4;replace R4 := Lib.hid R4;replace HB := Lib.hid (HB.out.trans (hb4.mono HB.out.size));replace km := Lib.hid (km.out.keep hb4);replace kf := Lib.hid (kf.out.keep hb4);replace k3 := Lib.hid (k3.out.keep hb4);clear hb4;have f2 := kf.out.cell (i := 2) rfl
   have em : (((m : Nat) : Int) == 0) = l.isEmpty := by rw [← hlm]; cases l <;> rfl
   go_upto_region 6 with fail

   go_wp2_with fail
   clear f2 em;generalize hV : w4 = V at *;clear hV
   go_loopw [11, 12] (fun x y wr => ∃ k : Nat, y = .int .i64 k ∧ k ≤ m ∧ x = .bool (l.isEmpty || (l.take k).any fun z => (chF (tmB n1 n2 n3 n4 FV FT FN FC) n4 FV FC).nx i z) ∧ (∀ z ∈ l.take k, (chF (tmB n1 n2 n3 n4 FV FT FN FC) n4 FV FC).okB ax sd i z = true) ∧ Below V.heap.size V wr) (fun _ y _ => m - (intOf y).toNat)
   case atStart => exact ⟨0, rfl, Nat.zero_le _, by rw [List.take_zero, List.any_nil, Bool.or_false], (fun z h => by rw [List.take_zero] at h; exact absurd h List.not_mem_nil), Below.refl _ _⟩
   case round =>
    obtain ⟨k, rfl, hk, rfl, hR, hB⟩ := hrel;have HR := Lib.hid hR;have BV := Lib.hid hB;clear hR hB;have BW := Lib.hid (HB.out.trans (BV.out.mono HB.out.size));have km1 := Lib.hid (km.out.keep BV.out);have kf1 := Lib.hid (kf.out.keep BV.out);have k31 := Lib.hid (k3.out.keep BV.out);have R41 := Lib.hid (R4.out.keep BV.out);have hgm : w.heap.size < wr.heap.size := km1.out.lt;have hgf : w.heap.size + 1 < wr.heap.size := kf1.out.lt;have f2 := kf1.out.cell (i := 2) rfl
    by_cases hlt : k < m
    ·obtain ⟨b, o, rfl, hb, hc⟩ := (RL.out.keep BW.out).at hlt
     have x0 := hc k hlt
     have hkl : k < l.length := by omega
     have hmem := mem_at hkl;have TK := Lib.hid (take_snoc hkl);clear hc hb;generalize hz : l.getD k 0 = z at *;clear hz;have MEM := Lib.hid hmem;clear hmem;have X0 := Lib.hid x0
     have k0 : (0 : Int) ≤ (k : Int) := by omega
     have k1 : (k : Int) < (m : Int) := by omega
     have k2 : ((k : Int)).toNat = k := by omega
     have FZ := Lib.hid (fun D : Of (PastV wr) => FA.out z D.world (BW.out.trans ((show Below wr.heap.size wr D.world from D.holds).mono BW.out.size)));have ST := Lib.hid (pastV_stays wr);have ne : Nonempty (Of (PastV wr)) := ⟨⟨wr, Below.refl _ _⟩⟩;have d0 : ∀ D : Of (PastV wr), _ := fun D => (km1.out.keep (show Below wr.heap.size wr D.world from D.holds)).cell (i := 0) rfl;have d1 : ∀ D : Of (PastV wr), _ := fun D => (km1.out.keep (show Below wr.heap.size wr D.world from D.holds)).cell (i := 1) rfl;have d2 : ∀ D : Of (PastV wr), _ := fun D => (km1.out.keep (show Below wr.heap.size wr D.world from D.holds)).cell (i := 2) rfl;have d3 : ∀ D : Of (PastV wr), _ := fun D => (km1.out.keep (show Below wr.heap.size wr D.world from D.holds)).cell (i := 3) rfl;have e0 : ∀ D : Of (PastV wr), _ := fun D => (kf1.out.keep (show Below wr.heap.size wr D.world from D.holds)).cell (i := 0) rfl;have e1 : ∀ D : Of (PastV wr), _ := fun D => (kf1.out.keep (show Below wr.heap.size wr D.world from D.holds)).cell (i := 1) rfl;have e2 : ∀ D : Of (PastV wr), _ := fun D => (kf1.out.keep (show Below wr.heap.size wr D.world from D.holds)).cell (i := 2) rfl;have x1 : ∀ D : Of (PastV wr), _ := fun D => keepc (show Below wr.heap.size wr D.world from D.holds) X0.out
     go_upto_region 9 with fail
     clear x0 f2
     cases hfz : (chF (tmB n1 n2 n3 n4 FV FT FN FC) n4 FV FC).fb z ax sd with
     | false =>
      rw [hfz] at FZ;have E := Lib.hid ((chF (tmB n1 n2 n3 n4 FV FT FN FC) n4 FV FC).fits_bad (ax := ax) (sd := sd) (i := i) MEM.out (by unfold ChF.okB; rw [hfz]; rfl));clear hfz
      refine wp_region_class (S := PastV wr) (by kernel_rfl) (by kernel_rfl) (Below.refl _ _).drew ?_
      repeat (go_big_quiet_step (first | (go_at_call 39; first | (with_reducible exact class_call ST.out _ (FZ.out _)))))
      refine wpQuiet_nil ?_
      rintro _ ⟨D, rfl⟩
      have hD : Below wr.heap.size wr D.world := D.holds;have B9 := Lib.hid (BW.out.trans (hD.mono BW.out.size))
      go_wp2
      go_ret
      exact ⟨by rw [E.out]; rfl, B9.out⟩
     | true =>
      rw [hfz] at FZ;have SZ := Lib.hid (fun W (h : Below w.heap.size w W) => SH.out z W h);rw [HSK.out z hfz, show agE true = 0 from rfl] at SZ
      simp only [vF_yes] at SZ
      have FZT := Lib.hid hfz;clear hfz
      refine wp_region_class (S := PastV wr) (by kernel_rfl) (by kernel_rfl) (Below.refl _ _).drew ?_
      repeat (go_big_quiet_step (first | (go_at_call 39; first | (with_reducible exact class_call ST.out _ (FZ.out _)))))
      refine wpQuiet_nil ?_
      rintro _ ⟨D, rfl⟩
      have hD : Below wr.heap.size wr D.world := D.holds;replace BW := Lib.hid (BW.out.trans (hD.mono BW.out.size));replace BV := Lib.hid (BV.out.trans (hD.mono BV.out.size));replace km1 := Lib.hid (km1.out.keep hD);replace kf1 := Lib.hid (kf1.out.keep hD);replace k31 := Lib.hid (k31.out.keep hD);replace R41 := Lib.hid (R41.out.keep hD);replace X0 := Lib.hid (keepc hD X0.out);clear d0 d1 d2 d3 e0 e1 e2 x1 ST ne FZ hD hgm hgf;generalize D.world = V1 at *;have hgm : w.heap.size < V1.heap.size := km1.out.lt;have hgf : w.heap.size + 1 < V1.heap.size := kf1.out.lt
      go_upto_region 11 with fail
      refine wp_region_rel (by kernel_rfl) [62, 63, 64, 65, 66, 67, 68, 69, 70, 71, 72, 73, 13, 14] ?Fr1 ?hFr1
       (fun L u W => Below V1.heap.size V1 W ∧ (L 0 = true → u 63 = .agg #[.slice pa1 n1 c1, .slice pa2 n2 c2, .slice pa3 n3 c3, .slice pa4 n4 c4]) ∧ (L 1 = true → u 64 = .pointer (some ⟨w.heap.size + 1, 2, none⟩)) ∧ (L 2 = true → u 65 = .slice (some ⟨b, o, none⟩) m c) ∧ (L 3 = true → u 66 = .int .i64 (k : Int)) ∧ (L 4 = true → u 67 = .pointer (some ⟨b, o + k, none⟩)) ∧ (L 5 = true → u 68 = .int .i64 z) ∧ (L 6 = true → u 69 = .pointer (some ⟨w.heap.size + 1, 0, none⟩)) ∧ (L 7 = true → u 70 = .int .i64 ax) ∧ (L 8 = true → u 71 = .tuple #[.agg #[.int .i64 (shX FV FC ax.toNat z.toNat 0), .int .i64 (shY FV FC ax.toNat z.toNat 0), .int .i64 (shX FV FC ax.toNat z.toNat 1), .int .i64 (shY FV FC ax.toNat z.toNat 1), .int .i64 (shX FV FC ax.toNat z.toNat 2), .int .i64 (shY FV FC ax.toNat z.toNat 2)], .int .i64 0]) ∧ (L 9 = true → u 62 = .tuple #[.agg #[.int .i64 (shX FV FC ax.toNat z.toNat 0), .int .i64 (shY FV FC ax.toNat z.toNat 0), .int .i64 (shX FV FC ax.toNat z.toNat 1), .int .i64 (shY FV FC ax.toNat z.toNat 1), .int .i64 (shX FV FC ax.toNat z.toNat 2), .int .i64 (shY FV FC ax.toNat z.toNat 2)], .int .i64 0]) ∧ (L 10 = true → u 72 = .agg #[.int .i64 (shX FV FC ax.toNat z.toNat 0), .int .i64 (shY FV FC ax.toNat z.toNat 0), .int .i64 (shX FV FC ax.toNat z.toNat 1), .int .i64 (shY FV FC ax.toNat z.toNat 1), .int .i64 (shX FV FC ax.toNat z.toNat 2), .int .i64 (shY FV FC ax.toNat z.toNat 2)]) ∧ (L 11 = true → u 73 = .int .i64 0) ∧ (L 14 = true → u 14 = .int .i64 0) ∧ (L 12 = true → ∃ (g : Nat) (x12_0 x12_1 x12_2 x12_3 x12_4 x12_5 : Value), u 13 = .pointer (some ⟨g, 0, none⟩) ∧ V1.heap.size ≤ g ∧ Lok W g 37 #[x12_0, x12_1, x12_2, x12_3, x12_4, x12_5] ∧ (L 13 = true → x12_0 = .int .i64 (shX FV FC ax.toNat z.toNat 0) ∧ x12_1 = .int .i64 (shY FV FC ax.toNat z.toNat 0) ∧ x12_2 = .int .i64 (shX FV FC ax.toNat z.toNat 1) ∧ x12_3 = .int .i64 (shY FV FC ax.toNat z.toNat 1) ∧ x12_4 = .int .i64 (shX FV FC ax.toNat z.toNat 2) ∧ x12_5 = .int .i64 (shY FV FC ax.toNat z.toNat 2))) ∧ (L 13 = true → L 12 = true)) (by kernel_rfl) (by kernel_rfl) 15 rfl ?h0r1 ?stepr1 ?finr1
      case hFr1 => intro u; simp only [putAll, Act.put, List.setIfInBounds_toArray, List.set]; exact rfl
      case h0r1 => intro L u hL; exact ⟨(Below.refl _ _).drew, (fun h => by simp [hL] at h), (fun h => by simp [hL] at h), (fun h => by simp [hL] at h), (fun h => by simp [hL] at h), (fun h => by simp [hL] at h), (fun h => by simp [hL] at h), (fun h => by simp [hL] at h), (fun h => by simp [hL] at h), (fun h => by simp [hL] at h), (fun h => by simp [hL] at h), (fun h => by simp [hL] at h), (fun h => by simp [hL] at h), (fun h => by simp [hL] at h), (fun h => by simp [hL] at h), (fun h => by simp [hL] at h)⟩
      case stepr1 =>
       refine ops_all (ops_cons ?s0r1 (ops_cons ?s1r1 (ops_cons ?s2r1 (ops_cons ?s3r1 (ops_cons ?s4r1 (ops_cons ?s5r1 (ops_cons ?s6r1 (ops_cons ?s7r1 (ops_cons ?s8r1 (ops_cons ?s9r1 (ops_cons ?s10r1 (ops_cons ?s11r1 (ops_cons ?s12r1 (ops_cons ?s13r1 (ops_cons ?s14r1 (ops_nil))))))))))))))))
       case s0r1 =>
        rintro L u W ⟨hB, c0, c1, c2, c3, c4, c5, c6, c7, c8, c9, c10, c11, c14, c12, d13⟩ hf hd K hK
        dsimp only at hK
        have t0 := (km1.out.keep hB).cell (i := 0) rfl;have t1 := (km1.out.keep hB).cell (i := 1) rfl;have t2 := (km1.out.keep hB).cell (i := 2) rfl;have t3 := (km1.out.keep hB).cell (i := 3) rfl;clear hd
        go_simp
        refine hK _ _ ?_ (fun h => by cases h)
        intro s hs
        cases hs
        exact ⟨hB, (fun _ => rfl), c1, c2, c3, c4, c5, c6, c7, c8, c9, c10, c11, c14, c12, d13⟩
       case s1r1 =>
        rintro L u W ⟨hB, c0, c1, c2, c3, c4, c5, c6, c7, c8, c9, c10, c11, c14, c12, d13⟩ hf hd K hK
        dsimp only at hK
        clear hd
        go_simp
        refine hK _ _ ?_ (fun h => by cases h)
        intro s hs
        cases hs
        exact ⟨hB, c0, (fun _ => rfl), c2, c3, c4, c5, c6, c7, c8, c9, c10, c11, c14, c12, d13⟩
       case s2r1 =>
        rintro L u W ⟨hB, c0, c1, c2, c3, c4, c5, c6, c7, c8, c9, c10, c11, c14, c12, d13⟩ hf hd K hK
        dsimp only at hK
        have hd1 : L 1 = true := (by first | exact hd ⟨1, .data⟩ (by simp) rfl | exact hd ⟨1, .guard⟩ (by simp) rfl | exact hd ⟨1, .phase⟩ (by simp) rfl | exact hd ⟨1, .chain⟩ (by simp) rfl);have e1 := c1 hd1;rw [e1] at hK;have t0 := (kf1.out.keep hB).cell (i := 2) rfl;clear hd1;clear hd
        go_simp
        refine hK _ _ ?_ (fun h => by cases h)
        intro s hs
        cases hs
        exact ⟨hB, c0, c1, (fun _ => rfl), c3, c4, c5, c6, c7, c8, c9, c10, c11, c14, c12, d13⟩
       case s3r1 =>
        rintro L u W ⟨hB, c0, c1, c2, c3, c4, c5, c6, c7, c8, c9, c10, c11, c14, c12, d13⟩ hf hd K hK
        dsimp only at hK
        clear hd
        go_simp
        refine hK _ _ ?_ (fun h => by cases h)
        intro s hs
        cases hs
        exact ⟨hB, c0, c1, c2, (fun _ => rfl), c4, c5, c6, c7, c8, c9, c10, c11, c14, c12, d13⟩
       case s4r1 =>
        rintro L u W ⟨hB, c0, c1, c2, c3, c4, c5, c6, c7, c8, c9, c10, c11, c14, c12, d13⟩ hf hd K hK
        dsimp only at hK
        have hd2 : L 2 = true := (by first | exact hd ⟨2, .data⟩ (by simp) rfl | exact hd ⟨2, .guard⟩ (by simp) rfl | exact hd ⟨2, .phase⟩ (by simp) rfl | exact hd ⟨2, .chain⟩ (by simp) rfl);have hd3 : L 3 = true := (by first | exact hd ⟨3, .data⟩ (by simp) rfl | exact hd ⟨3, .guard⟩ (by simp) rfl | exact hd ⟨3, .phase⟩ (by simp) rfl | exact hd ⟨3, .chain⟩ (by simp) rfl);have e2 := c2 hd2;rw [e2] at hK;have e3 := c3 hd3;rw [e3] at hK;clear hd2;clear hd3;clear hd
        go_simp
        refine hK _ _ ?_ (fun h => by cases h)
        intro s hs
        cases hs
        exact ⟨hB, c0, c1, c2, c3, (fun _ => rfl), c5, c6, c7, c8, c9, c10, c11, c14, c12, d13⟩
       case s5r1 =>
        rintro L u W ⟨hB, c0, c1, c2, c3, c4, c5, c6, c7, c8, c9, c10, c11, c14, c12, d13⟩ hf hd K hK
        dsimp only at hK
        have hd4 : L 4 = true := (by first | exact hd ⟨4, .data⟩ (by simp) rfl | exact hd ⟨4, .guard⟩ (by simp) rfl | exact hd ⟨4, .phase⟩ (by simp) rfl | exact hd ⟨4, .chain⟩ (by simp) rfl);have e4 := c4 hd4;rw [e4] at hK;have t0 := keepc hB X0.out;clear hd4;clear hd
        go_simp
        refine hK _ _ ?_ (fun h => by cases h)
        intro s hs
        cases hs
        exact ⟨hB, c0, c1, c2, c3, c4, (fun _ => rfl), c6, c7, c8, c9, c10, c11, c14, c12, d13⟩
       case s6r1 =>
        rintro L u W ⟨hB, c0, c1, c2, c3, c4, c5, c6, c7, c8, c9, c10, c11, c14, c12, d13⟩ hf hd K hK
        dsimp only at hK
        clear hd
        go_simp
        refine hK _ _ ?_ (fun h => by cases h)
        intro s hs
        cases hs
        exact ⟨hB, c0, c1, c2, c3, c4, c5, (fun _ => rfl), c7, c8, c9, c10, c11, c14, c12, d13⟩
       case s7r1 =>
        rintro L u W ⟨hB, c0, c1, c2, c3, c4, c5, c6, c7, c8, c9, c10, c11, c14, c12, d13⟩ hf hd K hK
        dsimp only at hK
        have hd6 : L 6 = true := (by first | exact hd ⟨6, .data⟩ (by simp) rfl | exact hd ⟨6, .guard⟩ (by simp) rfl | exact hd ⟨6, .phase⟩ (by simp) rfl | exact hd ⟨6, .chain⟩ (by simp) rfl);have e6 := c6 hd6;rw [e6] at hK;have t0 := (kf1.out.keep hB).cell (i := 0) rfl;clear hd6;clear hd
        go_simp
        refine hK _ _ ?_ (fun h => by cases h)
        intro s hs
        cases hs
        exact ⟨hB, c0, c1, c2, c3, c4, c5, c6, (fun _ => rfl), c8, c9, c10, c11, c14, c12, d13⟩
       case s8r1 =>
        rintro L u W ⟨hB, c0, c1, c2, c3, c4, c5, c6, c7, c8, c9, c10, c11, c14, c12, d13⟩ hf hd K hK
        dsimp only at hK
        have hd0 : L 0 = true := (by first | exact hd ⟨0, .data⟩ (by simp) rfl | exact hd ⟨0, .guard⟩ (by simp) rfl | exact hd ⟨0, .phase⟩ (by simp) rfl | exact hd ⟨0, .chain⟩ (by simp) rfl);have hd5 : L 5 = true := (by first | exact hd ⟨5, .data⟩ (by simp) rfl | exact hd ⟨5, .guard⟩ (by simp) rfl | exact hd ⟨5, .phase⟩ (by simp) rfl | exact hd ⟨5, .chain⟩ (by simp) rfl);have hd7 : L 7 = true := (by first | exact hd ⟨7, .data⟩ (by simp) rfl | exact hd ⟨7, .guard⟩ (by simp) rfl | exact hd ⟨7, .phase⟩ (by simp) rfl | exact hd ⟨7, .chain⟩ (by simp) rfl);have e0 := c0 hd0;rw [e0] at hK;have e5 := c5 hd5;rw [e5] at hK;have e7 := c7 hd7;rw [e7] at hK;clear hd0;clear hd5;clear hd7;clear hd
        go_simp
        go_wp2_with (go_at_call 9; ((with_reducible refine (SZ.out _ (BW.out.trans (hB.mono BW.out.size))).mono ?_); rintro e w5 ⟨rfl, hb⟩))
        refine hK _ _ ?_ (fun h => by cases h)
        intro s hs
        cases hs
        exact ⟨hB.trans (hb.mono hB.size), c0, c1, c2, c3, c4, c5, c6, c7, (fun _ => rfl), c9, c10, c11, c14, (fun h => by obtain ⟨g, x12_0, x12_1, x12_2, x12_3, x12_4, x12_5, k1, k2, k3, k4⟩ := c12 h; exact ⟨g, x12_0, x12_1, x12_2, x12_3, x12_4, x12_5, k1, k2, k3.keep hb, k4⟩), d13⟩
       case s9r1 =>
        rintro L u W ⟨hB, c0, c1, c2, c3, c4, c5, c6, c7, c8, c9, c10, c11, c14, c12, d13⟩ hf hd K hK
        dsimp only at hK
        have hd8 : L 8 = true := (by first | exact hd ⟨8, .data⟩ (by simp) rfl | exact hd ⟨8, .guard⟩ (by simp) rfl | exact hd ⟨8, .phase⟩ (by simp) rfl | exact hd ⟨8, .chain⟩ (by simp) rfl);have e8 := c8 hd8;rw [e8] at hK;clear hd8;clear hd
        go_simp
        refine hK _ _ ?_ (fun h => by cases h)
        intro s hs
        cases hs
        exact ⟨hB, c0, c1, c2, c3, c4, c5, c6, c7, c8, (fun _ => rfl), c10, c11, c14, c12, d13⟩
       case s10r1 =>
        rintro L u W ⟨hB, c0, c1, c2, c3, c4, c5, c6, c7, c8, c9, c10, c11, c14, c12, d13⟩ hf hd K hK
        dsimp only at hK
        have hd9 : L 9 = true := (by first | exact hd ⟨9, .data⟩ (by simp) rfl | exact hd ⟨9, .guard⟩ (by simp) rfl | exact hd ⟨9, .phase⟩ (by simp) rfl | exact hd ⟨9, .chain⟩ (by simp) rfl);have e9 := c9 hd9;rw [e9] at hK;clear hd9;clear hd
        go_simp
        refine hK _ _ ?_ (fun h => by cases h)
        intro s hs
        cases hs
        exact ⟨hB, c0, c1, c2, c3, c4, c5, c6, c7, c8, c9, (fun _ => rfl), c11, c14, c12, d13⟩
       case s11r1 =>
        rintro L u W ⟨hB, c0, c1, c2, c3, c4, c5, c6, c7, c8, c9, c10, c11, c14, c12, d13⟩ hf hd K hK
        dsimp only at hK
        have hd9 : L 9 = true := (by first | exact hd ⟨9, .data⟩ (by simp) rfl | exact hd ⟨9, .guard⟩ (by simp) rfl | exact hd ⟨9, .phase⟩ (by simp) rfl | exact hd ⟨9, .chain⟩ (by simp) rfl);have e9 := c9 hd9;rw [e9] at hK;clear hd9;clear hd
        go_simp
        refine hK _ _ ?_ (fun h => by cases h)
        intro s hs
        cases hs
        exact ⟨hB, c0, c1, c2, c3, c4, c5, c6, c7, c8, c9, c10, (fun _ => rfl), c14, c12, d13⟩
       case s12r1 =>
        rintro L u W ⟨hB, c0, c1, c2, c3, c4, c5, c6, c7, c8, c9, c10, c11, c14, c12, d13⟩ hf hd K hK
        dsimp only at hK
        go_simp
        have hb : Below W.heap.size W (W.alloc (.cells #[.int .i64 0, .int .i64 0, .int .i64 0, .int .i64 0, .int .i64 0, .int .i64 0] 37)) := (Below.refl _ W).alloc (Nat.le_refl _) _
        refine hK _ _ ?_ (fun h => by cases h)
        intro s hs
        cases hs
        exact ⟨hB.trans (hb.mono hB.size), c0, c1, c2, c3, c4, c5, c6, c7, c8, c9, c10, c11, c14, (fun _ => ⟨_, _, _, _, _, _, _, rfl, hB.size, Lok.new _ _ _, fun h => absurd (d13 h) (by rw [hf]; decide)⟩), (fun _ => rfl)⟩
       case s13r1 =>
        rintro L u W ⟨hB, c0, c1, c2, c3, c4, c5, c6, c7, c8, c9, c10, c11, c14, c12, d13⟩ hf hd K hK
        dsimp only at hK
        have hd12 : L 12 = true := hd ⟨12, .data⟩ (by simp) rfl;have hd10 : L 10 = true := (by first | exact hd ⟨10, .data⟩ (by simp) rfl | exact hd ⟨10, .guard⟩ (by simp) rfl | exact hd ⟨10, .phase⟩ (by simp) rfl | exact hd ⟨10, .chain⟩ (by simp) rfl);obtain ⟨g, x12_0, x12_1, x12_2, x12_3, x12_4, x12_5, e12, k2, k3, k4⟩ := c12 hd12;rw [e12] at hK;have e10 := c10 hd10;rw [e10] at hK;have t0 := k3.cell (i := 0) rfl;have f0 := k3.frozen 0;have t1 := k3.cell (i := 1) rfl;have f1 := k3.frozen 1;have t2 := k3.cell (i := 2) rfl;have f2 := k3.frozen 2;have t3 := k3.cell (i := 3) rfl;have f3 := k3.frozen 3;have t4 := k3.cell (i := 4) rfl;have f4 := k3.frozen 4;have t5 := k3.cell (i := 5) rfl;have f5 := k3.frozen 5;have HH := Lib.hid (And.intro trivial trivial);clear hd;have hd12' := Lib.hid hd12;clear hd12;have hd10' := Lib.hid hd10;clear hd10
        go_simp
        have hd12 := hd12'.out;have hd10 := hd10'.out;have hlok := (((((k3.set (i := 0) (v := .int .i64 (shX FV FC ax.toNat z.toNat 0))).set (i := 1) (v := .int .i64 (shY FV FC ax.toNat z.toNat 0))).set (i := 2) (v := .int .i64 (shX FV FC ax.toNat z.toNat 1))).set (i := 3) (v := .int .i64 (shY FV FC ax.toNat z.toNat 1))).set (i := 4) (v := .int .i64 (shX FV FC ax.toNat z.toNat 2))).set (i := 5) (v := .int .i64 (shY FV FC ax.toNat z.toNat 2))
        refine hK undef _ (fun s h => by cases h) (fun _ => ?_)
        exact ⟨(((((hB.setCell k2 _).setCell k2 _).setCell k2 _).setCell k2 _).setCell k2 _).setCell k2 _, c0, c1, c2, c3, c4, c5, c6, c7, c8, c9, (fun _ => rfl), c11, c14, (fun _ => ⟨g, _, _, _, _, _, _, rfl, k2, hlok, fun _ => ⟨rfl, rfl, rfl, rfl, rfl, rfl⟩⟩), (fun _ => hd12)⟩
       case s14r1 =>
        rintro L u W ⟨hB, c0, c1, c2, c3, c4, c5, c6, c7, c8, c9, c10, c11, c14, c12, d13⟩ hf hd K hK
        dsimp only at hK
        have hd11 : L 11 = true := (by first | exact hd ⟨11, .data⟩ (by simp) rfl | exact hd ⟨11, .guard⟩ (by simp) rfl | exact hd ⟨11, .phase⟩ (by simp) rfl | exact hd ⟨11, .chain⟩ (by simp) rfl);have e11 := c11 hd11;rw [e11] at hK;clear hd11;clear hd
        go_simp
        refine hK _ _ ?_ (fun h => by cases h)
        intro s hs
        cases hs
        exact ⟨hB, c0, c1, c2, c3, c4, c5, c6, c7, c8, c9, c10, c11, (fun _ => rfl), c12, d13⟩
      case finr1 =>
       rintro L u W hL ⟨hB, c0, c1, c2, c3, c4, c5, c6, c7, c8, c9, c10, c11, c14, c12, d13⟩
       have e0 := c0 (hL 0 (by decide));have e1 := c1 (hL 1 (by decide));have e2 := c2 (hL 2 (by decide));have e3 := c3 (hL 3 (by decide));have e4 := c4 (hL 4 (by decide));have e5 := c5 (hL 5 (by decide));have e6 := c6 (hL 6 (by decide));have e7 := c7 (hL 7 (by decide));have e8 := c8 (hL 8 (by decide));have e9 := c9 (hL 9 (by decide));have e10 := c10 (hL 10 (by decide));have e11 := c11 (hL 11 (by decide));have e14 := c14 (hL 14 (by decide));obtain ⟨g12, x12_0, x12_1, x12_2, x12_3, x12_4, x12_5, e12, hg12, hlok12, hst12⟩ := c12 (hL 12 (by decide));obtain ⟨rfl, rfl, rfl, rfl, rfl, rfl⟩ := hst12 (hL 13 (by decide));clear hst12;clear hL c0 c1 c2 c3 c4 c5 c6 c7 c8 c9 c10 c11 c14 c12 d13
       try simp only [e0, e1, e2, e3, e4, e5, e6, e7, e8, e9, e10, e11, e14, e12]
       clear e0 e1 e2 e3 e4 e5 e6 e7 e8 e9 e10 e11 e14 e12;have kj := Lib.hid hlok12;have BX := Lib.hid (BV.out.trans (hB.mono BV.out.size));have BY := Lib.hid (BW.out.trans (hB.mono BW.out.size));have kf2 := Lib.hid (kf1.out.keep hB);have k32 := Lib.hid (k31.out.keep hB);have R42 := Lib.hid (R41.out.keep hB);have X2 := Lib.hid (keepc hB X0.out);clear hlok12 hB km1 kf1 k31 R41 X0 BV BW;have RJ := Lib.hid (fun W => OV.out (shX FV FC ax.toNat z.toNat 0) (shY FV FC ax.toNat z.toNat 0) (shX FV FC ax.toNat z.toNat 1) (shY FV FC ax.toNat z.toNat 1) (shX FV FC ax.toNat z.toNat 2) (shY FV FC ax.toNat z.toNat 2) _ rfl W);have OVE : Hid ((mV (shR FV FC ax.toNat i.toNat && shR FV FC ax.toNat z.toNat) (shM FV FC ax.toNat i.toNat z.toNat) == 1) = (chF (tmB n1 n2 n3 n4 FV FT FN FC) n4 FV FC).ov ax i z) := Lib.hid rfl;unfold shR shM at OVE;have p0 := kj.out.cell (i := 0) rfl;have p1 := kj.out.cell (i := 1) rfl;have p2 := kj.out.cell (i := 2) rfl;have p3 := kj.out.cell (i := 3) rfl;have p4 := kj.out.cell (i := 4) rfl;have p5 := kj.out.cell (i := 5) rfl;have q0 := k32.out.cell (i := 0) rfl;have q1 := k32.out.cell (i := 1) rfl;have q2 := k32.out.cell (i := 2) rfl;have q3 := k32.out.cell (i := 3) rfl;have q4 := k32.out.cell (i := 4) rfl;have q5 := k32.out.cell (i := 5) rfl;rw [OVE.out] at RJ
       go_wp2_with fail
       clear p0 p1 p2 p3 p4 p5 q0 q1 q2 q3 q4 q5;((with_reducible refine (RJ.out _).mono ?_); rintro e w7 ⟨rfl, hb7⟩);replace BX := Lib.hid (BX.out.trans (hb7.mono BX.out.size));replace BY := Lib.hid (BY.out.trans (hb7.mono BY.out.size));replace kf2 := Lib.hid (kf2.out.keep hb7);replace R42 := Lib.hid (R42.out.keep hb7);replace X2 := Lib.hid (keepc hb7 X2.out);clear hb7 RJ kj k32 OVE
       cases hov : (chF (tmB n1 n2 n3 n4 FV FT FN FC) n4 FV FC).ov ax i z with
       | true =>
        have E := Lib.hid ((chF (tmB n1 n2 n3 n4 FV FT FN FC) n4 FV FC).fits_bad (ax := ax) (sd := sd) (i := i) MEM.out (by unfold ChF.okB; rw [hov]; simp));clear hov
        go_wp2
        go_ret
        exact ⟨by rw [E.out]; rfl, BY.out⟩
       | false =>
        have OK : Hid (∀ y ∈ l.take (k + 1), (chF (tmB n1 n2 n3 n4 FV FT FN FC) n4 FV FC).okB ax sd i y = true) := Lib.hid (fun y hy => by
         rw [TK.out] at hy
         rcases List.mem_append.1 hy with q | q
         ·exact HR.out y q
         ·rw [List.mem_singleton.1 q]
          unfold ChF.okB;rw [FZT.out, hov]
          rfl)
        clear hov
        have AN : Hid ((l.isEmpty || (l.take (k + 1)).any fun y => (chF (tmB n1 n2 n3 n4 FV FT FN FC) n4 FV FC).nx i y) = ((l.isEmpty || (l.take k).any fun y => (chF (tmB n1 n2 n3 n4 FV FT FN FC) n4 FV FC).nx i y) || isIn NL z)) := Lib.hid (by
         rw [TK.out, List.any_append, ← NXB.out z, List.any_cons, List.any_nil, Bool.or_false, Bool.or_assoc])
        have INZ := Lib.hid (fun W (h : RowI W aN NL.length NL) => rin_list aN NL.length cN NL z W h (by omega))
        cases ht1 : (l.isEmpty || (l.take k).any fun y => (chF (tmB n1 n2 n3 n4 FV FT FN FC) n4 FV FC).nx i y) with
        | true =>
         rw [ht1] at AN
         go_wp2
         go_roundw
         case rel => exact ⟨k + 1, by go_num, hlt, by rw [AN.out]; rfl, OK.out, BX.out⟩
         case measure => simp [intOf]; omega
        | false =>
         rw [ht1, Bool.false_or] at AN;have g2 := kf2.out.cell (i := 2) rfl;have x9 := X2.out
         go_wp2_with fail
         ((with_reducible refine (INZ.out _ R42.out).mono ?_); rintro e w8 ⟨rfl, hb8⟩);replace BX := Lib.hid (BX.out.trans (hb8.mono BX.out.size));clear hb8 g2 x9
         go_wp2
         go_roundw
         case rel => exact ⟨k + 1, by go_num, hlt, by rw [AN.out], OK.out, BX.out⟩
         case measure => simp [intOf]; omega
    ·obtain rfl : k = m := by omega
     have htk : l.take k = l := List.take_of_length_le (by omega);rw [htk];have E := Lib.hid (ALL.out (by have := HR.out; rwa [htk] at this));clear htk
     go_wp2
     go_ret
     exact ⟨by rw [E.out]; rfl, BW.out⟩
end Go.Proofs.YtcnbbanpnoigdaaGreat
namespace Go.Proofs.YtcnbbanpnoigdaaGreat
open Go.RowKit

theorem app_intD {W : World} {ops : Array Oper} {rest : List Oper} {o : Oper} {a : Act} {Q : Exit → Act → World → Prop} (hgd : o.guard = none) (s x : Operand)
  (ho : o.op = .call { callee := .builtin .append, args := #[s, x], argTypes := #[27, 27] })
  (base : Nat) (v : Value) (L : List Int) (z : Int) (hs : a.eval s = v) (hown : OwnI W base v L) (hx : a.eval x = .slice (some ⟨W.heap.size, 0, none⟩) 1 1) (hk : L.length ≤ 1000000) (hbase : base ≤ W.heap.size)
  (h : ∀ v' w', OwnI w' base v' (L ++ [z]) → Below base W w' → wpList Tryz.prog ops Q rest (a.put o.dst v') w') : wpList Tryz.prog ops Q (o :: rest) a (W.alloc (.cells #[.int .i64 z] 3)) := by
 obtain ⟨i0, hi, hz0, hz1, hz2⟩ := info_parts infoI
 refine wpList_append_own _ hgd s x 27 ho base 3 i0 (.int .i64 0) 1 8 Tryz.underlying27 hi hz0 hz1 hz2 rfl (by decide) v L.length (L.map (Value.int .i64)) hs (World.ownsRow.alloc hown _) ⟨W.heap.size, 0, none⟩ 1 1 [.int .i64 z] hx rfl ?_ ?_ ?_ ?_ ?_ ?_
 ·intro j u hj
  match j, hj with
  | 0, hj => simp at hj; subst hj; simp [Addr.add]
 ·intro u hu; simp at hu; subst hu; rfl
 ·unfold maxLen; omega
 ·omega
 ·simp; omega
 ·intro v' w1 hown' hgrow _
  refine h v' w1 ?_ (((Below.refl base W).alloc hbase _).grown hgrow (by simp; omega) (fun g hg => (hown.lt g hg).1))
  unfold OwnI;rw [List.length_append, List.map_append]
  exact hown'

set_option maxRecDepth 100000 in
set_option maxHeartbeats 8000000 in
theorem rleast15_any (pa1 pa2 pa3 pa4 : Option Addr) (n1 n2 n3 n4 c1 c2 c3 c4 : Nat) (FV FT FN FC : Nat → Nat → Int) (ax sd : Int) (a : Option Addr) (m c : Nat) (l : List Int) (tk : Nat → Bool) (tb : Nat) (w : World) (hm : MsW w pa1 pa2 pa3 pa4 n1 n2 n3 n4 FV FT FN FC) (hr : RowI w a m l) (hm2 : m ≤ 1000000) (h4 : n4 ≤ 1000000) (ht : Lok w tb 4 (rwL n4 fun j => .bool (tk j))) :
  Calls Tryz.prog 33 #[.agg #[.slice pa1 n1 c1, .slice pa2 n2 c2, .slice pa3 n3 c3, .slice pa4 n4 c4], .agg #[.int .i64 ax, .int .i64 sd, .slice a m c], .slice (some ⟨tb, 0, none⟩) n4 n4] w fun e w' => e = .returned (.int .i64 (fndV ((List.range n4).find? fun j : Nat => !tk j && (chF (tmB n1 n2 n3 n4 FV FT FN FC) n4 FV FC).fits ax sd l (j : Int)))) ∧ Below w.heap.size w w' := by
 have HB := Lib.hid (Below.refl w.heap.size w);have KT := Lib.hid ht;obtain ⟨g, hg⟩ : ∃ g : Nat → Bool, g = fun j : Nat => (chF (tmB n1 n2 n3 n4 FV FT FN FC) n4 FV FC).fits ax sd l (j : Int) := ⟨_, rfl⟩
 have FI : Hid (∀ (j : Nat) W, Below w.heap.size w W → Calls Tryz.prog 14 #[.agg #[.slice pa1 n1 c1, .slice pa2 n2 c2, .slice pa3 n3 c3, .slice pa4 n4 c4], .agg #[.int .i64 ax, .int .i64 sd, .slice a m c], .int .i64 (j : Int)] W fun e w' => e = .returned (.bool (g j)) ∧ Below W.heap.size W w') := Lib.hid (fun j W h => by
  rw [hg]
  exact rfits15_any pa1 pa2 pa3 pa4 n1 n2 n3 n4 c1 c2 c3 c4 FV FT FN FC ax sd a m c l (j : Int) W (hm.keep h) (hr.keep h) hm2 h4)
 rw [show (fun j : Nat => !tk j && (chF (tmB n1 n2 n3 n4 FV FT FN FC) n4 FV FC).fits ax sd l (j : Int)) = fun j => !tk j && g j from by rw [hg]];clear hm hr ht hg
 go_enter Tryz.func33, Tryz.ntmps33
 go_upto_region 1 with fail
 have hbm := below_new1 w (.cells #[.slice pa1 n1 c1, .slice pa2 n2 c2, .slice pa3 n3 c3, .slice pa4 n4 c4] 26)
 have zm : (w.alloc (.cells #[.slice pa1 n1 c1, .slice pa2 n2 c2, .slice pa3 n3 c3, .slice pa4 n4 c4] 26)).heap.size = w.heap.size + 1 := by simp
 have HB := Lib.hid hbm;have km := Lib.hid (Lok.new w 26 #[.slice pa1 n1 c1, .slice pa2 n2 c2, .slice pa3 n3 c3, .slice pa4 n4 c4]);clear hbm;generalize w.alloc (.cells #[.slice pa1 n1 c1, .slice pa2 n2 c2, .slice pa3 n3 c3, .slice pa4 n4 c4] 26) = Vm at *;have hbf := below_new1 Vm (.cells #[.int .i64 ax, .int .i64 sd, .slice a m c] 29);replace km := Lib.hid (km.out.keep hbf)
 have zf : (Vm.alloc (.cells #[.int .i64 ax, .int .i64 sd, .slice a m c] 29)).heap.size = Vm.heap.size + 1 := by simp
 replace HB := Lib.hid (HB.out.trans (hbf.mono HB.out.size));have kf := Lib.hid (Lok.new Vm 29 #[.int .i64 ax, .int .i64 sd, .slice a m c]);clear hbf;generalize Vm.alloc (.cells #[.int .i64 ax, .int .i64 sd, .slice a m c] 29) = Vf at *;rw [zm] at kf;clear zm zf
 go_wp2_with fail
 go_loopw [7] (fun x wr => ∃ k : Nat, x = .int .i64 k ∧ k ≤ n4 ∧ (List.range k).find? (fun j : Nat => !tk j && g j) = none ∧ Lok wr w.heap.size 26 #[.slice pa1 n1 c1, .slice pa2 n2 c2, .slice pa3 n3 c3, .slice pa4 n4 c4] ∧ Lok wr (w.heap.size + 1) 29 #[.int .i64 ax, .int .i64 sd, .slice a m c] ∧ Below w.heap.size w wr) (fun x _ => n4 - (intOf x).toNat)
 case atStart => exact ⟨0, rfl, Nat.zero_le _, rfl, km.out, kf.out, HB.out⟩
 case round =>
  clear HB km kf;obtain ⟨k, rfl, hk, hR, hM, hF, hB⟩ := hrel;have HR := Lib.hid hR;have HB := Lib.hid hB;have km := Lib.hid hM;have kf := Lib.hid hF;have kt := Lib.hid (KT.out.keep hB);clear hR hB hM hF;have m3 := km.out.cell (i := 3) rfl
  by_cases hlt : k < n4
  ·have k0 : (0 : Int) ≤ (k : Int) := by omega
   have k1 : (k : Int) < (n4 : Int) := by omega
   have k2 : ((k : Int)).toNat = k := by omega
   have YES : Hid ((!tk k && g k) = true → (List.range n4).find? (fun j : Nat => !tk j && g j) = some k) := Lib.hid (fun q => range_hit HR.out q hlt);have NO : Hid ((!tk k && g k) = false → (List.range (k + 1)).find? (fun j : Nat => !tk j && g j) = none) := Lib.hid (fun q => range_miss HR.out q);have CF := Lib.hid (FI.out k wr HB.out);have t0 := kt.out.cell (rwL_at _ hlt)
   cases hp : tk k with
   | true =>
    rw [hp] at t0;have E := Lib.hid (NO.out (by rw [hp]; rfl));clear YES NO hp CF
    go_wp2_with fail
    clear m3 t0
    go_roundw
    case rel => exact ⟨k + 1, by go_num, hlt, E.out, km.out, kf.out, HB.out⟩
    case measure => simp [intOf]; omega
   | false =>
    rw [hp] at t0
    cases hq : g k with
    | true =>
     rw [hq] at CF;have E := Lib.hid (YES.out (by rw [hp, hq]; rfl));clear YES NO hp hq;have m0 := km.out.cell (i := 0) rfl;have m1 := km.out.cell (i := 1) rfl;have m2 := km.out.cell (i := 2) rfl;have f0 := kf.out.cell (i := 0) rfl;have f1 := kf.out.cell (i := 1) rfl;have f2 := kf.out.cell (i := 2) rfl
     go_wp2_with fail
     clear m0 m1 m2 m3 f0 f1 f2 t0;((with_reducible refine CF.out.mono ?_); rintro e w1 ⟨rfl, hb1⟩);replace HB := Lib.hid (HB.out.trans (hb1.mono HB.out.size));replace km := Lib.hid (km.out.keep hb1);replace kf := Lib.hid (kf.out.keep hb1);clear hb1 CF kt
     go_wp2
     go_ret
     exact ⟨by rw [E.out]; rfl, HB.out⟩
    | false =>
     rw [hq] at CF;have E := Lib.hid (NO.out (by rw [hp, hq]; rfl));clear YES NO hp hq;have m0 := km.out.cell (i := 0) rfl;have m1 := km.out.cell (i := 1) rfl;have m2 := km.out.cell (i := 2) rfl;have f0 := kf.out.cell (i := 0) rfl;have f1 := kf.out.cell (i := 1) rfl;have f2 := kf.out.cell (i := 2) rfl
     go_wp2_with fail
     clear m0 m1 m2 m3 f0 f1 f2 t0;((with_reducible refine CF.out.mono ?_); rintro e w1 ⟨rfl, hb1⟩);replace HB := Lib.hid (HB.out.trans (hb1.mono HB.out.size));replace km := Lib.hid (km.out.keep hb1);replace kf := Lib.hid (kf.out.keep hb1);clear hb1 CF kt
     go_wp2
     go_roundw
     case rel => exact ⟨k + 1, by go_num, hlt, E.out, km.out, kf.out, HB.out⟩
     case measure => simp [intOf]; omega
  ·obtain rfl : k = n4 := by omega
   have E := Lib.hid HR.out;clear kt
   go_wp2_with fail
   clear m3
   go_ret
   exact ⟨by rw [E.out]; rfl, HB.out⟩
end Go.Proofs.YtcnbbanpnoigdaaGreat
namespace Go.Proofs.YtcnbbanpnoigdaaGreat
open Go.RowKit

theorem OwnC.keepB {w w' : World} {base : Nat} {v : Value} {Z : List CtZ} (h : OwnC w base v Z) {B : Nat} (hb : Below B w w') (q : ∀ g, v.ownBlock = some g → g < B) (q2 : ∀ z ∈ Z, ∀ g, z.2.2.2.ownBlock = some g → g < B) : OwnC w' base v Z :=
 ⟨ownR_block h.1 fun g e => hb.block g (q g e), fun z hz => ⟨ownI_block (h.2 z hz).1 fun g e => hb.block g (q2 z hz g e), (h.2 z hz).2⟩⟩
theorem OwnC.blocks {w : World} {base : Nat} {v : Value} {Z : List CtZ} (h : OwnC w base v Z) : (∀ g, v.ownBlock = some g → g < w.heap.size) ∧ ∀ z ∈ Z, ∀ g, z.2.2.2.ownBlock = some g → g < w.heap.size :=
 ⟨fun g e => (World.ownsRow.lt h.1 g e).2, fun z hz g e => (World.ownsRow.lt (h.2 z hz).1 g e).2⟩
def triD (W : World) (g : Nat) : Nat := match W.cell? ⟨g, 2, none⟩ with | some (.slice _ n _) => n | _ => 0
theorem triD_of {W : World} {g n c : Nat} {a : Option Addr} {x y : Value} {t : TypeId} (h : Lok W g t #[x, y, .slice a n c]) : triD W g = n := by
 unfold triD;rw [h.cell (i := 2) (v := .slice a n c) rfl]
theorem tk_more {P c : List Int} {i n : Nat} (hi : i < n) : (rwL n fun j => Value.bool (isIn P (j : Int) || isIn c (j : Int))).setIfInBounds i (.bool true) = rwL n fun j => Value.bool (isIn P (j : Int) || isIn (c ++ [(i : Int)]) (j : Int)) := by
 rw [rwL_set _ _ hi]
 refine rwL_congr fun j _ => ?_
 by_cases e : j = i
 ·subst e
  rw [if_pos rfl, isIn_iff.2 (List.mem_append.2 (.inr (List.mem_singleton.2 rfl))), Bool.or_true]
 ·rw [if_neg e]
  congr 1
  congr 1
  apply Bool.eq_iff_iff.2
  rw [isIn_iff, isIn_iff, List.mem_append, List.mem_singleton]
  exact ⟨.inl, fun q => q.resolve_right (by omega)⟩
theorem OwnC.setB {w : World} {base : Nat} {v : Value} {Z : List CtZ} (h : OwnC w base v Z) {g i : Nat} {x : Value} (hg : g < base) : OwnC (w.setCell ⟨g, i, none⟩ x) base v Z := ⟨ownsRow_setCell_below h.1 (a := ⟨g, i, none⟩) hg x, fun z hz => ⟨ownI_set (h.2 z hz).1 hg, (h.2 z hz).2⟩⟩
theorem rowI_sl {w : World} {base n c : Nat} {a : Option Addr} {L : List Int} (h : OwnI w base (.slice a n c) L) : RowI w a n L := by
 obtain ⟨a', c', e, _, _, _, r⟩ := rowI_of_own h
 cases e
 exact r
theorem tk_none {P : List Int} {n : Nat} : (rwL n fun j => Value.bool (isIn P (j : Int))) = rwL n fun j => Value.bool (isIn P (j : Int) || isIn [] (j : Int)) := by
 refine rwL_congr fun j _ => ?_
 rw [show isIn [] (j : Int) = false from rfl, Bool.or_false]
theorem tk_all {P c : List Int} {n : Nat} : (rwL n fun j => Value.bool (isIn P (j : Int) || isIn c (j : Int))) = rwL n fun j => Value.bool (isIn (P ++ c) (j : Int)) := by
 refine rwL_congr fun j _ => ?_
 congr 1
 apply Bool.eq_iff_iff.2
 rw [Bool.or_eq_true, isIn_iff, isIn_iff, isIn_iff, List.mem_append]

set_option maxRecDepth 100000 in
set_option maxHeartbeats 16000000 in
theorem rgrow15_any (pa1 pa2 pa3 pa4 : Option Addr) (n1 n2 n3 n4 c1 c2 c3 c4 : Nat) (FV FT FN FC : Nat → Nat → Int) (w : World) (hm : MsW w pa1 pa2 pa3 pa4 n1 n2 n3 n4 FV FT FN FC) (h4 : n4 ≤ 1000000) :
  Calls Tryz.prog 11 #[.agg #[.slice pa1 n1 c1, .slice pa2 n2 c2, .slice pa3 n3 c3, .slice pa4 n4 c4]] w fun e w' => (∃ v Z, e = .returned (.tuple #[v, .int .i64 (agE (tmB n1 n2 n3 n4 FV FT FN FC))]) ∧ OwnC w' w.heap.size v Z ∧ Z.map ctC = chA (tmB n1 n2 n3 n4 FV FT FN FC) n4 FV FC) ∧ Below w.heap.size w w' := by
 have HB := Lib.hid (Below.refl w.heap.size w);have M := Lib.hid hm;have TA := Lib.hid (fun W (h : Below w.heap.size w W) => rtame15_any pa1 pa2 pa3 pa4 n1 n2 n3 n4 c1 c2 c3 c4 FV FT FN FC W (hm.keep h));clear hm
 cases ht : tmB n1 n2 n3 n4 FV FT FN FC with
 | false =>
  rw [ht] at TA;rw [show agE false = 1 from rfl, show chA false n4 FV FC = [] from rfl];clear ht M
  go_enter Tryz.func11, Tryz.ntmps11
  go_upto_region 1 with fail
  have hbm := below_new1 w (.cells #[.slice pa1 n1 c1, .slice pa2 n2 c2, .slice pa3 n3 c3, .slice pa4 n4 c4] 26)
  have zm : (w.alloc (.cells #[.slice pa1 n1 c1, .slice pa2 n2 c2, .slice pa3 n3 c3, .slice pa4 n4 c4] 26)).heap.size = w.heap.size + 1 := by simp
  have HB := Lib.hid hbm;have km := Lib.hid (Lok.new w 26 #[.slice pa1 n1 c1, .slice pa2 n2 c2, .slice pa3 n3 c3, .slice pa4 n4 c4]);clear hbm;generalize w.alloc (.cells #[.slice pa1 n1 c1, .slice pa2 n2 c2, .slice pa3 n3 c3, .slice pa4 n4 c4] 26) = Vm at *;clear zm;have m0 := km.out.cell (i := 0) rfl;have m1 := km.out.cell (i := 1) rfl;have m2 := km.out.cell (i := 2) rfl;have m3 := km.out.cell (i := 3) rfl
  go_wp2_with fail
  clear m0 m1 m2 m3
  (((with_reducible refine (TA.out _ HB.out).mono ?_); rintro e w1 ⟨rfl, hb1⟩); replace HB := Lib.hid (HB.out.trans (hb1.mono HB.out.size)); replace km := Lib.hid (km.out.keep hb1); clear hb1)
  clear TA km
  go_wp2
  go_ret2
  exact ⟨⟨_, [], rfl, OwnC.nil _ _, rfl⟩, HB.out⟩
 | true =>
  rw [ht] at TA;rw [show agE true = 0 from rfl, show chA true n4 FV FC = (chF true n4 FV FC).grow n4 from rfl];have FA := Lib.hid (fun (j : Nat) W (h : Below w.heap.size w W) => rfacing15_any pa1 pa2 pa3 pa4 n1 n2 n3 n4 c1 c2 c3 c4 FV FT FN FC (j : Int) W (M.out.keep h));have LE := Lib.hid (fun ax sd a m c l tk tb W (h : Below w.heap.size w W) (hr : RowI W a m l) (hm2 : m ≤ 1000000) (ht : Lok W tb 4 (rwL n4 fun j => .bool (tk j))) => rleast15_any pa1 pa2 pa3 pa4 n1 n2 n3 n4 c1 c2 c3 c4 FV FT FN FC ax sd a m c l tk tb W (M.out.keep h) hr hm2 h4 ht);rw [ht] at FA LE;have hmk := make_row (t := 72) (e := 4) rfl infoBo rfl (by decide) n4 h4;clear ht M
  go_enter Tryz.func11, Tryz.ntmps11
  go_upto_region 1 with fail
  have hbm := below_new1 w (.cells #[.slice pa1 n1 c1, .slice pa2 n2 c2, .slice pa3 n3 c3, .slice pa4 n4 c4] 26)
  have zm : (w.alloc (.cells #[.slice pa1 n1 c1, .slice pa2 n2 c2, .slice pa3 n3 c3, .slice pa4 n4 c4] 26)).heap.size = w.heap.size + 1 := by simp
  have HB := Lib.hid hbm;have km := Lib.hid (Lok.new w 26 #[.slice pa1 n1 c1, .slice pa2 n2 c2, .slice pa3 n3 c3, .slice pa4 n4 c4]);clear hbm;generalize w.alloc (.cells #[.slice pa1 n1 c1, .slice pa2 n2 c2, .slice pa3 n3 c3, .slice pa4 n4 c4] 26) = Vm at *;clear zm;have m0 := km.out.cell (i := 0) rfl;have m1 := km.out.cell (i := 1) rfl;have m2 := km.out.cell (i := 2) rfl;have m3 := km.out.cell (i := 3) rfl
  go_wp2_with fail
  clear m0 m1 m2 m3
  (((with_reducible refine (TA.out _ HB.out).mono ?_); rintro e w1 ⟨rfl, hb1⟩); replace HB := Lib.hid (HB.out.trans (hb1.mono HB.out.size)); replace km := Lib.hid (km.out.keep hb1); clear hb1)
  clear TA;have m3 := km.out.cell (i := 3) rfl
  go_upto_region 4 with fail
  clear hmk;have hgm : w.heap.size < w1.heap.size := km.out.lt;have KT : Hid (Lok (w1.alloc (.cells (rwL n4 fun _ => .bool false) 4)) w1.heap.size 4 (rwL n4 fun j => .bool (isIn (ChF.all ((chF true n4 FV FC).grow 0)) (j : Int)))) := Lib.hid (Lok.new w1 4 (rwL n4 fun _ => .bool false));have hbN : Below w1.heap.size w1 (w1.alloc (.cells (rwL n4 fun _ => .bool false) 4)) := (Below.refl _ _).alloc (Nat.le_refl _) _;replace HB := Lib.hid (HB.out.trans (hbN.mono HB.out.size));replace km := Lib.hid (km.out.keep hbN);clear m3
  have hsN : (w1.alloc (.cells (rwL n4 fun _ => .bool false) 4)).heap.size = w1.heap.size + 1 := by simp
  generalize htb : w1.heap.size = tb at *;generalize w1.alloc (.cells (rwL n4 fun _ => .bool false) 4) = V at *;clear hbN htb
  go_wp2_with fail
  go_loopw [5, 6] (fun v x wr => ∃ (k : Nat) (Z : List CtZ), x = .int .i64 k ∧ k ≤ n4 ∧ Z.map ctC = (chF true n4 FV FC).grow k ∧ (∀ j : Nat, j < k → (chF true n4 FV FC).K j = true → (j : Int) ∈ ChF.all ((chF true n4 FV FC).grow k)) ∧ OwnC wr (tb + 1) v Z ∧ Lok wr tb 4 (rwL n4 fun j => .bool (isIn (ChF.all ((chF true n4 FV FC).grow k)) (j : Int))) ∧ Lok wr w.heap.size 26 #[.slice pa1 n1 c1, .slice pa2 n2 c2, .slice pa3 n3 c3, .slice pa4 n4 c4] ∧ Below w.heap.size w wr) (fun _ x _ => n4 - (intOf x).toNat)
  case atStart => exact ⟨0, [], rfl, Nat.zero_le _, rfl, fun j h => absurd h (by omega), OwnC.nil _ _, KT.out, km.out, HB.out⟩
  case round =>
   clear KT km HB hsN;obtain ⟨k, Z, rfl, hk, hZ, hT, hO, hL, hM, hB⟩ := hrel;have HZ := Lib.hid hZ;have HT := Lib.hid hT;have OC := Lib.hid hO;have KT := Lib.hid hL;have km := Lib.hid hM;have HB := Lib.hid hB
   have hln : Z.length ≤ k := by
    have := grow_short (chF true n4 FV FC) k;rw [← hZ, List.length_map] at this
    exact this
   clear hZ hT hO hL hM hB;have m3 := km.out.cell (i := 3) rfl
   by_cases hlt : k < n4
   ·have FK := Lib.hid (FA.out k wr HB.out)
    have SKIP := Lib.hid (fun (q : (chF true n4 FV FC).K k = false ∨ (k : Int) ∈ ChF.all ((chF true n4 FV FC).grow k)) => (⟨(chF true n4 FV FC).grow_skip q, fun j hj qj => by
     rw [(chF true n4 FV FC).grow_skip q]
     by_cases e : j = k
     ·subst e
      rcases q with q | q
      ·rw [q] at qj; cases qj
      ·exact q
     ·exact HT.out j (by omega) qj⟩ : (chF true n4 FV FC).grow (k + 1) = (chF true n4 FV FC).grow k ∧ ∀ j : Nat, j < k + 1 → (chF true n4 FV FC).K j = true → (j : Int) ∈ ChF.all ((chF true n4 FV FC).grow (k + 1))))
    have k0 : (0 : Int) ≤ (k : Int) := by omega
    have k1 : (k : Int) < (n4 : Int) := by omega
    have k2 : ((k : Int)).toNat = k := by omega

    have m0 := km.out.cell (i := 0) rfl;have m1 := km.out.cell (i := 1) rfl;have m2 := km.out.cell (i := 2) rfl
    cases hK : (chF true n4 FV FC).K k with
    | false =>
     obtain ⟨E1, E2⟩ := SKIP.out (.inl hK);replace E1 := Lib.hid E1;replace E2 := Lib.hid E2;rw [hK] at FK;clear SKIP hK
     go_wp2_with fail
     clear m0 m1 m2 m3;((with_reducible refine FK.out.mono ?_); rintro e w2 ⟨rfl, hb⟩);have O2 := Lib.hid (OC.out.keep hb);have T2 := Lib.hid (KT.out.keep hb);have M2 := Lib.hid (km.out.keep hb);have B2 := Lib.hid (HB.out.trans (hb.mono HB.out.size));clear hb FK OC KT km HB
     go_wp2
     go_roundw
     case rel => exact ⟨k + 1, Z, by go_num, hlt, by rw [E1.out]; exact HZ.out, E2.out, O2.out, by rw [E1.out]; exact T2.out, M2.out, B2.out⟩
     case measure => simp [intOf]; omega
    | true =>
     rw [hK] at FK
     go_upto_region 9 with fail
     clear m0 m1 m2 m3;((with_reducible refine FK.out.mono ?_); rintro e w2 ⟨rfl, hb⟩);have O2 := Lib.hid (OC.out.keep hb);have T2 := Lib.hid (KT.out.keep hb);have M2 := Lib.hid (km.out.keep hb);have B2 := Lib.hid (HB.out.trans (hb.mono HB.out.size));clear hb FK OC KT km HB;have t0 := T2.out.cell (rwL_at _ hlt)
     cases hin : isIn (ChF.all ((chF true n4 FV FC).grow k)) (k : Int) with
     | true =>
      obtain ⟨E1, E2⟩ := SKIP.out (.inr (isIn_iff.1 hin));replace E1 := Lib.hid E1;replace E2 := Lib.hid E2;rw [hin] at t0;clear SKIP hK hin
      go_wp2_with fail
      clear t0
      go_roundw
      case rel => exact ⟨k + 1, Z, by go_num, hlt, by rw [E1.out]; exact HZ.out, E2.out, O2.out, by rw [E1.out]; exact T2.out, M2.out, B2.out⟩
      case measure => simp [intOf]; omega
     | false =>
      rw [hin] at t0;have hni := isIn_not.1 hin;have MORE := Lib.hid (fun c i (q : (chF true n4 FV FC).Wy ((chF true n4 FV FC).A k) ((chF true n4 FV FC).S k) (ChF.all ((chF true n4 FV FC).grow k)) k c) (z : (chF true n4 FV FC).least ((chF true n4 FV FC).A k) ((chF true n4 FV FC).S k) (ChF.all ((chF true n4 FV FC).grow k)) c = some i) => ChF.Wy.more (F := (chF true n4 FV FC)) hlt hK hni HT.out q z);have DONE := Lib.hid (fun c (q : (chF true n4 FV FC).Wy ((chF true n4 FV FC).A k) ((chF true n4 FV FC).S k) (ChF.all ((chF true n4 FV FC).grow k)) k c) (z : (chF true n4 FV FC).least ((chF true n4 FV FC).A k) ((chF true n4 FV FC).S k) (ChF.all ((chF true n4 FV FC).grow k)) c = none) => ChF.Wy.done (F := (chF true n4 FV FC)) hlt hK hni HT.out q z);have LEN := Lib.hid (fun c (q : (chF true n4 FV FC).Wy ((chF true n4 FV FC).A k) ((chF true n4 FV FC).S k) (ChF.all ((chF true n4 FV FC).grow k)) k c) => (q.len _ : c.length ≤ n4));have LT := Lib.hid (fun c i (z : (chF true n4 FV FC).least ((chF true n4 FV FC).A k) ((chF true n4 FV FC).S k) (ChF.all ((chF true n4 FV FC).grow k)) c = some i) => ((chF true n4 FV FC).least_some z).1);have W0 : Hid ((chF true n4 FV FC).Wy ((chF true n4 FV FC).A k) ((chF true n4 FV FC).S k) (ChF.all ((chF true n4 FV FC).grow k)) k []) := Lib.hid (.inl rfl);have L0 := Lib.hid (ChF.least_nil (F := (chF true n4 FV FC)) hlt hK hni HT.out)
      have TKE := Lib.hid (fun c => (by
       unfold ChF.least
       congr 1
       funext j
       rw [Bool.not_or, Bool.and_assoc] : ((List.range n4).find? fun j : Nat => !(isIn (ChF.all ((chF true n4 FV FC).grow k)) (j : Int) || isIn c (j : Int)) && (chF true n4 FV FC).fits ((chF true n4 FV FC).A k) ((chF true n4 FV FC).S k) c (j : Int)) = (chF true n4 FV FC).least ((chF true n4 FV FC).A k) ((chF true n4 FV FC).S k) (ChF.all ((chF true n4 FV FC).grow k)) c))
      have GT := Lib.hid (fun c (q : c = (chF true n4 FV FC).grC ((chF true n4 FV FC).A k) ((chF true n4 FV FC).S k) (ChF.all ((chF true n4 FV FC).grow k)) n4 [(k : Int)]) => ((chF true n4 FV FC).grow_take hK hni q));have GQ := Lib.hid (fun (j : Nat) (hj : j < k + 1) (q : (chF true n4 FV FC).K j = true) => (chF true n4 FV FC).grow_takes q (k + 1) hj);have LEK := Lib.hid (fun a m c l W (h : Below w.heap.size w W) (hr : RowI W a m l) (hm2 : m ≤ 1000000) (ht : Lok W tb 4 (rwL n4 fun j => .bool (isIn (ChF.all ((chF true n4 FV FC).grow k)) (j : Int) || isIn l (j : Int)))) => LE.out ((chF true n4 FV FC).A k) ((chF true n4 FV FC).S k) a m c l (fun j => isIn (ChF.all ((chF true n4 FV FC).grow k)) (j : Int) || isIn l (j : Int)) tb W h hr hm2 ht);clear SKIP hK hin hni;generalize (chF true n4 FV FC).A k = ax at *;generalize (chF true n4 FV FC).S k = sd at *

      have HV := Lib.hid O2.out.blocks;have HB := B2;have hgm2 : w.heap.size < w2.heap.size := M2.out.lt;have hgt2 : tb < w2.heap.size := T2.out.lt;clear B2
      go_upto_region 11 with fail
      clear t0;have hbf := below_new1 w2 (.cells #[.int .i64 ax, .int .i64 sd, .slice none 0 0] 29);replace O2 := Lib.hid (O2.out.keep hbf);replace T2 := Lib.hid (T2.out.keep hbf);replace M2 := Lib.hid (M2.out.keep hbf)
      have zf : (w2.alloc (.cells #[.int .i64 ax, .int .i64 sd, .slice none 0 0] 29)).heap.size = w2.heap.size + 1 := by simp
      replace HB := Lib.hid (HB.out.trans (hbf.mono HB.out.size));have kf := Lib.hid (Lok.new w2 29 #[.int .i64 ax, .int .i64 sd, .slice none 0 0]);clear hbf;generalize w2.alloc (.cells #[.int .i64 ax, .int .i64 sd, .slice none 0 0] 29) = Vf at *;have hgf : w2.heap.size < Vf.heap.size := kf.out.lt;generalize w2.heap.size = cb at *;have T3 : Hid (Lok Vf tb 4 (rwL n4 fun j => .bool (isIn (ChF.all ((chF true n4 FV FC).grow k)) (j : Int) || isIn [] (j : Int)))) := Lib.hid (by rw [← tk_none]; exact T2.out);have N3 : Hid (OwnI Vf (cb + 1) (.slice none 0 0) []) := Lib.hid (World.ownsRow_nil _ _ _ _);clear T2 zf
      go_wp2_with fail
      go_loopw [11] (fun x wr => ∃ (c : List Int) (a : Option Addr) (n cc : Nat), (chF true n4 FV FC).Wy ax sd (ChF.all ((chF true n4 FV FC).grow k)) k c ∧ n = c.length ∧ x = .int .i64 (fndV ((chF true n4 FV FC).least ax sd (ChF.all ((chF true n4 FV FC).grow k)) c)) ∧ Lok wr cb 29 #[.int .i64 ax, .int .i64 sd, .slice a n cc] ∧ OwnI wr (cb + 1) (.slice a n cc) c ∧ Lok wr tb 4 (rwL n4 fun j => .bool (isIn (ChF.all ((chF true n4 FV FC).grow k)) (j : Int) || isIn c (j : Int))) ∧ OwnC wr (tb + 1) u5 Z ∧ Lok wr w.heap.size 26 #[.slice pa1 n1 c1, .slice pa2 n2 c2, .slice pa3 n3 c3, .slice pa4 n4 c4] ∧ Below w.heap.size w wr) (fun _ wr => n4 - triD wr cb)
      case atStart => exact ⟨[], none, 0, 0, W0.out, rfl, by rw [L0.out]; rfl, kf.out, N3.out, T3.out, O2.out, M2.out, HB.out⟩
      case round =>
       clear kf N3 T3 O2 M2 HB W0 L0 hgf;obtain ⟨c, av, lv, cv, hc, hlv, rfl, hF, hN, hT, hO, hM, hB⟩ := hrel;have HC := Lib.hid hc;have HLV := Lib.hid hlv;have kf := Lib.hid hF;have ON := Lib.hid hN;have KT := Lib.hid hT;have OC := Lib.hid hO;have km := Lib.hid hM;have HB := Lib.hid hB;have TN := Lib.hid (triD_of hF);have hsr : cb < wr.heap.size := hF.lt;clear hc hlv hF hN hT hO hM hB
       cases hle : (chF true n4 FV FC).least ax sd (ChF.all ((chF true n4 FV FC).grow k)) c with
       | some i =>
        have hi : i < n4 := LT.out c i hle;have HC2 := Lib.hid (MORE.out c i HC.out hle);have hln : (c ++ [(i : Int)]).length ≤ n4 := LEN.out _ HC2.out;rw [List.length_append, List.length_singleton] at hln;rw [show fndV (some i) = (i : Int) from rfl];clear hle
        have i0 : (0 : Int) ≤ (i : Int) := by omega
        have i1 : (i : Int) < (n4 : Int) := by omega
        have i2 : ((i : Int)).toNat = i := by omega
        have t0 := KT.out.cell (rwL_at _ hi);have q0 := KT.out.frozen i;have kt3 := KT.out.set (i := i) (v := .bool true);rw [tk_more hi] at kt3;have KT3 := Lib.hid kt3;have kf3 := Lib.hid (kf.out.far (i := i) (v := .bool true) (g' := tb) (by omega));have km3 := Lib.hid (km.out.far (i := i) (v := .bool true) (g' := tb) (by omega));have ON3 := Lib.hid (ownI_set (i := i) (x := .bool true) ON.out (show tb < cb + 1 by omega));have OC3 := Lib.hid (OC.out.setB (i := i) (x := .bool true) (show tb < tb + 1 by omega));have HB3 := Lib.hid (HB.out.setCell (p := ⟨tb, i, none⟩) (show w.heap.size ≤ tb by omega) (.bool true));clear kt3 kf km ON OC HB KT;have hs3 : cb < (wr.setCell ⟨tb, i, none⟩ (.bool true)).heap.size := kf3.out.lt
        go_upto_region 14 with fail
        clear t0 q0;generalize wr.setCell ⟨tb, i, none⟩ (.bool true) = V3 at *;have c2 := kf3.out.cell (i := 2) rfl
        go_wp2_with (at_builtin; refine app_intD rfl _ _ rfl (cb + 1) (.slice av lv cv) c (i : Int) rfl ON3.out rfl (by omega) (by omega) ?_)
        intro v6 w6 hO6 hb6
        obtain ⟨a6, m6, e6, -⟩ := rowI_of_own hO6;have KT6 := Lib.hid (KT3.out.keepB hb6 (by omega));have kf6 := Lib.hid (kf3.out.keepB hb6 (by omega));have km6 := Lib.hid (km3.out.keepB hb6 (by omega));have OC6 := Lib.hid (OC3.out.keepB hb6 (fun g q => Nat.lt_succ_of_lt (HV.out.1 g q)) (fun z hz g q => Nat.lt_succ_of_lt (HV.out.2 z hz g q)));have HB6 := Lib.hid (HB3.out.trans (hb6.mono (by omega)));have ON6 := Lib.hid hO6;clear hO6 hb6 c2 KT3 kf3 km3 OC3 HB3 ON3;have HL6 : Hid ((c ++ [(i : Int)]).length = lv + 1) := Lib.hid (by rw [List.length_append, List.length_singleton, HLV.out]);rw [HL6.out] at e6;subst e6;have g2 := kf6.out.cell (i := 2) rfl;have q2 := kf6.out.frozen 2;have kf7 : Hid (Lok (w6.setCell ⟨cb, 2, none⟩ (.slice a6 (lv + 1) m6)) cb 29 #[.int .i64 ax, .int .i64 sd, .slice a6 (lv + 1) m6]) := Lib.hid (kf6.out.set (i := 2) (v := .slice a6 (lv + 1) m6));have KT7 := Lib.hid (KT6.out.far (i := 2) (v := .slice a6 (lv + 1) m6) (g' := cb) (by omega));have km7 := Lib.hid (km6.out.far (i := 2) (v := .slice a6 (lv + 1) m6) (g' := cb) (by omega));have ON7 := Lib.hid (ownI_set (i := 2) (x := .slice a6 (lv + 1) m6) ON6.out (show cb < cb + 1 by omega));have OC7 := Lib.hid (OC6.out.keepB ((Below.refl cb w6).setCell (p := ⟨cb, 2, none⟩) (Nat.le_refl cb) (.slice a6 (lv + 1) m6)) HV.out.1 HV.out.2);have HB7 := Lib.hid (HB6.out.setCell (p := ⟨cb, 2, none⟩) (show w.heap.size ≤ cb by omega) (.slice a6 (lv + 1) m6));clear kf6 KT6 km6 ON6 OC6 HB6
        go_upto_region 15 with fail
        clear g2 q2;generalize w6.setCell ⟨cb, 2, none⟩ (.slice a6 (lv + 1) m6) = V7 at *;have CL := Lib.hid (LEK.out a6 (lv + 1) m6 (c ++ [(i : Int)]) V7 HB7.out (rowI_sl ON7.out) (by have := HLV.out; omega) KT7.out);rw [TKE.out] at CL;have m0 := km7.out.cell (i := 0) rfl;have m1 := km7.out.cell (i := 1) rfl;have m2 := km7.out.cell (i := 2) rfl;have m3 := km7.out.cell (i := 3) rfl;have f0 := kf7.out.cell (i := 0) rfl;have f1 := kf7.out.cell (i := 1) rfl;have f2 := kf7.out.cell (i := 2) rfl
        go_wp2_with fail
        clear m0 m1 m2 m3 f0 f1 f2;((with_reducible refine CL.out.mono ?_); rintro e w8 ⟨rfl, hb8⟩);have kf8 := Lib.hid (kf7.out.keep hb8);have KT8 := Lib.hid (KT7.out.keep hb8);have km8 := Lib.hid (km7.out.keep hb8);have ON8 := Lib.hid (ON7.out.keep hb8);have OC8 := Lib.hid (OC7.out.keep hb8);have HB8 := Lib.hid (HB7.out.trans (hb8.mono HB7.out.size));have T8 := Lib.hid (triD_of kf8.out);clear hb8 CL kf7 KT7 km7 ON7 OC7 HB7
        go_wp2
        go_roundw
        case rel => exact ⟨_, a6, lv + 1, m6, HC2.out, HL6.out.symm, rfl, kf8.out, ON8.out, KT8.out, OC8.out, km8.out, HB8.out⟩
        case measure =>
         rw [T8.out, TN.out];have := HLV.out
         omega
       | none =>
        have E := Lib.hid (GT.out c (DONE.out c HC.out hle));clear hle;rw [show fndV none = -1 from rfl];have ALL : Hid (ChF.all ((chF true n4 FV FC).grow (k + 1)) = ChF.all ((chF true n4 FV FC).grow k) ++ c) := Lib.hid (by rw [E.out, ChF.all_snoc]);have kt3 := KT.out;rw [tk_all, ← ALL.out] at kt3;have KT3 := Lib.hid kt3;have f0 := kf.out.cell (i := 0) rfl;have f1 := kf.out.cell (i := 1) rfl;have f2 := kf.out.cell (i := 2) rfl;have TI := Lib.hid (ownI_mono ON.out (show tb + 1 ≤ cb + 1 by omega))
        have HDJ : Hid (∀ b, (Value.slice av lv cv).ownBlock = some b → u5.ownBlock ≠ some b) := Lib.hid (fun b q q2 => by
         have z1 := (World.ownsRow.lt ON.out b q).1;have z2 := HV.out.1 b q2
         omega)
        clear kt3 KT ON
        go_wp2_with (at_builtin; refine app_chart rfl _ _ rfl (tb + 1) u5 Z rfl OC.out ax sd c (.slice av lv cv) rfl TI.out HDJ.out (by omega) (by omega) ?_)
        intro v6 w6 hO6 hb6
        clear f0 f1 f2;have O6 := Lib.hid hO6;have B6 := Lib.hid (HB.out.trans (hb6.mono (by omega)));have M6 := Lib.hid (km.out.keepB hb6 (by omega));have T6 := Lib.hid (KT3.out.keepB hb6 (by omega));have Z6 : Hid ((Z ++ [(ax, sd, c, Value.slice av lv cv)]).map ctC = (chF true n4 FV FC).grow (k + 1)) := Lib.hid (by rw [E.out, List.map_append, HZ.out]; rfl);clear hO6 hb6 OC HB km KT3 TI HDJ kf
        go_wp2
        go_roundw
        case rel => exact ⟨k + 1, _, by go_num, hlt, Z6.out, GQ.out, O6.out, T6.out, M6.out, B6.out⟩
        case measure => simp [intOf]; omega
   ·obtain rfl : k = n4 := by omega
    have O9 := Lib.hid (OC.out.mono (show w.heap.size ≤ tb + 1 by omega));clear OC KT
    go_wp2_with fail
    clear m3
    go_ret2
    exact ⟨⟨_, Z, rfl, O9.out, HZ.out⟩, HB.out⟩
end Go.Proofs.YtcnbbanpnoigdaaGreat
