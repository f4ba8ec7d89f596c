import Derived.Test.YtcnbbanpnoigdaaGreatChCO
namespace Go.Proofs.YtcnbbanpnoigdaaGreat
open Go.RowKit

theorem el_small {F : Nat → Nat → Int} {n m : Nat} (h : m ≤ 20) : (eaL F n m m).length ≤ 1000 := by
 have h1 := eaL_len F n m m;have h2 : m * m ≤ 20 * 20 := Nat.mul_le_mul h h
 omega
theorem chF_no {n : Nat} {FV FC : Nat → Nat → Int} (ax sd : Int) (l : List Int) (i : Int) : (chF false n FV FC).fits ax sd l i = false := by
 refine ChF.fits_head _ ?_
 obtain ⟨_, _, z⟩ := chF_out (t := false) (n := n) (FV := FV) (FC := FC) (i := i) rfl;unfold ChF.fb;rw [z]
 rfl
theorem grow_short (F : ChF) : ∀ k, (F.grow k).length ≤ k
 | 0 => Nat.le_refl _
 | k + 1 => by
  have := grow_short F k
  show (if F.K k && !isIn (ChF.all (F.grow k)) k then F.grow k ++ [(F.A k, F.S k, F.grC (F.A k) (F.S k) (ChF.all (F.grow k)) F.n [(k : Int)])] else F.grow k).length ≤ k + 1
  split
  ·rw [List.length_append]; simp; omega
  ·omega
def lenV : Value → Nat | .slice _ n _ => n | _ => 0
theorem ownC_len {W : World} {B : Nat} {v : Value} {Z : List CtZ} (h : OwnC W B v Z) : lenV v = Z.length := by
 obtain ⟨a, c, e⟩ := ownR_slc h.1
 rw [e]; rfl
theorem ownC_exc {C : GrC} {W W' : World} {B : Nat} {v : Value} {Z : List CtZ} (h : OwnC W B v Z) (hx : C.Exc W.heap.size W W') (hs : C.Sep) (hB : C.hi ≤ B) : OwnC W' B v Z := by
 have k : ∀ b, B ≤ b ∧ b < W.heap.size → W'.heap[b]? = W.heap[b]? := fun b q => hx.block b q.2 (fun z => by have := (hs.four b z).2; omega)
 exact ⟨ownR_block h.1 fun b q => k b (World.ownsRow.lt h.1 b q), fun z hz => ⟨ownI_block (h.2 z hz).1 fun b q => k b (World.ownsRow.lt (h.2 z hz).1 b q), (h.2 z hz).2⟩⟩
set_option maxRecDepth 100000 in
set_option maxHeartbeats 8000000 in
theorem fitsC_any (pa1 pa2 pa3 pa4 : Option Addr) (n1 n2 n3 n4 c1 c2 c3 c4 : Nat) (FV FT FN FC : Nat → Nat → Int) (ax sd : Int) (a : Option Addr) (m c : Nat) (l : List Int) (i : Int) (w : World) (hm : MsW w pa1 pa2 pa3 pa4 n1 n2 n3 n4 FV FT FN FC) (h20 : n1 ≤ 20) (h12 : n4 ≤ 12) (hr : RowI w a m l) (hm2 : m ≤ 1000000) :
  Calls Tryz.prog 13 #[.agg #[.slice pa1 n1 c1, .slice pa2 n2 c2, .slice pa3 n3 c3, .slice pa4 n4 c4], .agg #[.int .i64 ax, .int .i64 sd, .slice a m c], .int .i64 i] w fun e w' => e = .returned (.bool ((chF (tmB n1 n2 n3 n4 FV FT FN FC) n4 FV FC).fits ax sd l i)) ∧ Below w.heap.size w w' := by
 have HB := Lib.hid (Below.refl w.heap.size w);have M := Lib.hid hm;have RL := Lib.hid hr;have hlm := hr.1;have TA := Lib.hid (fun W (h : Below w.heap.size w W) => tame_any pa1 pa2 pa3 pa4 n1 n2 n3 n4 c1 c2 c3 c4 FV FT FN FC W (hm.keep h));clear hm hr
 cases ht : tmB n1 n2 n3 n4 FV FT FN FC with
 | false =>
  rw [ht] at TA;rw [chF_no];clear ht M RL
  go_enter Tryz.func13, Tryz.ntmps13
  go_upto_region 1 with fail
  have hbm := below_new1 w (.cells #[.slice pa1 n1 c1, .slice pa2 n2 c2, .slice pa3 n3 c3, .slice pa4 n4 c4] 26)
  have zm : (w.alloc (.cells #[.slice pa1 n1 c1, .slice pa2 n2 c2, .slice pa3 n3 c3, .slice pa4 n4 c4] 26)).heap.size = w.heap.size + 1 := by simp
  have HB := Lib.hid hbm;have km := Lib.hid (Lok.new w 26 #[.slice pa1 n1 c1, .slice pa2 n2 c2, .slice pa3 n3 c3, .slice pa4 n4 c4]);clear hbm;generalize w.alloc (.cells #[.slice pa1 n1 c1, .slice pa2 n2 c2, .slice pa3 n3 c3, .slice pa4 n4 c4] 26) = Vm at *;have hbf := below_new1 Vm (.cells #[.int .i64 ax, .int .i64 sd, .slice a m c] 29);replace km := Lib.hid (km.out.keep hbf)
  have zf : (Vm.alloc (.cells #[.int .i64 ax, .int .i64 sd, .slice a m c] 29)).heap.size = Vm.heap.size + 1 := by simp
  replace HB := Lib.hid (HB.out.trans (hbf.mono HB.out.size));have kf := Lib.hid (Lok.new Vm 29 #[.int .i64 ax, .int .i64 sd, .slice a m c]);clear hbf;generalize Vm.alloc (.cells #[.int .i64 ax, .int .i64 sd, .slice a m c] 29) = Vf at *;rw [zm] at kf zf;clear zm zf;have m0 := km.out.cell (i := 0) rfl;have m1 := km.out.cell (i := 1) rfl;have m2 := km.out.cell (i := 2) rfl;have m3 := km.out.cell (i := 3) rfl
  go_wp2_with fail
  clear m0 m1 m2 m3
  (((with_reducible refine (TA.out _ HB.out).mono ?_); rintro e w1 ⟨rfl, hb1⟩); replace HB := Lib.hid (HB.out.trans (hb1.mono HB.out.size)); replace km := Lib.hid (km.out.keep hb1); clear hb1)
  clear TA;clear km kf
  go_wp2
  go_ret
  exact ⟨rfl, HB.out⟩
 | true =>
  rw [ht] at TA
  go_enter Tryz.func13, Tryz.ntmps13
  go_upto_region 1 with fail
  have hbm := below_new1 w (.cells #[.slice pa1 n1 c1, .slice pa2 n2 c2, .slice pa3 n3 c3, .slice pa4 n4 c4] 26)
  have zm : (w.alloc (.cells #[.slice pa1 n1 c1, .slice pa2 n2 c2, .slice pa3 n3 c3, .slice pa4 n4 c4] 26)).heap.size = w.heap.size + 1 := by simp
  have HB := Lib.hid hbm;have km := Lib.hid (Lok.new w 26 #[.slice pa1 n1 c1, .slice pa2 n2 c2, .slice pa3 n3 c3, .slice pa4 n4 c4]);clear hbm;generalize w.alloc (.cells #[.slice pa1 n1 c1, .slice pa2 n2 c2, .slice pa3 n3 c3, .slice pa4 n4 c4] 26) = Vm at *;have hbf := below_new1 Vm (.cells #[.int .i64 ax, .int .i64 sd, .slice a m c] 29);replace km := Lib.hid (km.out.keep hbf)
  have zf : (Vm.alloc (.cells #[.int .i64 ax, .int .i64 sd, .slice a m c] 29)).heap.size = Vm.heap.size + 1 := by simp
  replace HB := Lib.hid (HB.out.trans (hbf.mono HB.out.size));have kf := Lib.hid (Lok.new Vm 29 #[.int .i64 ax, .int .i64 sd, .slice a m c]);clear hbf;generalize Vm.alloc (.cells #[.int .i64 ax, .int .i64 sd, .slice a m c] 29) = Vf at *;rw [zm] at kf zf;clear zm zf;have m0 := km.out.cell (i := 0) rfl;have m1 := km.out.cell (i := 1) rfl;have m2 := km.out.cell (i := 2) rfl;have m3 := km.out.cell (i := 3) rfl
  go_wp2_with fail
  clear m0 m1 m2 m3
  (((with_reducible refine (TA.out _ HB.out).mono ?_); rintro e w1 ⟨rfl, hb1⟩); replace HB := Lib.hid (HB.out.trans (hb1.mono HB.out.size)); replace km := Lib.hid (km.out.keep hb1); replace kf := Lib.hid (kf.out.keep hb1); clear hb1)
  clear TA;have hfl1 : w.heap.size + 1 < w1.heap.size := kf.out.lt;have m0 := km.out.cell (i := 0) rfl;have m1 := km.out.cell (i := 1) rfl;have m2 := km.out.cell (i := 2) rfl;have m3 := km.out.cell (i := 3) rfl;have SW := Lib.hid (M.out.keep HB.out);have CS := Lib.hid (start_any pa1 pa2 pa3 pa4 n1 n2 n3 n4 c1 c2 c3 c4 FV FT FN FC w1 SW.out ht h20 (by omega) (el_small h20))
  go_wp2_with fail
  ((with_reducible refine CS.out.mono ?_); rintro e w2 ⟨⟨C, rfl, GF, hwk, hhi⟩, hb2⟩);have WK := Lib.hid hwk;have SEP := Lib.hid hwk.sep;have B2 := Lib.hid hb2;have hloC : C.lo = w1.heap.size := GF.lo;have HW1 := Lib.hid HB.out;have hs1 := HB.out.size;have hs2 := hb2.size;replace kf := Lib.hid (kf.out.keep hb2);have HA : Hid ((chF true n4 FV FC).Hang (eaL FC n4 n1 n1)) := Lib.hid (chF_hang (tm_range ht))
  have hcl : C.lo ≤ C.hi := by have := SEP.out.four C.g (.inl rfl); omega
  clear m0 m1 m2 m3 CS hwk hb2 km HB;have f0 := kf.out.cell (i := 0) rfl;have f1 := kf.out.cell (i := 1) rfl;have BG := Lib.hid (beginG C n4 FV FC (eaL FC n4 n1 n1) [] ax sd w2 WK.out)
  go_wp2_with fail
  ((with_reducible refine BG.out.mono ?_); rintro e w3 ⟨rfl, hg, hx⟩);clear f0 f1 BG WK;have b3 := hx.below SEP.out (by omega);rw [hloC] at b3;have B3 := Lib.hid (B2.out.trans b3);have G3 : Hid (C.Gs n4 FV FC (eaL FC n4 n1 n1) w3 (l.take 0) ax sd (l.take 0) w3.heap.size) := Lib.hid ((hg _).t List.take_zero.symm List.take_zero.symm);have kf3 := Lib.hid (kf.out.keepB b3 hfl1);have hs3 := hx.size;clear hg hx b3 kf B2;have f2 := kf3.out.cell (i := 2) rfl
  go_wp2_with fail
  clear f2
  go_loopw [24] (fun x wr => ∃ k : Nat, x = .int .i64 k ∧ k ≤ m ∧ (∀ x ∈ l.take k, (chF true n4 FV FC).fb x ax sd = true) ∧ C.Gs n4 FV FC (eaL FC n4 n1 n1) wr (l.take k) ax sd (l.take k) w3.heap.size ∧ C.Exc w3.heap.size w3 wr) (fun x _ => m - (intOf x).toNat)
  case atStart => exact ⟨0, rfl, Nat.zero_le _, (fun x h => by rw [List.take_zero] at h; exact absurd h List.not_mem_nil), G3.out, GrC.Exc.refl _ _ _⟩
  case round =>
   clear G3;obtain ⟨k, rfl, hk, hR, hG, hXr⟩ := hrel;have HR := Lib.hid hR;have HG := Lib.hid hG;have XR := Lib.hid hXr;have hzr := hXr.size;clear hR hG hXr;have hbr := XR.out.below SEP.out (by omega);rw [hloC] at hbr;have BR := Lib.hid (B3.out.trans hbr);have BW := Lib.hid (HW1.out.trans (BR.out.mono hs1));clear hbr
   by_cases hlt : k < m
   ·obtain ⟨b, o, rfl, hb, hc⟩ := (RL.out.keep BW.out).at hlt
    have x0 := hc k hlt
    have hkl : k < l.length := by omega
    have k0 : (0 : Int) ≤ (k : Int) := by omega
    have k1 : (k : Int) < (m : Int) := by omega
    have k2 : ((k : Int)).toNat = k := by omega
    have CL := Lib.hid (looksG GF (l.take k) ax sd (l.take k) w3.heap.size (l.getD k 0) wr HG.out);have TM := Lib.hid (take_more hkl);have NO : Hid ((chF true n4 FV FC).fb (l.getD k 0) ax sd = false → (chF true n4 FV FC).fits ax sd l i = false) := Lib.hid (fun q => (chF true n4 FV FC).fits_bad (mem_at hkl) (by unfold ChF.okB; rw [q]; rfl));have PL := Lib.hid (fun (q : (chF true n4 FV FC).fb (l.getD k 0) ax sd = true) => (fb_place q).1);clear hc hb;generalize hxk : l.getD k 0 = xk at *;replace hxk := Lib.hid hxk
    cases hp : (chF true n4 FV FC).fb xk ax sd with
    | false =>
     rw [hp] at CL;have E := Lib.hid (NO.out hp);clear NO hp PL
     go_wp2_with fail
     ((with_reducible refine CL.out.mono ?_); rintro e w5 ⟨rfl, q1⟩);have X5 := Lib.hid (BW.out.trans (q1.mono BW.out.size));clear q1 CL x0
     go_wp2
     go_ret
     exact ⟨by rw [E.out]; rfl, X5.out⟩
    | true =>
     rw [hp] at CL;obtain ⟨j, rfl, hj⟩ := PL.out hp;have HP := Lib.hid hp;clear NO hp PL
     go_wp2_with fail
     ((with_reducible refine CL.out.mono ?_); rintro e w5 ⟨rfl, q1⟩);have X5 := Lib.hid (XR.out.trans (GrC.Exc.of (C := C) (q1.mono hzr)));have PC := Lib.hid (putG GF (l.take k) ax sd (l.take k) w3.heap.size j w5 (HG.out.keep q1) (by omega) (Nat.le_trans hzr q1.size) hj (by rw [List.length_take]; omega));clear q1 CL x0 HG XR BR BW
     go_wp2_with fail
     ((with_reducible refine PC.out.mono ?_); rintro e w6 ⟨rfl, q1, q2⟩);have X6 := Lib.hid (X5.out.trans q2);have G6 := Lib.hid (q1.t (T' := l.take (k + 1)) (l' := l.take (k + 1)) TM.out.symm TM.out.symm)
     have HR6 : Hid (∀ x ∈ l.take (k + 1), (chF true n4 FV FC).fb x ax sd = true) := Lib.hid (fun x hx => by
      rw [TM.out] at hx
      rcases List.mem_append.1 hx with z | z
      ·exact HR.out x z
      ·rw [List.mem_singleton.1 z]; exact HP.out)
     clear q1 q2 PC X5
     go_wp2
     go_roundw
     case rel => exact ⟨k + 1, by go_num, hlt, HR6.out, G6.out, X6.out⟩
     case measure => simp [intOf]; omega
   ·obtain rfl : k = m := by omega
    have htk : l.take k = l := List.take_of_length_le (by omega);have HF : Hid (∀ x ∈ l, (chF true n4 FV FC).fb x ax sd = true) := Lib.hid (by have := HR.out; rwa [htk] at this);have FC1 := Lib.hid (fitsG GF SW.out ht l ax sd l w3.heap.size i wr BR.out (HG.out.t htk htk) (by omega) hzr (fun y hy => chF_place ((ChF.fb_iff _).1 (HF.out y hy)).1) (by omega))
    have E : Hid ((chF true n4 FV FC).pfB (eaL FC n4 n1 n1) l ax sd l i = (chF true n4 FV FC).fits ax sd l i) := Lib.hid (by
     rw [(chF true n4 FV FC).pf_fits (eaL FC n4 n1 n1) HA.out HF.out (fun k hk => hk)]
     cases z : isIn l i with
     | false => rfl
     | true => rw [ChF.fits_in _ (isIn_iff.1 z)]; rfl)
    rw [E.out] at FC1;clear htk HG XR HR
    go_wp2_with fail
    ((with_reducible refine FC1.out.mono ?_); rintro e w7 ⟨rfl, q1, q2⟩);have b7 := q2.below SEP.out (by omega);rw [hloC] at b7;have X7 := Lib.hid (BW.out.trans (b7.mono hs1));clear q1 q2 b7 FC1
    go_wp2
    go_ret
    exact ⟨rfl, X7.out⟩
set_option maxRecDepth 100000 in
set_option maxHeartbeats 8000000 in
theorem rightC_any (pa1 pa2 pa3 pa4 : Option Addr) (n1 n2 n3 n4 c1 c2 c3 c4 : Nat) (FV FT FN FC : Nat → Nat → Int) (a : Option Addr) (m c : Nat) (L : List ChT) (w : World) (hm : MsW w pa1 pa2 pa3 pa4 n1 n2 n3 n4 FV FT FN FC) (h20 : n1 ≤ 20) (h12 : n4 ≤ 12) (hr : RowC w a m L) (hm2 : m ≤ 1000000) (hl2 : ∀ e ∈ L, e.2.2.length ≤ 1000000) :
  Calls Tryz.prog 15 #[.agg #[.slice pa1 n1 c1, .slice pa2 n2 c2, .slice pa3 n3 c3, .slice pa4 n4 c4], .slice a m c] w fun e w' => e = .returned (.bool (tmB n1 n2 n3 n4 FV FT FN FC && (chF (tmB n1 n2 n3 n4 FV FT FN FC) n4 FV FC).rightB L)) ∧ Below w.heap.size w w' := by
 have HB := Lib.hid (Below.refl w.heap.size w);have M := Lib.hid hm;have RL := Lib.hid hr;have hlm := hr.1;have TA := Lib.hid (fun W (h : Below w.heap.size w W) => tame_any pa1 pa2 pa3 pa4 n1 n2 n3 n4 c1 c2 c3 c4 FV FT FN FC W (hm.keep h));clear hm hr
 cases ht : tmB n1 n2 n3 n4 FV FT FN FC with
 | false =>
  rw [ht] at TA;rw [Bool.false_and];clear ht M RL
  go_enter Tryz.func15, Tryz.ntmps15
  go_upto_region 1 with fail
  have hbm := below_new1 w (.cells #[.slice pa1 n1 c1, .slice pa2 n2 c2, .slice pa3 n3 c3, .slice pa4 n4 c4] 26)
  have zm : (w.alloc (.cells #[.slice pa1 n1 c1, .slice pa2 n2 c2, .slice pa3 n3 c3, .slice pa4 n4 c4] 26)).heap.size = w.heap.size + 1 := by simp
  have HB := Lib.hid hbm;have km := Lib.hid (Lok.new w 26 #[.slice pa1 n1 c1, .slice pa2 n2 c2, .slice pa3 n3 c3, .slice pa4 n4 c4]);clear hbm;generalize w.alloc (.cells #[.slice pa1 n1 c1, .slice pa2 n2 c2, .slice pa3 n3 c3, .slice pa4 n4 c4] 26) = Vm at *;clear zm;have m0 := km.out.cell (i := 0) rfl;have m1 := km.out.cell (i := 1) rfl;have m2 := km.out.cell (i := 2) rfl;have m3 := km.out.cell (i := 3) rfl
  go_wp2_with fail
  clear m0 m1 m2 m3
  (((with_reducible refine (TA.out _ HB.out).mono ?_); rintro e w1 ⟨rfl, hb1⟩); replace HB := Lib.hid (HB.out.trans (hb1.mono HB.out.size)); replace km := Lib.hid (km.out.keep hb1); clear hb1)
  clear TA;clear km
  go_wp2
  go_ret
  exact ⟨rfl, HB.out⟩
 | true =>
  rw [ht] at TA;rw [Bool.true_and]
  go_enter Tryz.func15, Tryz.ntmps15
  go_upto_region 1 with fail
  have hbm := below_new1 w (.cells #[.slice pa1 n1 c1, .slice pa2 n2 c2, .slice pa3 n3 c3, .slice pa4 n4 c4] 26)
  have zm : (w.alloc (.cells #[.slice pa1 n1 c1, .slice pa2 n2 c2, .slice pa3 n3 c3, .slice pa4 n4 c4] 26)).heap.size = w.heap.size + 1 := by simp
  have HB := Lib.hid hbm;have km := Lib.hid (Lok.new w 26 #[.slice pa1 n1 c1, .slice pa2 n2 c2, .slice pa3 n3 c3, .slice pa4 n4 c4]);clear hbm;generalize w.alloc (.cells #[.slice pa1 n1 c1, .slice pa2 n2 c2, .slice pa3 n3 c3, .slice pa4 n4 c4] 26) = Vm at *;clear zm;have m0 := km.out.cell (i := 0) rfl;have m1 := km.out.cell (i := 1) rfl;have m2 := km.out.cell (i := 2) rfl;have m3 := km.out.cell (i := 3) rfl
  go_wp2_with fail
  clear m0 m1 m2 m3
  (((with_reducible refine (TA.out _ HB.out).mono ?_); rintro e w1 ⟨rfl, hb1⟩); replace HB := Lib.hid (HB.out.trans (hb1.mono HB.out.size)); replace km := Lib.hid (km.out.keep hb1); clear hb1)
  clear TA;have m0 := km.out.cell (i := 0) rfl;have m1 := km.out.cell (i := 1) rfl;have m2 := km.out.cell (i := 2) rfl;have m3 := km.out.cell (i := 3) rfl;have SW := Lib.hid (M.out.keep HB.out);have CS := Lib.hid (start_any pa1 pa2 pa3 pa4 n1 n2 n3 n4 c1 c2 c3 c4 FV FT FN FC w1 SW.out ht h20 (by omega) (el_small h20))
  go_wp2_with fail
  ((with_reducible refine CS.out.mono ?_); rintro e w2 ⟨⟨C, rfl, GF, hwk, hhi⟩, hb2⟩);have WK := Lib.hid hwk;have SEP := Lib.hid hwk.sep;have B2 := Lib.hid hb2;have hloC : C.lo = w1.heap.size := GF.lo;have HW1 := Lib.hid HB.out;have hs1 := HB.out.size;have hs2 := hb2.size;have HA : Hid ((chF true n4 FV FC).Hang (eaL FC n4 n1 n1)) := Lib.hid (chF_hang (tm_range ht))
  have hcl : C.lo ≤ C.hi := by have := SEP.out.four C.g (.inl rfl); omega
  clear m0 m1 m2 m3 CS hwk hb2 km HB;have PLC := Lib.hid (fun i (q : (chF true n4 FV FC).K i = true) => chF_place q)
  go_wp2_with fail
  go_loopw [16] (fun x wr => ∃ k : Nat, x = .int .i64 k ∧ k ≤ m ∧ (∀ j ct, j < k → L[j]? = some ct → (chF true n4 FV FC).folB (eaL FC n4 n1 n1) (ChF.all (L.take j)) ct.1 ct.2.1 ct.2.2 = true) ∧ C.Wk wr (ChF.all (L.take k)) ∧ Below w1.heap.size w1 wr ∧ C.hi ≤ wr.heap.size) (fun x _ => m - (intOf x).toNat)
  case atStart => exact ⟨0, rfl, Nat.zero_le _, fun j _ h => absurd h (by omega), WK.out, B2.out, hhi⟩
  case round =>
   clear WK B2;obtain ⟨k, rfl, hk, hR, hW, hB, hzr⟩ := hrel;have HR := Lib.hid hR;have WK := Lib.hid hW;have BR := Lib.hid hB;clear hR hW hB;have BW := Lib.hid (HW1.out.trans (BR.out.mono hs1))
   by_cases hlt : k < m
   ·obtain ⟨b, o, t, m1, ct, x, y, l, rfl, hb, hL, hx, hy, hz, hri, _, _, _⟩ := RL.out.at hlt
    have hx' := keepc BW.out hx;have hy' := keepc BW.out hy;have hz' := keepc BW.out hz;rw [← Nat.add_assoc] at hy' hz';have RI := Lib.hid (hri.keep HW1.out)
    have hm1 : m1 ≤ 1000000 := by
     have := hl2 _ (List.mem_of_getElem? hL);have := hri.1
     simp only at *
     omega
    have HL := Lib.hid hL
    have k0 : (0 : Int) ≤ (k : Int) := by omega
    have k1 : (k : Int) < (m : Int) := by omega
    have k2 : ((k : Int)).toNat = k := by omega
    have TM := Lib.hid (ChF.all_take hL);have NO : Hid ((chF true n4 FV FC).folB (eaL FC n4 n1 n1) (ChF.all (L.take k)) x y l = false → (chF true n4 FV FC).rightB L = false) := Lib.hid (fun q => (chF true n4 FV FC).fol_no (eaL FC n4 n1 n1) HA.out PLC.out hL q)
    have YES : Hid ((chF true n4 FV FC).folB (eaL FC n4 n1 n1) (ChF.all (L.take k)) x y l = true → ∀ j ct, j < k + 1 → L[j]? = some ct → (chF true n4 FV FC).folB (eaL FC n4 n1 n1) (ChF.all (L.take j)) ct.1 ct.2.1 ct.2.2 = true) := Lib.hid (fun q j cc hj hcc => by
     by_cases e : j = k
     ·subst e
      rw [HL.out] at hcc
      cases hcc
      exact q
     ·exact HR.out j cc (by omega) hcc)
    clear hx hy hz hri hb hL
    go_upto_region 7 with fail
    have hbe := below_new1 wr (.cells #[.int .i64 x, .int .i64 y, .slice t m1 ct] 29);have ke := Lib.hid (Lok.new wr 29 #[.int .i64 x, .int .i64 y, .slice t m1 ct]);replace WK := Lib.hid (WK.out.keep hbe);replace BR := Lib.hid (BR.out.trans (hbe.mono BR.out.size));replace BW := Lib.hid (BW.out.trans (hbe.mono BW.out.size));have hz1 := Nat.le_trans hzr hbe.size;clear hbe hx' hy' hz';generalize wr.alloc (.cells #[.int .i64 x, .int .i64 y, .slice t m1 ct] 29) = V1 at *;have e0 := ke.out.cell (i := 0) rfl;have e1 := ke.out.cell (i := 1) rfl;have e2 := ke.out.cell (i := 2) rfl;have CF := Lib.hid (followG GF SW.out ht (ChF.all (L.take k)) x y t m1 ct l RI.out hm1 V1 BR.out WK.out hz1)
    cases hp : (chF true n4 FV FC).folB (eaL FC n4 n1 n1) (ChF.all (L.take k)) x y l with
    | false =>
     rw [hp] at CF;have E := Lib.hid (NO.out hp);clear NO YES hp
     go_wp2_with fail
     ((with_reducible refine CF.out.mono ?_); rintro e w5 ⟨rfl, -, q2⟩);have b5 := q2.below SEP.out (by omega);rw [hloC] at b5;have X5 := Lib.hid (BW.out.trans (b5.mono hs1));clear q2 b5 CF e0 e1 e2
     go_wp2
     go_ret
     exact ⟨by rw [E.out]; rfl, X5.out⟩
    | true =>
     rw [hp] at CF;have E := Lib.hid (YES.out hp);clear NO YES hp
     go_wp2_with fail
     ((with_reducible refine CF.out.mono ?_); rintro e w5 ⟨rfl, q1, q2⟩);have b5 := q2.below SEP.out (by omega);rw [hloC] at b5;have X5 := Lib.hid (BR.out.trans b5);have hz5 := Nat.le_trans hz1 q2.size;have W5 : Hid (C.Wk w5 (ChF.all (L.take (k + 1)))) := Lib.hid (by rw [TM.out]; exact q1 (by first | rfl | trivial));clear q1 q2 b5 CF e0 e1 e2
     go_wp2
     go_roundw
     case rel => exact ⟨k + 1, by go_num, hlt, E.out, W5.out, X5.out, hz5⟩
     case measure => simp [intOf]; omega
   ·obtain rfl : k = m := by omega
    have htk : L.take k = L := List.take_of_length_le (by omega);have W9 : Hid (C.Wk wr (ChF.all L)) := Lib.hid (by have := WK.out; rwa [htk] at this);clear WK;obtain ⟨ax0, sd0, v0, rc0, op0, s0⟩ := W9.out;have g0 := s0.gro.cell (i := 0) (v := .pointer (some ⟨C.gl, 0, none⟩)) rfl;clear s0
    go_wp2_with fail
    ((with_reducible refine (search_any C.gl C.g 31 wr).mono ?_); rintro e w6 ⟨⟨bl, bo, rfl, hs, hb1, hb2⟩, hb⟩);have S6 := Lib.hid (show SrW w6 bl bo C.gl (waV C.g) from hs);have BW6 := Lib.hid (BW.out.trans (hb.mono BW.out.size));have CF := Lib.hid (firstW GF (ChF.all L) bl bo w6 (W9.out.keep hb) S6.out);clear g0 hs hb W9 hb1 hb2
    have E : Hid ((fndV ((List.range n4).find? fun i : Nat => (chF true n4 FV FC).wtB (ChF.all L) (i : Int)) == -1) = (chF true n4 FV FC).rightB L) := Lib.hid (by
     cases z : ((List.range n4).find? fun i : Nat => (chF true n4 FV FC).wtB (ChF.all L) (i : Int)) with
     | none =>
      refine ((chF true n4 FV FC).right_all (eaL FC n4 n1 n1) HA.out (fun j ct hct => HR.out j ct (by have := (List.getElem?_eq_some_iff.1 hct).1; omega) hct) fun i hi hK => ?_).symm
      have y := List.find?_eq_none.1 z i (List.mem_range.2 hi);unfold ChF.wtB at y;rw [hK, Bool.true_and, Bool.not_eq_true', Bool.not_eq_false] at y
      exact isIn_iff.1 y
     | some i =>
      have h1 := List.mem_range.1 (List.mem_of_find?_eq_some z);have h2 := List.find?_some z;unfold ChF.wtB at h2;rw [Bool.and_eq_true, Bool.not_eq_true', isIn_not] at h2;rw [(chF true n4 FV FC).right_wait h1 h2.1 h2.2]
      exact (fnd_yes i).1)
    unfold srV
    go_wp2_with fail
    ((with_reducible refine CF.out.mono ?_); rintro e w7 ⟨rfl, hb7⟩);have X7 := Lib.hid (BW6.out.trans (hb7.mono BW6.out.size));clear CF hb7
    go_wp2
    go_ret
    exact ⟨by rw [← E.out]; rfl, X7.out⟩
end Go.Proofs.YtcnbbanpnoigdaaGreat
namespace Go.Proofs.YtcnbbanpnoigdaaGreat
open Go.RowKit

set_option maxRecDepth 100000 in
set_option maxHeartbeats 8000000 in
theorem growC_any (pa1 pa2 pa3 pa4 : Option Addr) (n1 n2 n3 n4 c1 c2 c3 c4 : Nat) (FV FT FN FC : Nat → Nat → Int) (w : World) (hm : MsW w pa1 pa2 pa3 pa4 n1 n2 n3 n4 FV FT FN FC) (h20 : n1 ≤ 20) (h12 : n4 ≤ 12) :
  Calls Tryz.prog 10 #[.agg #[.slice pa1 n1 c1, .slice pa2 n2 c2, .slice pa3 n3 c3, .slice pa4 n4 c4]] w fun e w' => (∃ v Z, e = .returned (.tuple #[v, .int .i64 (agE (tmB n1 n2 n3 n4 FV FT FN FC))]) ∧ OwnC w' w.heap.size v Z ∧ Z.map ctC = chA (tmB n1 n2 n3 n4 FV FT FN FC) n4 FV FC) ∧ Below w.heap.size w w' := by
 have HB := Lib.hid (Below.refl w.heap.size w);have M := Lib.hid hm;have TA := Lib.hid (fun W (h : Below w.heap.size w W) => tame_any pa1 pa2 pa3 pa4 n1 n2 n3 n4 c1 c2 c3 c4 FV FT FN FC W (hm.keep h));clear hm
 cases ht : tmB n1 n2 n3 n4 FV FT FN FC with
 | false =>
  rw [ht] at TA;rw [show agE false = 1 from rfl, show chA false n4 FV FC = [] from rfl];clear ht M
  go_enter Tryz.func10, Tryz.ntmps10
  go_upto_region 1 with fail
  have hbm := below_new1 w (.cells #[.slice pa1 n1 c1, .slice pa2 n2 c2, .slice pa3 n3 c3, .slice pa4 n4 c4] 26)
  have zm : (w.alloc (.cells #[.slice pa1 n1 c1, .slice pa2 n2 c2, .slice pa3 n3 c3, .slice pa4 n4 c4] 26)).heap.size = w.heap.size + 1 := by simp
  have HB := Lib.hid hbm;have km := Lib.hid (Lok.new w 26 #[.slice pa1 n1 c1, .slice pa2 n2 c2, .slice pa3 n3 c3, .slice pa4 n4 c4]);clear hbm;generalize w.alloc (.cells #[.slice pa1 n1 c1, .slice pa2 n2 c2, .slice pa3 n3 c3, .slice pa4 n4 c4] 26) = Vm at *;clear zm;have m0 := km.out.cell (i := 0) rfl;have m1 := km.out.cell (i := 1) rfl;have m2 := km.out.cell (i := 2) rfl;have m3 := km.out.cell (i := 3) rfl
  go_wp2_with fail
  clear m0 m1 m2 m3
  (((with_reducible refine (TA.out _ HB.out).mono ?_); rintro e w1 ⟨rfl, hb1⟩); replace HB := Lib.hid (HB.out.trans (hb1.mono HB.out.size)); replace km := Lib.hid (km.out.keep hb1); clear hb1)
  clear TA;clear km
  go_wp2
  go_ret2
  exact ⟨⟨_, [], rfl, OwnC.nil _ _, rfl⟩, HB.out⟩
 | true =>
  rw [ht] at TA;rw [show agE true = 0 from rfl, show chA true n4 FV FC = (chF true n4 FV FC).grow n4 from rfl]
  go_enter Tryz.func10, Tryz.ntmps10
  go_upto_region 1 with fail
  have hbm := below_new1 w (.cells #[.slice pa1 n1 c1, .slice pa2 n2 c2, .slice pa3 n3 c3, .slice pa4 n4 c4] 26)
  have zm : (w.alloc (.cells #[.slice pa1 n1 c1, .slice pa2 n2 c2, .slice pa3 n3 c3, .slice pa4 n4 c4] 26)).heap.size = w.heap.size + 1 := by simp
  have HB := Lib.hid hbm;have km := Lib.hid (Lok.new w 26 #[.slice pa1 n1 c1, .slice pa2 n2 c2, .slice pa3 n3 c3, .slice pa4 n4 c4]);clear hbm;generalize w.alloc (.cells #[.slice pa1 n1 c1, .slice pa2 n2 c2, .slice pa3 n3 c3, .slice pa4 n4 c4] 26) = Vm at *;clear zm;have m0 := km.out.cell (i := 0) rfl;have m1 := km.out.cell (i := 1) rfl;have m2 := km.out.cell (i := 2) rfl;have m3 := km.out.cell (i := 3) rfl
  go_wp2_with fail
  clear m0 m1 m2 m3
  (((with_reducible refine (TA.out _ HB.out).mono ?_); rintro e w1 ⟨rfl, hb1⟩); replace HB := Lib.hid (HB.out.trans (hb1.mono HB.out.size)); replace km := Lib.hid (km.out.keep hb1); clear hb1)
  clear TA;have m0 := km.out.cell (i := 0) rfl;have m1 := km.out.cell (i := 1) rfl;have m2 := km.out.cell (i := 2) rfl;have m3 := km.out.cell (i := 3) rfl;have SW := Lib.hid (M.out.keep HB.out);have CS := Lib.hid (start_any pa1 pa2 pa3 pa4 n1 n2 n3 n4 c1 c2 c3 c4 FV FT FN FC w1 SW.out ht h20 (by omega) (el_small h20))
  go_wp2_with fail
  ((with_reducible refine CS.out.mono ?_); rintro e w2 ⟨⟨C, rfl, GF, hwk, hhi⟩, hb2⟩);have WK := Lib.hid hwk;have SEP := Lib.hid hwk.sep;have B2 := Lib.hid hb2;have hloC : C.lo = w1.heap.size := GF.lo;have HW1 := Lib.hid HB.out;have hs1 := HB.out.size;have hs2 := hb2.size;have HA : Hid ((chF true n4 FV FC).Hang (eaL FC n4 n1 n1)) := Lib.hid (chF_hang (tm_range ht))
  have hcl : C.lo ≤ C.hi := by have := SEP.out.four C.g (.inl rfl); omega
  clear m0 m1 m2 m3 CS hwk hb2 km HB;obtain ⟨ax0, sd0, v0, rc0, op0, s0⟩ := WK.out;have g0 := s0.gro.cell (i := 0) (v := .pointer (some ⟨C.gl, 0, none⟩)) rfl;clear s0
  go_wp2_with fail
  ((with_reducible refine (search_any C.gl C.g 31 w2).mono ?_); rintro e w3 ⟨⟨bl, bo, rfl, hs, hb1, hb2⟩, hb⟩);have S3 := Lib.hid (show SrW w3 bl bo C.gl (waV C.g) from hs);have hbl3 := hs.1.lt;have hbo3 := hs.2.lt;have B3 := Lib.hid (B2.out.trans (hb.mono B2.out.size));have W3 : Hid (C.Wk w3 (ChF.all ((chF true n4 FV FC).grow 0))) := Lib.hid (WK.out.keep hb);have hs3 := hb.size
  have h1 : C.hi ≤ bl ∧ bl < w3.heap.size := by omega
  have h2 : C.hi ≤ bo ∧ bo < w3.heap.size := by omega
  have FW := Lib.hid (fun T x (q : C.Wk x T) (q2 : SrW x bl bo C.gl (waV C.g)) => firstW GF T bl bo x q q2);have C3 := Lib.hid (FW.out _ w3 W3.out S3.out);clear g0 hs hb WK B2 hb1 hb2;unfold srV
  go_wp2_with fail
  ((with_reducible refine C3.out.mono ?_); rintro e w4 ⟨rfl, hb4⟩);have B4 := Lib.hid (B3.out.trans (hb4.mono B3.out.size));have W4 := Lib.hid (W3.out.keep hb4);have S4 := Lib.hid (S3.out.keep hb4);have hs4 := hb4.size;clear hb4 C3 W3 B3 S3
  go_wp2_with fail
  go_loopw [5, 7] (fun v x wr => ∃ (k : Nat) (Z : List CtZ), k ≤ n4 ∧ Z.map ctC = (chF true n4 FV FC).grow k ∧ (∀ j : Nat, j < k → (chF true n4 FV FC).K j = true → (j : Int) ∈ ChF.all ((chF true n4 FV FC).grow k)) ∧ x = .int .i64 (fndV ((List.range n4).find? fun i : Nat => (chF true n4 FV FC).wtB (ChF.all ((chF true n4 FV FC).grow k)) (i : Int))) ∧ OwnC wr w3.heap.size v Z ∧ C.Wk wr (ChF.all ((chF true n4 FV FC).grow k)) ∧ SrW wr bl bo C.gl (waV C.g) ∧ Below w1.heap.size w1 wr ∧ w3.heap.size ≤ wr.heap.size) (fun v _ _ => n4 - lenV v)
  case atStart => exact ⟨0, [], Nat.zero_le _, rfl, fun j h => absurd h (by omega), rfl, OwnC.nil _ _, W4.out, S4.out, B4.out, hs4⟩
  case round =>
   clear W4 S4 B4 hs4;obtain ⟨k, Z, hk, hZ, hT, rfl, hO, hW, hS, hB, hz⟩ := hrel;have HZ := Lib.hid hZ;have HT := Lib.hid hT;have OC := Lib.hid hO;have WK := Lib.hid hW;have SR := Lib.hid hS;have BR := Lib.hid hB
   have hln : Z.length ≤ k := by
    have := grow_short (chF true n4 FV FC) k;rw [← hZ, List.length_map] at this
    exact this
   have LV := Lib.hid (ownC_len hO);clear hZ hT hO hW hS hB
   cases hf : (List.range n4).find? fun i : Nat => (chF true n4 FV FC).wtB (ChF.all ((chF true n4 FV FC).grow k)) (i : Int) with
   | some i =>
    obtain ⟨hi, hki, hK, hni, hgi, hji⟩ := (chF true n4 FV FC).wt_first HT.out hf;have hi : i < n4 := hi;obtain ⟨d1, d2⟩ := fnd_yes i;rw [show fndV (some i) = (i : Int) from rfl];clear hf
    have hiC : i < C.n := by rw [GF.n]; exact hi
    obtain ⟨ax0, sd0, v0, rc0, op0, s0⟩ := WK.out;obtain ⟨gf, cap, hfv, _, e0, e1, e2⟩ := s0.facAt hiC;have c1 := s0.gro.cell (i := 1) (v := .slice (some ⟨gf, 0, none⟩) C.n cap) (by rw [← hfv]; rfl);obtain ⟨y1, y2, _⟩ := lf_at FV FC hi;rw [GF.A i hi, ← y1] at e0;rw [GF.S i hi, ← y2] at e1;generalize C.K i = bk at *
    have i0 : (0 : Int) ≤ (i : Int) := by omega
    have i1 : (i : Int) < (C.n : Int) := by omega
    have i2 : ((i : Int)).toNat = i := by omega
    have GR := Lib.hid (growG GF SW.out ht HA.out (ChF.all ((chF true n4 FV FC).grow k)) i hi hK hni hji bk wr BR.out WK.out (by omega))
    have hjk : Hid ((chF true n4 FV FC).grow (i + 1) = (chF true n4 FV FC).grow k ++ [((chF true n4 FV FC).A i, (chF true n4 FV FC).S i, (chF true n4 FV FC).grC ((chF true n4 FV FC).A i) ((chF true n4 FV FC).S i) (ChF.all ((chF true n4 FV FC).grow k)) n4 [(i : Int)])]) := Lib.hid (by
     rw [(chF true n4 FV FC).grow_take hK (by rw [hgi]; exact hni) rfl, hgi]
     rfl)
    clear s0 hfv y1 y2;generalize hX : (chF true n4 FV FC).grC ((chF true n4 FV FC).A i) ((chF true n4 FV FC).S i) (ChF.all ((chF true n4 FV FC).grow k)) n4 [(i : Int)] = X at *;replace hX := Lib.hid hX;have GT := Lib.hid (fun (j : Nat) (hj : j < i + 1) (q : (chF true n4 FV FC).K j = true) => (chF true n4 FV FC).grow_takes q (i + 1) hj);have ALL : Hid (ChF.all ((chF true n4 FV FC).grow (i + 1)) = ChF.all ((chF true n4 FV FC).grow k) ++ X) := Lib.hid (by rw [hjk.out, ChF.all_snoc]);clear hji hK hni hgi;generalize hA : (chF true n4 FV FC).A i = fa at *;replace hA := Lib.hid hA;generalize hS : (chF true n4 FV FC).S i = fs at *;replace hS := Lib.hid hS
    go_wp2_with fail
    ((with_reducible refine GR.out.mono ?_); rintro e w5 ⟨⟨v5, rfl, hO5, hW5⟩, hx5⟩);clear GR e0 e1 e2 c1;obtain ⟨a5, c5, ev5⟩ := ownR_slc hO5;generalize hXl : X.length = lX at ev5;replace hXl := Lib.hid hXl;subst ev5;have O5 := Lib.hid (ownC_exc OC.out hx5 SEP.out (show C.hi ≤ w3.heap.size by omega));have b5 := hx5.below SEP.out (by omega);rw [hloC] at b5;have B5 := Lib.hid (BR.out.trans b5);have S5 := Lib.hid (SR.out.exc (hx5.mono hz) SEP.out h1 h2);have W5 := Lib.hid hW5;have T5 := Lib.hid (ownI_mono hO5 hz);have hz5 := Nat.le_trans hz hx5.size
    have hdj : ∀ b, (Value.slice a5 lX c5).ownBlock = some b → u5.ownBlock ≠ some b := fun b q q2 => by
     have z1 := (World.ownsRow.lt hO5 b q).1;have z2 := (World.ownsRow.lt OC.out.1 b q2).2
     omega
    have HDJ := Lib.hid hdj;clear hx5 b5 hO5 hW5 OC SR WK BR hdj
    go_wp2_with (at_builtin; refine app_chart rfl _ _ rfl w3.heap.size u5 Z rfl O5.out fa fs X (.slice a5 lX c5) rfl T5.out HDJ.out (by omega) hz5 ?_)
    intro v6 w6 hO6 hb6
    have O6 := Lib.hid hO6;have B6 := Lib.hid (B5.out.trans (hb6.mono (by omega)));have W6 : Hid (C.Wk w6 (ChF.all ((chF true n4 FV FC).grow (i + 1)))) := Lib.hid (by rw [ALL.out]; exact W5.out.keepB hb6 (by omega));have S6 : Hid (SrW w6 bl bo C.gl (waV C.g)) := Lib.hid ⟨S5.out.1.keepB hb6 h1.2, S5.out.2.keepB hb6 h2.2⟩;have hz6 := Nat.le_trans hz5 hb6.size;have LV6 := Lib.hid (ownC_len hO6);have Z6 : Hid ((Z ++ [(fa, fs, X, Value.slice a5 lX c5)]).map ctC = (chF true n4 FV FC).grow (i + 1)) := Lib.hid (by rw [hjk.out, List.map_append, HZ.out]; rfl);clear hO6 hb6 O5 B5 W5 S5 T5 HDJ;have C6 := Lib.hid (FW.out _ w6 W6.out S6.out)
    go_wp2_with fail
    ((with_reducible refine C6.out.mono ?_); rintro e w7 ⟨rfl, hb7⟩);have O7 := Lib.hid (O6.out.keep hb7);have W7 := Lib.hid (W6.out.keep hb7);have S7 := Lib.hid (S6.out.keep hb7);have B7 := Lib.hid (B6.out.trans (hb7.mono B6.out.size));have hz7 := Nat.le_trans hz6 hb7.size;clear hb7 C6 O6 W6 S6 B6
    go_wp2
    go_roundw
    case rel => exact ⟨i + 1, _, hi, Z6.out, GT.out, rfl, O7.out, W7.out, S7.out, B7.out, hz7⟩
    case measure =>
     rw [LV6.out, LV.out, List.length_append, List.length_singleton]
     omega
   | none =>
    have E : Hid ((chF true n4 FV FC).grow n4 = (chF true n4 FV FC).grow k) := Lib.hid ((chF true n4 FV FC).wt_none hk hf);rw [show fndV none = -1 from rfl];clear hf;have O9 := Lib.hid (OC.out.mono (show w.heap.size ≤ w3.heap.size by omega));have B9 := Lib.hid (HW1.out.trans (BR.out.mono hs1))
    go_wp2
    go_ret2
    exact ⟨⟨_, Z, rfl, O9.out, by rw [HZ.out, E.out]⟩, B9.out⟩
theorem chart_ok : ChOK where
 tame := fun pa1 pa2 pa3 pa4 n1 n2 n3 n4 c1 c2 c3 c4 FV FT FN FC w hm _ _ => tame_any pa1 pa2 pa3 pa4 n1 n2 n3 n4 c1 c2 c3 c4 FV FT FN FC w hm
 facing := fun pa1 pa2 pa3 pa4 n1 n2 n3 n4 c1 c2 c3 c4 FV FT FN FC i w hm _ _ => facingC_any pa1 pa2 pa3 pa4 n1 n2 n3 n4 c1 c2 c3 c4 FV FT FN FC i w hm
 shadow := fun pa1 pa2 pa3 pa4 n1 n2 n3 n4 c1 c2 c3 c4 FV FT FN FC i ax w hm _ _ => shadowC_any pa1 pa2 pa3 pa4 n1 n2 n3 n4 c1 c2 c3 c4 FV FT FN FC i ax w hm
 fits := fun pa1 pa2 pa3 pa4 n1 n2 n3 n4 c1 c2 c3 c4 FV FT FN FC ax sd a m c l i w hm h1 h4 hr h => fitsC_any pa1 pa2 pa3 pa4 n1 n2 n3 n4 c1 c2 c3 c4 FV FT FN FC ax sd a m c l i w hm h1 h4 hr (by omega)
 grow := fun pa1 pa2 pa3 pa4 n1 n2 n3 n4 c1 c2 c3 c4 FV FT FN FC w hm h1 h4 => growC_any pa1 pa2 pa3 pa4 n1 n2 n3 n4 c1 c2 c3 c4 FV FT FN FC w hm h1 h4
 right := fun pa1 pa2 pa3 pa4 n1 n2 n3 n4 c1 c2 c3 c4 FV FT FN FC a m c L w hm h1 h4 hr h2 h3 => rightC_any pa1 pa2 pa3 pa4 n1 n2 n3 n4 c1 c2 c3 c4 FV FT FN FC a m c L w hm h1 h4 hr (by omega) (fun e he => by have := h3 e he; omega)
end Go.Proofs.YtcnbbanpnoigdaaGreat
