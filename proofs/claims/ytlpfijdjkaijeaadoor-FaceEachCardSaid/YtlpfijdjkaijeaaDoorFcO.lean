/-
  The document's rows: faced. (gen/FcO.py)
-/
import Derived.Test.YtlpfijdjkaijeaaDoorFcM
import Derived.Test.YtlpfijdjkaijeaaDoorFcN
import Derived.Test.YtlpfijdjkaijeaaDoorFcE
namespace Go.Proofs.YtlpfijdjkaijeaaDoor
open Go.RowKit

theorem corner_lit (s : ByteArray) (v t n a b c x : Int) (h : cornerS s.data.toList v t n = (a, b, c, x)) (hs : s.size ≤ 1000) (bv : -9223372036854775808 ≤ v ∧ v ≤ 9223372036854775807) (bt : -9223372036854775808 ≤ t ∧ t ≤ 9223372036854775807) (bn : -9223372036854775808 ≤ n ∧ n ≤ 9223372036854775807) (w : World) :
    Calls Tryd.prog 9 #[.string s, .int .i64 v, .int .i64 t, .int .i64 n] w fun e w' => e = .returned (.tuple #[.agg #[.int .i64 a, .int .i64 b, .int .i64 c], .int .i64 x]) ∧ Below w.heap.size w w' := by
  have k := corner_any s v t n w hs bv bt bn
  rw [h] at k
  exact k
theorem print_lit (v t n : Int) (l : List UInt8) (x : Int) (h : printC v t n = (l, x)) (w : World) (ht : Tab w) :
    Calls Tryd.prog 13 #[.agg #[.int .i64 v, .int .i64 t, .int .i64 n]] w fun e w' => e = .returned (.tuple #[.string ⟨l.toArray⟩, .int .i64 x]) ∧ Below w.heap.size w w' := by
  have k := print_f v t n w ht
  rw [h] at k
  exact k
def fourF (i : Nat) : ByteArray := if i = 0 then ⟨#[49]⟩ else if i = 1 then ⟨#[50]⟩ else if i = 2 then ⟨#[51]⟩ else ⟨#[52]⟩
theorem rowS_four (W : World) : RowS (W.alloc (.cells #[.string ⟨#[49]⟩, .string ⟨#[50]⟩, .string ⟨#[51]⟩, .string ⟨#[52]⟩] 9)) (some ⟨W.heap.size, 0, none⟩) 4 4 fourF := by
  refine .inr ⟨W.heap.size, 0, rfl, by simp, by decide, fun i hi => ?_⟩
  rcases (by omega : i = 0 ∨ i = 1 ∨ i = 2 ∨ i = 3) with rfl | rfl | rfl | rfl <;> exact alloc_cell rfl rfl
theorem ex_c1 : cornerS (⟨#[51]⟩ : ByteArray).data.toList 4 2 1 = (2, -1, -1, 0) := by decide +kernel
theorem ex_c2 : cornerS (⟨#[45, 49, 47, 50]⟩ : ByteArray).data.toList 4 2 1 = (3, 1, -1, 0) := by decide +kernel
theorem ex_c3 : cornerS (⟨#[49, 47, 47, 45, 49]⟩ : ByteArray).data.toList 4 2 1 = (0, -1, 0, 0) := by decide +kernel
theorem ex_c4 : cornerS (⟨#[50, 47, 49, 47, 49]⟩ : ByteArray).data.toList 4 2 1 = (1, 0, 0, 0) := by decide +kernel
theorem ex_c5 : cornerS (⟨#[53]⟩ : ByteArray).data.toList 4 2 1 = (0, 0, 0, 7) := by decide +kernel
theorem ex_c6 : cornerS (⟨#[49, 47]⟩ : ByteArray).data.toList 4 2 1 = (0, 0, 0, 6) := by decide +kernel
theorem ex_p : printC 0 (-1) 0 = ([49, 47, 47, 49], 0) := by decide +kernel
theorem ex_f : faceE fourF 4 0 0 4 = 0 := by decide +kernel
theorem ex_v : fanF (cornF fourF 4 0 0) 1 6 = 3 := by decide +kernel
set_option maxRecDepth 100000 in
set_option maxHeartbeats 8000000 in
theorem faced_any (w : World) (ht : Tab w) : Calls Tryd.prog 17 #[] w fun e w' => e = .returned (.bool true) ∧ Below w.heap.size w w' := by
  have HB := Lib.hid (Below.refl w.heap.size w)
  have HT := Lib.hid ht
  clear ht
  have C1 := Lib.hid (corner_lit ⟨#[51]⟩ 4 2 1 (2) (-1) (-1) (0) ex_c1 (by decide) (by decide) (by decide) (by decide))
  have C2 := Lib.hid (corner_lit ⟨#[45, 49, 47, 50]⟩ 4 2 1 (3) (1) (-1) (0) ex_c2 (by decide) (by decide) (by decide) (by decide))
  have C3 := Lib.hid (corner_lit ⟨#[49, 47, 47, 45, 49]⟩ 4 2 1 (0) (-1) (0) (0) ex_c3 (by decide) (by decide) (by decide) (by decide))
  have C4 := Lib.hid (corner_lit ⟨#[50, 47, 49, 47, 49]⟩ 4 2 1 (1) (0) (0) (0) ex_c4 (by decide) (by decide) (by decide) (by decide))
  have C5 := Lib.hid (corner_lit ⟨#[53]⟩ 4 2 1 (0) (0) (0) (7) ex_c5 (by decide) (by decide) (by decide) (by decide))
  have C6 := Lib.hid (corner_lit ⟨#[49, 47]⟩ 4 2 1 (0) (0) (0) (6) ex_c6 (by decide) (by decide) (by decide) (by decide))
  have PR := Lib.hid (print_lit 0 (-1) 0 _ _ ex_p)
  have FC := Lib.hid (fun W => face_any 4 0 0 (some ⟨World.heap W |>.size, 0, none⟩) 4 4 fourF (W.alloc (.cells #[.string ⟨#[49]⟩, .string ⟨#[50]⟩, .string ⟨#[51]⟩, .string ⟨#[52]⟩] 9)) (rowS_four W) (by decide) (fun i _ => by unfold fourF; split; decide; split; decide; split; decide; decide) (by decide) (by decide) (by decide))
  have FN := Lib.hid (fun W => fan_any none 0 0 (fun _ _ => 0) W (.inl rfl) (by decide))
  go_enter Tryd.func17, Tryd.ntmps17
  go_wp2_with fail

  (((with_reducible refine (C1.out _).mono ?_); rintro e w1 ⟨rfl, hb1⟩); replace HB := Lib.hid (HB.out.trans (hb1.mono HB.out.size)); replace HT := Lib.hid (HT.out.keep hb1); clear hb1)
  go_upto_region 2 with fail
  have hba := below_new1 w1 (.cells #[.int .i64 2, .int .i64 (-1), .int .i64 (-1)] 23)
  replace HT := Lib.hid (HT.out.keep hba)
  have za : (w1.alloc (.cells #[.int .i64 2, .int .i64 (-1), .int .i64 (-1)] 23)).heap.size = w1.heap.size + 1 := by simp
  replace HB := Lib.hid (HB.out.trans (hba.mono HB.out.size))
  have ka := Lib.hid (Lok.new w1 23 #[.int .i64 2, .int .i64 (-1), .int .i64 (-1)])
  clear hba
  generalize w1.alloc (.cells #[.int .i64 2, .int .i64 (-1), .int .i64 (-1)] 23) = Va at *
  clear za
  generalize w1.heap.size = ga at *
  go_wp2_with fail
  (((with_reducible refine (C2.out _).mono ?_); rintro e w2 ⟨rfl, hb2⟩); replace HB := Lib.hid (HB.out.trans (hb2.mono HB.out.size)); replace HT := Lib.hid (HT.out.keep hb2); replace ka := Lib.hid (ka.out.keep hb2); clear hb2)
  go_upto_region 3 with fail
  have hbb := below_new1 w2 (.cells #[.int .i64 3, .int .i64 1, .int .i64 (-1)] 23)
  replace HT := Lib.hid (HT.out.keep hbb)
  replace ka := Lib.hid (ka.out.keep hbb)
  have zb : (w2.alloc (.cells #[.int .i64 3, .int .i64 1, .int .i64 (-1)] 23)).heap.size = w2.heap.size + 1 := by simp
  replace HB := Lib.hid (HB.out.trans (hbb.mono HB.out.size))
  have kb := Lib.hid (Lok.new w2 23 #[.int .i64 3, .int .i64 1, .int .i64 (-1)])
  clear hbb
  generalize w2.alloc (.cells #[.int .i64 3, .int .i64 1, .int .i64 (-1)] 23) = Vb at *
  clear zb
  generalize w2.heap.size = gb at *
  go_wp2_with fail
  (((with_reducible refine (C3.out _).mono ?_); rintro e w3 ⟨rfl, hb3⟩); replace HB := Lib.hid (HB.out.trans (hb3.mono HB.out.size)); replace HT := Lib.hid (HT.out.keep hb3); replace ka := Lib.hid (ka.out.keep hb3); replace kb := Lib.hid (kb.out.keep hb3); clear hb3)
  go_upto_region 4 with fail
  have hbc := below_new1 w3 (.cells #[.int .i64 0, .int .i64 (-1), .int .i64 0] 23)
  replace HT := Lib.hid (HT.out.keep hbc)
  replace ka := Lib.hid (ka.out.keep hbc)
  replace kb := Lib.hid (kb.out.keep hbc)
  have zc : (w3.alloc (.cells #[.int .i64 0, .int .i64 (-1), .int .i64 0] 23)).heap.size = w3.heap.size + 1 := by simp
  replace HB := Lib.hid (HB.out.trans (hbc.mono HB.out.size))
  have kc := Lib.hid (Lok.new w3 23 #[.int .i64 0, .int .i64 (-1), .int .i64 0])
  clear hbc
  generalize w3.alloc (.cells #[.int .i64 0, .int .i64 (-1), .int .i64 0] 23) = Vc at *
  clear zc
  generalize w3.heap.size = gc at *
  go_wp2_with fail
  (((with_reducible refine (C4.out _).mono ?_); rintro e w4 ⟨rfl, hb4⟩); replace HB := Lib.hid (HB.out.trans (hb4.mono HB.out.size)); replace HT := Lib.hid (HT.out.keep hb4); replace ka := Lib.hid (ka.out.keep hb4); replace kb := Lib.hid (kb.out.keep hb4); replace kc := Lib.hid (kc.out.keep hb4); clear hb4)
  go_upto_region 5 with fail
  have hbd := below_new1 w4 (.cells #[.int .i64 1, .int .i64 0, .int .i64 0] 23)
  replace HT := Lib.hid (HT.out.keep hbd)
  replace ka := Lib.hid (ka.out.keep hbd)
  replace kb := Lib.hid (kb.out.keep hbd)
  replace kc := Lib.hid (kc.out.keep hbd)
  have zd : (w4.alloc (.cells #[.int .i64 1, .int .i64 0, .int .i64 0] 23)).heap.size = w4.heap.size + 1 := by simp
  replace HB := Lib.hid (HB.out.trans (hbd.mono HB.out.size))
  have kd := Lib.hid (Lok.new w4 23 #[.int .i64 1, .int .i64 0, .int .i64 0])
  clear hbd
  generalize w4.alloc (.cells #[.int .i64 1, .int .i64 0, .int .i64 0] 23) = Vd at *
  clear zd
  generalize w4.heap.size = gd at *
  go_wp2_with fail
  (((with_reducible refine (C5.out _).mono ?_); rintro e w5 ⟨rfl, hb5⟩); replace HB := Lib.hid (HB.out.trans (hb5.mono HB.out.size)); replace HT := Lib.hid (HT.out.keep hb5); replace ka := Lib.hid (ka.out.keep hb5); replace kb := Lib.hid (kb.out.keep hb5); replace kc := Lib.hid (kc.out.keep hb5); replace kd := Lib.hid (kd.out.keep hb5); clear hb5)
  go_upto_region 6 with fail
  have hbe := below_new1 w5 (.cells #[.int .i64 0, .int .i64 0, .int .i64 0] 23)
  replace HT := Lib.hid (HT.out.keep hbe)
  replace ka := Lib.hid (ka.out.keep hbe)
  replace kb := Lib.hid (kb.out.keep hbe)
  replace kc := Lib.hid (kc.out.keep hbe)
  replace kd := Lib.hid (kd.out.keep hbe)
  have ze : (w5.alloc (.cells #[.int .i64 0, .int .i64 0, .int .i64 0] 23)).heap.size = w5.heap.size + 1 := by simp
  replace HB := Lib.hid (HB.out.trans (hbe.mono HB.out.size))
  have ke := Lib.hid (Lok.new w5 23 #[.int .i64 0, .int .i64 0, .int .i64 0])
  clear hbe
  generalize w5.alloc (.cells #[.int .i64 0, .int .i64 0, .int .i64 0] 23) = Ve at *
  clear ze ke
  generalize w5.heap.size = ge at *
  go_wp2_with fail
  (((with_reducible refine (C6.out _).mono ?_); rintro e w6 ⟨rfl, hb6⟩); replace HB := Lib.hid (HB.out.trans (hb6.mono HB.out.size)); replace HT := Lib.hid (HT.out.keep hb6); replace ka := Lib.hid (ka.out.keep hb6); replace kb := Lib.hid (kb.out.keep hb6); replace kc := Lib.hid (kc.out.keep hb6); replace kd := Lib.hid (kd.out.keep hb6); clear hb6)
  go_upto_region 7 with fail
  have hbf := below_new1 w6 (.cells #[.int .i64 0, .int .i64 0, .int .i64 0] 23)
  replace HT := Lib.hid (HT.out.keep hbf)
  replace ka := Lib.hid (ka.out.keep hbf)
  replace kb := Lib.hid (kb.out.keep hbf)
  replace kc := Lib.hid (kc.out.keep hbf)
  replace kd := Lib.hid (kd.out.keep hbf)
  have zf : (w6.alloc (.cells #[.int .i64 0, .int .i64 0, .int .i64 0] 23)).heap.size = w6.heap.size + 1 := by simp
  replace HB := Lib.hid (HB.out.trans (hbf.mono HB.out.size))
  have kf := Lib.hid (Lok.new w6 23 #[.int .i64 0, .int .i64 0, .int .i64 0])
  clear hbf
  generalize w6.alloc (.cells #[.int .i64 0, .int .i64 0, .int .i64 0] 23) = Vf at *
  clear zf kf
  generalize w6.heap.size = gf at *
  have c0 := kc.out.cell (i := 0) rfl
  have c1 := kc.out.cell (i := 1) rfl
  have c2 := kc.out.cell (i := 2) rfl
  go_wp2_with fail
  clear c0 c1 c2
  (((with_reducible refine (PR.out _ HT.out).mono ?_); rintro e w7 ⟨rfl, hb7⟩); replace HB := Lib.hid (HB.out.trans (hb7.mono HB.out.size)); replace HT := Lib.hid (HT.out.keep hb7); replace ka := Lib.hid (ka.out.keep hb7); replace kb := Lib.hid (kb.out.keep hb7); replace kc := Lib.hid (kc.out.keep hb7); replace kd := Lib.hid (kd.out.keep hb7); clear hb7)
  go_wp2_with fail
  (with_reducible refine (FC.out _).mono ?_); rintro e w8 ⟨hb, ⟨h0, rfl⟩ | ⟨-, -, a8, c8, rfl, hr, hc8⟩⟩
  · exact absurd ex_f h0
  have hb8 := below_new1 w7 (.cells #[.string ⟨#[49]⟩, .string ⟨#[50]⟩, .string ⟨#[51]⟩, .string ⟨#[52]⟩] 9)
  replace hb := hb8.trans (hb.mono hb8.size)
  replace HB := Lib.hid (HB.out.trans (hb.mono HB.out.size))
  replace HT := Lib.hid (HT.out.keep hb)
  replace ka := Lib.hid (ka.out.keep hb)
  replace kb := Lib.hid (kb.out.keep hb)
  replace kc := Lib.hid (kc.out.keep hb)
  replace kd := Lib.hid (kd.out.keep hb)
  obtain ⟨b8, off, rfl, -, hc⟩ := hr.at (i := 1) (by decide)
  have cv := hc 1 (by decide) 6 (by decide)
  rw [ex_v] at cv
  replace cv : w8.cell? ⟨b8, off + 15, none⟩ = some (.int .i64 3) := cv
  have CV := Lib.hid cv
  clear hb hb8 hr hc cv
  have a0 := ka.out.cell (i := 0) rfl
  have a1 := ka.out.cell (i := 1) rfl
  have a2 := ka.out.cell (i := 2) rfl
  have b0 := kb.out.cell (i := 0) rfl
  have b1 := kb.out.cell (i := 1) rfl
  have b2 := kb.out.cell (i := 2) rfl
  have c0 := kc.out.cell (i := 0) rfl
  have c1 := kc.out.cell (i := 1) rfl
  have c2 := kc.out.cell (i := 2) rfl
  have d0 := kd.out.cell (i := 0) rfl
  have d1 := kd.out.cell (i := 1) rfl
  have d2 := kd.out.cell (i := 2) rfl
  go_upto_region 10 with fail
  clear a0 a1 a2 b0 b1 b2 c0 c1 c2 d0 d1 d2
  have cv := CV.out
  go_wp2_with fail
  (with_reducible refine (FN.out _).mono ?_); rintro e w9 ⟨hb, a9, c9, rfl, -, -⟩
  replace HB := Lib.hid (HB.out.trans (hb.mono HB.out.size))
  clear hb CV cv
  go_wp2_with fail
  go_ret
  exact ⟨rfl, HB.out⟩
end Go.Proofs.YtlpfijdjkaijeaaDoor
