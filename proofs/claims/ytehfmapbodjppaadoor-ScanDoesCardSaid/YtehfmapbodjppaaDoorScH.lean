/-
  The laws' own function scanned.
-/
import Derived.Test.YtehfmapbodjppaaDoorScE
import Derived.Test.YtehfmapbodjppaaDoorScF
import Derived.Test.YtehfmapbodjppaaDoorScG
import Derived.Test.YtehfmapbodjppaaDoorSame
namespace Go.Proofs.YtehfmapbodjppaaDoor
open Go.RowKit

abbrev bs (l : List UInt8) : ByteArray := ⟨l.toArray⟩
def exF (i : Nat) : ByteArray := ([bs [49, 46, 53], bs [45, 48, 46, 48, 48, 49], bs [43, 46, 53], bs [51, 46]][i]?).getD (bs [])
def exD (i : Nat) : Int := (([384, -1, 128, 768] : List Int)[i]?).getD 0
theorem ex_er : erS exF 4 = 0 := by decide +kernel
theorem ex_st : ∀ i, i < 4 → stS exF i = exD i := by decide +kernel
theorem ex_p1 : parseS (bs [49, 46, 50, 46, 51]).data.toList = (0, 6) := by decide +kernel
theorem ex_p2 : parseS (bs [52, 48, 57, 55]).data.toList = (0, 5) := by decide +kernel
theorem ex_w1 : wholeS (bs [45, 49, 50]).data.toList = (-12, 0) := by decide +kernel
theorem ex_w2 : wholeS (bs [48, 48, 55]).data.toList = (0, 6) := by decide +kernel
theorem ex_t1 : printA 1 = ([48, 46, 48, 48, 51, 57, 48, 54, 50, 53], 0) := by
  unfold printA; rw [if_pos (by decide)]; unfold printS; rw [if_neg (by decide)]; unfold printU
  rw [show (1 : Int).natAbs / 256 = 0 from rfl, Lib.decDigits_one (by decide)]; decide +kernel
theorem ex_t2 : printA (-384) = ([45, 49, 46, 53], 0) := by
  unfold printA; rw [if_pos (by decide)]; unfold printS; rw [if_pos (by decide)]; unfold printU
  rw [show (-384 : Int).natAbs / 256 = 1 from rfl, Lib.decDigits_one (by decide)]; decide +kernel

theorem rowS_four (W : World) : RowS (W.alloc (.cells #[.string (bs [49, 46, 53]), .string (bs [45, 48, 46, 48, 48, 49]), .string (bs [43, 46, 53]), .string (bs [51, 46])] 9)) (some ⟨W.heap.size, 0, none⟩) 4 4 exF := by
  refine .inr ⟨W.heap.size, 0, rfl, by simp, Nat.le_refl _, fun i hi => ?_⟩
  have k := Lok.new W 9 #[.string (bs [49, 46, 53]), .string (bs [45, 48, 46, 48, 48, 49]), .string (bs [43, 46, 53]), .string (bs [51, 46])]
  rw [Nat.zero_add]
  rcases show i = 0 ∨ i = 1 ∨ i = 2 ∨ i = 3 by omega with rfl | rfl | rfl | rfl
  · exact k.cell rfl
  · exact k.cell rfl
  · exact k.cell rfl
  · exact k.cell rfl
theorem rowF_four (W : World) : RowF (W.alloc (.cells #[.int .i64 384, .int .i64 (-1), .int .i64 128, .int .i64 768] 3)) (some ⟨W.heap.size, 0, none⟩) 4 4 exD := by
  refine .inr ⟨W.heap.size, 0, rfl, by simp, Nat.le_refl _, fun i hi => ?_⟩
  have k := Lok.new W 3 #[.int .i64 384, .int .i64 (-1), .int .i64 128, .int .i64 768]
  rw [Nat.zero_add]
  rcases show i = 0 ∨ i = 1 ∨ i = 2 ∨ i = 3 by omega with rfl | rfl | rfl | rfl
  · exact k.cell rfl
  · exact k.cell rfl
  · exact k.cell rfl
  · exact k.cell rfl

set_option maxRecDepth 100000 in
set_option maxHeartbeats 4000000 in
theorem scanned_any (w : World) (ht : Tab w) : Calls Tryd.prog 17 #[] w fun e w' => e = .returned (.bool true) ∧ Below w.heap.size w w' := by
  have HB := Lib.hid (Below.refl w.heap.size w)
  have HT := Lib.hid ht
  clear ht
  have C1 := Lib.hid (fun (W : World) (hW : Tab W) => print_any 1 W hW (by decide) (by decide))
  have C2 := Lib.hid (fun (W : World) (hW : Tab W) => print_any (-384) W hW (by decide) (by decide))
  have C3 := Lib.hid (fun W => parse_any (bs [49, 46, 50, 46, 51]) W)
  have C4 := Lib.hid (fun W => parse_any (bs [52, 48, 57, 55]) W)
  have C5 := Lib.hid (fun W => whole_any (bs [45, 49, 50]) W)
  have C6 := Lib.hid (fun W => whole_any (bs [48, 48, 55]) W)
  rw [ex_t1] at C1
  rw [ex_t2] at C2
  rw [ex_p1] at C3
  rw [ex_p2] at C4
  rw [ex_w1] at C5
  rw [ex_w2] at C6
  unfold retT at C1 C2
  unfold retP at C3 C4
  unfold retW at C5 C6
  unfold bs at C3 C4 C5 C6
  go_enter Tryd.func17, Tryd.ntmps17
  go_wp2_with fail
  have R0 := rowS_four w
  unfold bs at R0
  have hb0 := below_new1 w (.cells #[.string ⟨[49, 46, 53].toArray⟩, .string ⟨[45, 48, 46, 48, 48, 49].toArray⟩, .string ⟨[43, 46, 53].toArray⟩, .string ⟨[51, 46].toArray⟩] 9)
  (with_reducible refine (row_any _ 4 4 exF _ R0 (by decide)).mono ?_)
  rintro e w1 ⟨hb1, hq | ⟨-, a, c, rfl, hr, hc⟩⟩
  · exact absurd ex_er hq.1
  have HR := Lib.hid hr
  replace HT := Lib.hid ((HT.out.keep hb0).keep hb1)
  replace HB := Lib.hid ((HB.out.trans (hb0.mono HB.out.size)).trans (hb1.mono (Nat.le_trans HB.out.size hb0.size)))
  clear hr R0 hb0 hb1
  go_wp2_with fail
  (((with_reducible refine (C1.out _ HT.out).mono ?_); rintro e w2 ⟨rfl, hb2⟩); replace HB := Lib.hid (HB.out.trans (hb2.mono HB.out.size)); replace HT := Lib.hid (HT.out.keep hb2); replace HR := Lib.hid (HR.out.keep hb2); clear hb2)
  go_wp2_with fail
  (((with_reducible refine (C2.out _ HT.out).mono ?_); rintro e w3 ⟨rfl, hb3⟩); replace HB := Lib.hid (HB.out.trans (hb3.mono HB.out.size)); replace HT := Lib.hid (HT.out.keep hb3); replace HR := Lib.hid (HR.out.keep hb3); clear hb3)
  go_wp2_with fail
  (((with_reducible refine (C3.out _).mono ?_); rintro e w4 ⟨rfl, hb4⟩); replace HB := Lib.hid (HB.out.trans (hb4.mono HB.out.size)); replace HT := Lib.hid (HT.out.keep hb4); replace HR := Lib.hid (HR.out.keep hb4); clear hb4)
  go_wp2_with fail
  (((with_reducible refine (C4.out _).mono ?_); rintro e w5 ⟨rfl, hb5⟩); replace HB := Lib.hid (HB.out.trans (hb5.mono HB.out.size)); replace HT := Lib.hid (HT.out.keep hb5); replace HR := Lib.hid (HR.out.keep hb5); clear hb5)
  go_wp2_with fail
  (((with_reducible refine (C5.out _).mono ?_); rintro e w6 ⟨rfl, hb6⟩); replace HB := Lib.hid (HB.out.trans (hb6.mono HB.out.size)); replace HT := Lib.hid (HT.out.keep hb6); replace HR := Lib.hid (HR.out.keep hb6); clear hb6)
  go_wp2_with fail
  (((with_reducible refine (C6.out _).mono ?_); rintro e w7 ⟨rfl, hb7⟩); replace HB := Lib.hid (HB.out.trans (hb7.mono HB.out.size)); replace HT := Lib.hid (HT.out.keep hb7); replace HR := Lib.hid (HR.out.keep hb7); clear hb7)
  go_wp2_with fail
  have R2 := rowF_four w7
  have hb0 := below_new1 w7 (.cells #[.int .i64 384, .int .i64 (-1), .int .i64 128, .int .i64 768] 3)
  (with_reducible refine (same_yes _ _ 4 c 4 (stS exF) exD _ (HR.out.keep hb0) R2 ex_st (by decide)).mono ?_)
  rintro e w8 ⟨rfl, hb8⟩
  replace HB := Lib.hid ((HB.out.trans (hb0.mono HB.out.size)).trans (hb8.mono (Nat.le_trans HB.out.size hb0.size)))
  clear R2 hb0 hb8
  go_wp2_with fail
  go_ret
  exact ⟨rfl, HB.out⟩
end Go.Proofs.YtehfmapbodjppaaDoor
