/-
  ScanDoes: its walk.
-/
import Derived.Test.YtehfmapbodjppaaDoorScRC
import Derived.Test.YtehfmapbodjppaaDoorScRD
import Derived.Test.YtehfmapbodjppaaDoorScRE
import Derived.Test.YtehfmapbodjppaaDoorScH
namespace Go.Proofs.YtehfmapbodjppaaDoor
open Go.RowKit

theorem rowF_nil (W : World) : RowF W none 0 0 (fun _ => 0) := Or.inl ⟨rfl, rfl, rfl⟩
set_option maxRecDepth 100000 in
set_option maxHeartbeats 4000000 in
theorem law_does (s : ByteArray) (a : Option Addr) (n c : Nat) (F : Nat → ByteArray) (m : Int) (w : World) (hr : RowS w a n c F) (hc : n ≤ 9223372036854775807) (ht : Tab w) (b2 : -9223372036854775808 ≤ m ∧ m ≤ 9223372036854775807) :
    Calls Tryd.prog 3 #[.string s, .slice a n c, .int .i64 m] w fun e w' => e = .returned (.bool true) ∧ Below w.heap.size w w' := by
  have HB := Lib.hid (Below.refl w.heap.size w)
  have HT := Lib.hid ht
  have R := Lib.hid hr
  clear ht hr
  by_cases h : 100 < s.size
  · have h1 : (100 : Int) < s.size := by omega
    have h2 : decide ((100 : Int) < s.size) = true := decide_eq_true h1
    clear h b2
    go_enter Tryd.func3, Tryd.ntmps3
    go_wp2_with fail
    go_ret
    exact ⟨rfl, HB.out⟩
  · have h1 : ¬ (100 : Int) < s.size := by omega
    have h2 : decide ((100 : Int) < s.size) = false := decide_eq_false h1
    have C1 := Lib.hid (fun W => parse_any s W)
    have C2 := Lib.hid (fun W => rparse_any s W)
    have C5 := Lib.hid (fun (W : World) (hW : Tab W) => print_any m W hW b2.1 b2.2)
    have C6 := Lib.hid (fun W => rprint_any m W)
    have C7 := Lib.hid (fun W => whole_any s W)
    have C8 := Lib.hid (fun W => rwhole_any s W (by omega))
    have CS := Lib.hid (fun (W : World) (hW : Tab W) => scanned_any W hW)
    unfold retP at C1 C2
    unfold retT at C5 C6
    unfold retW at C7 C8
    generalize parseS s.data.toList = p at C1 C2
    generalize printA m = t at C5 C6
    generalize wholeS s.data.toList = q at C7 C8
    obtain ⟨p1, p2⟩ := p
    obtain ⟨t1, t2⟩ := t
    obtain ⟨q1, q2⟩ := q
    dsimp only at C1 C2 C5 C6 C7 C8
    obtain ⟨T, hT⟩ : ∃ T, (⟨t1.toArray⟩ : ByteArray) = T := ⟨_, rfl⟩
    rw [hT] at C5 C6
    clear hT b2 h
    go_enter Tryd.func3, Tryd.ntmps3
    go_wp2_with fail
    (with_reducible refine (far_any a n c F _ R.out hc).mono ?_)
    rintro e w1 ⟨b, rfl, h30, hb1⟩
    replace HB := Lib.hid (HB.out.trans (hb1.mono HB.out.size))
    replace HT := Lib.hid (HT.out.keep hb1)
    replace R := Lib.hid (R.out.keep hb1)
    clear hb1
    cases b with
    | true =>
      clear h30
      go_wp2_with fail
      go_ret
      exact ⟨rfl, HB.out⟩
    | false =>
      have hn := h30 rfl
      clear h30
      go_wp2_with fail
      (((with_reducible refine (C1.out _).mono ?_); rintro e w2 ⟨rfl, hb2⟩); replace HB := Lib.hid (HB.out.trans (hb2.mono HB.out.size)); replace HT := Lib.hid (HT.out.keep hb2); replace R := Lib.hid (R.out.keep hb2); clear hb2)
      go_wp2_with fail
      (((with_reducible refine (C2.out _).mono ?_); rintro e w3 ⟨rfl, hb3⟩); replace HB := Lib.hid (HB.out.trans (hb3.mono HB.out.size)); replace HT := Lib.hid (HT.out.keep hb3); replace R := Lib.hid (R.out.keep hb3); clear hb3)
      go_wp2_with fail
      by_cases h0 : erS F n = 0
      · (with_reducible refine (row_any a n c F _ R.out (by omega)).mono ?_)
        rintro e w4 ⟨hb4, hq | ⟨-, a4, c4, rfl, hr4, hc4⟩⟩
        · exact absurd h0 hq.1
        replace HB := Lib.hid (HB.out.trans (hb4.mono HB.out.size))
        replace HT := Lib.hid (HT.out.keep hb4)
        replace R := Lib.hid (R.out.keep hb4)
        have X4 := Lib.hid hr4
        clear hb4 hr4
        go_wp2_with fail
        (with_reducible refine (rrow_any a n c F _ R.out (by omega)).mono ?_)
        rintro e w5 ⟨hb5, hq | ⟨-, a5, c5, rfl, hr5, hc5⟩⟩
        · exact absurd h0 hq.1
        replace HB := Lib.hid (HB.out.trans (hb5.mono HB.out.size))
        replace HT := Lib.hid (HT.out.keep hb5)
        replace X4 := Lib.hid (X4.out.keep hb5)
        have X5 := Lib.hid hr5
        clear hb5 hr5 h0
        go_wp2_with fail
        (((with_reducible refine (C5.out _ HT.out).mono ?_); rintro e w6 ⟨rfl, hb6⟩); replace HB := Lib.hid (HB.out.trans (hb6.mono HB.out.size)); replace HT := Lib.hid (HT.out.keep hb6); replace X4 := Lib.hid (X4.out.keep hb6); replace X5 := Lib.hid (X5.out.keep hb6); clear hb6)
        go_wp2_with fail
        (((with_reducible refine (C6.out _).mono ?_); rintro e w7 ⟨rfl, hb7⟩); replace HB := Lib.hid (HB.out.trans (hb7.mono HB.out.size)); replace HT := Lib.hid (HT.out.keep hb7); replace X4 := Lib.hid (X4.out.keep hb7); replace X5 := Lib.hid (X5.out.keep hb7); clear hb7)
        go_wp2_with fail
        (((with_reducible refine (C7.out _).mono ?_); rintro e w8 ⟨rfl, hb8⟩); replace HB := Lib.hid (HB.out.trans (hb8.mono HB.out.size)); replace HT := Lib.hid (HT.out.keep hb8); replace X4 := Lib.hid (X4.out.keep hb8); replace X5 := Lib.hid (X5.out.keep hb8); clear hb8)
        go_wp2_with fail
        (((with_reducible refine (C8.out _).mono ?_); rintro e w9 ⟨rfl, hb9⟩); replace HB := Lib.hid (HB.out.trans (hb9.mono HB.out.size)); replace HT := Lib.hid (HT.out.keep hb9); replace X4 := Lib.hid (X4.out.keep hb9); replace X5 := Lib.hid (X5.out.keep hb9); clear hb9)
        go_wp2_with fail
        (((with_reducible refine (CS.out _ HT.out).mono ?_); rintro e w10 ⟨rfl, hb10⟩); replace HB := Lib.hid (HB.out.trans (hb10.mono HB.out.size)); replace X4 := Lib.hid (X4.out.keep hb10); replace X5 := Lib.hid (X5.out.keep hb10); clear hb10)
        go_wp2_with fail
        (((with_reducible refine (same_yes a4 a5 n c4 c5 _ _ _ X4.out X5.out (fun _ _ => rfl) (by omega)).mono ?_); rintro e w11 ⟨rfl, hb11⟩); replace HB := Lib.hid (HB.out.trans (hb11.mono HB.out.size)); clear hb11)
        go_wp2_with fail
        go_ret
        exact ⟨rfl, HB.out⟩
      · have X4 := Lib.hid h0
        obtain ⟨E, hE⟩ : ∃ E, erS F n = E := ⟨_, rfl⟩
        have C3 := Lib.hid (fun (W : World) (hW : RowS W a n c F) => row_any a n c F W hW (by omega))
        have C4 := Lib.hid (fun (W : World) (hW : RowS W a n c F) => rrow_any a n c F W hW (by omega))
        unfold RetRowE at C3 C4
        rw [hE] at C3 C4 h0
        clear hE X4
        (with_reducible refine (C3.out _ R.out).mono ?_)
        rintro e w4 ⟨hb4, ⟨-, rfl⟩ | hq⟩
        · replace HB := Lib.hid (HB.out.trans (hb4.mono HB.out.size))
          replace HT := Lib.hid (HT.out.keep hb4)
          replace R := Lib.hid (R.out.keep hb4)
          clear hb4 C3
          go_wp2_with fail
          (with_reducible refine (C4.out _ R.out).mono ?_)
          rintro e w5 ⟨hb5, ⟨-, rfl⟩ | hq⟩
          · replace HB := Lib.hid (HB.out.trans (hb5.mono HB.out.size))
            replace HT := Lib.hid (HT.out.keep hb5)
            clear hb5 C4 h0
            go_wp2_with fail
            (((with_reducible refine (C5.out _ HT.out).mono ?_); rintro e w6 ⟨rfl, hb6⟩); replace HB := Lib.hid (HB.out.trans (hb6.mono HB.out.size)); replace HT := Lib.hid (HT.out.keep hb6); clear hb6)
            go_wp2_with fail
            (((with_reducible refine (C6.out _).mono ?_); rintro e w7 ⟨rfl, hb7⟩); replace HB := Lib.hid (HB.out.trans (hb7.mono HB.out.size)); replace HT := Lib.hid (HT.out.keep hb7); clear hb7)
            go_wp2_with fail
            (((with_reducible refine (C7.out _).mono ?_); rintro e w8 ⟨rfl, hb8⟩); replace HB := Lib.hid (HB.out.trans (hb8.mono HB.out.size)); replace HT := Lib.hid (HT.out.keep hb8); clear hb8)
            go_wp2_with fail
            (((with_reducible refine (C8.out _).mono ?_); rintro e w9 ⟨rfl, hb9⟩); replace HB := Lib.hid (HB.out.trans (hb9.mono HB.out.size)); replace HT := Lib.hid (HT.out.keep hb9); clear hb9)
            go_wp2_with fail
            (((with_reducible refine (CS.out _ HT.out).mono ?_); rintro e w10 ⟨rfl, hb10⟩); replace HB := Lib.hid (HB.out.trans (hb10.mono HB.out.size)); clear hb10)
            go_wp2_with fail
            (((with_reducible refine (same_yes none none 0 0 0 (fun _ => 0) (fun _ => 0) _ (rowF_nil _) (rowF_nil _) (fun _ _ => rfl) (by omega)).mono ?_); rintro e w11 ⟨rfl, hb11⟩); replace HB := Lib.hid (HB.out.trans (hb11.mono HB.out.size)); clear hb11)
            go_wp2_with fail
            go_ret
            exact ⟨rfl, HB.out⟩
          · exact absurd hq.1 h0
        · exact absurd hq.1 h0
end Go.Proofs.YtehfmapbodjppaaDoor
