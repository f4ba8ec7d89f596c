/-
  The laws ScanBack, ScanSides, ScanWhole.
-/
import Derived.Test.YtehfmapbodjppaaDoorScH
import Derived.Test.YtehfmapbodjppaaDoorScPureC
namespace Go.Proofs.YtehfmapbodjppaaDoor
open Go.RowKit

theorem mk_list (l : List UInt8) : (⟨l.toArray⟩ : ByteArray).data.toList = l := rfl
theorem str_ne {a b : List UInt8} (h : a ≠ b) : ¬ (⟨a.toArray⟩ : ByteArray) = ⟨b.toArray⟩ := fun e => h (by have := congrArg (fun s : ByteArray => s.data.toList) e; exact this)

set_option maxRecDepth 100000 in
set_option maxHeartbeats 4000000 in
theorem law_back (n m : Int) (w : World) (ht : Tab w) (b0 : -9223372036854775808 ≤ n ∧ n ≤ 9223372036854775807) (b1 : -9223372036854775808 ≤ m ∧ m ≤ 9223372036854775807) :
    Calls Tryd.prog 4 #[.int .i64 n, .int .i64 m] w fun e w' => e = .returned (.bool true) ∧ Below w.heap.size w w' := by
  have HB := Lib.hid (Below.refl w.heap.size w)
  have HT := Lib.hid ht
  clear ht
  have C1 := Lib.hid (fun (W : World) (hW : Tab W) => print_any n W hW b0.1 b0.2)
  have C2 := Lib.hid (fun (W : World) (hW : Tab W) => print_any m W hW b1.1 b1.2)
  have CS := Lib.hid (fun (W : World) (hW : Tab W) => scanned_any W hW)
  unfold retT at C1 C2
  by_cases hn : -1048576 ≤ n ∧ n ≤ 1048576
  · have e1 : printA n = (printS n, 0) := by unfold printA; rw [if_pos hn]
    rw [e1] at C1
    have C3 := Lib.hid (fun W => parse_any ⟨(printS n).toArray⟩ W)
    rw [mk_list, parse_print n hn.1 hn.2] at C3
    unfold retP at C3
    clear e1
    by_cases hm : -1048576 ≤ m ∧ m ≤ 1048576
    · have e1 : printA m = (printS m, 0) := by unfold printA; rw [if_pos hm]
      rw [e1] at C2
      by_cases hnm : n = m
      · subst hnm
        generalize printS n = S at *
        clear e1 hn hm b0 b1
        go_enter Tryd.func4, Tryd.ntmps4
        go_wp2_with fail
        (((with_reducible refine (C1.out _ HT.out).mono ?_); rintro e w1 ⟨rfl, hb1⟩); replace HB := Lib.hid (HB.out.trans (hb1.mono HB.out.size)); replace HT := Lib.hid (HT.out.keep hb1); clear hb1)
        go_wp2_with fail
        (((with_reducible refine (C2.out _ HT.out).mono ?_); rintro e w2 ⟨rfl, hb2⟩); replace HB := Lib.hid (HB.out.trans (hb2.mono HB.out.size)); replace HT := Lib.hid (HT.out.keep hb2); clear hb2)
        go_wp2_with fail
        (((with_reducible refine (C3.out _).mono ?_); rintro e w3 ⟨rfl, hb3⟩); replace HB := Lib.hid (HB.out.trans (hb3.mono HB.out.size)); replace HT := Lib.hid (HT.out.keep hb3); clear hb3)
        go_wp2_with fail
        (((with_reducible refine (CS.out _ HT.out).mono ?_); rintro e w4 ⟨rfl, hb4⟩); replace HB := Lib.hid (HB.out.trans (hb4.mono HB.out.size)); replace HT := Lib.hid (HT.out.keep hb4); clear hb4)
        go_wp2_with fail
        go_ret
        exact ⟨rfl, HB.out⟩
      · have hs2 : (printS n == printS m) = false := by rw [beq_eq_false_iff_ne]; exact fun q => hnm (print_inj n m hn.1 hn.2 hm.1 hm.2 q)
        have hq : (n == m) = false := by rw [beq_eq_false_iff_ne]; exact hnm
        generalize printS n = S at *
        generalize printS m = S2 at *
        clear e1 hn hm b0 b1
        go_enter Tryd.func4, Tryd.ntmps4
        go_wp2_with fail
        (((with_reducible refine (C1.out _ HT.out).mono ?_); rintro e w1 ⟨rfl, hb1⟩); replace HB := Lib.hid (HB.out.trans (hb1.mono HB.out.size)); replace HT := Lib.hid (HT.out.keep hb1); clear hb1)
        go_wp2_with fail
        (((with_reducible refine (C2.out _ HT.out).mono ?_); rintro e w2 ⟨rfl, hb2⟩); replace HB := Lib.hid (HB.out.trans (hb2.mono HB.out.size)); replace HT := Lib.hid (HT.out.keep hb2); clear hb2)
        go_wp2_with fail
        (((with_reducible refine (C3.out _).mono ?_); rintro e w3 ⟨rfl, hb3⟩); replace HB := Lib.hid (HB.out.trans (hb3.mono HB.out.size)); replace HT := Lib.hid (HT.out.keep hb3); clear hb3)
        go_wp2_with fail
        (((with_reducible refine (CS.out _ HT.out).mono ?_); rintro e w4 ⟨rfl, hb4⟩); replace HB := Lib.hid (HB.out.trans (hb4.mono HB.out.size)); replace HT := Lib.hid (HT.out.keep hb4); clear hb4)
        go_wp2_with fail
        go_ret
        exact ⟨rfl, HB.out⟩
    · have e1 : printA m = ([], 5) := by unfold printA; rw [if_neg hm]
      rw [e1] at C2
      generalize printS n = S at *
      clear e1 hn hm b0 b1
      go_enter Tryd.func4, Tryd.ntmps4
      go_wp2_with fail
      (((with_reducible refine (C1.out _ HT.out).mono ?_); rintro e w1 ⟨rfl, hb1⟩); replace HB := Lib.hid (HB.out.trans (hb1.mono HB.out.size)); replace HT := Lib.hid (HT.out.keep hb1); clear hb1)
      go_wp2_with fail
      (((with_reducible refine (C2.out _ HT.out).mono ?_); rintro e w2 ⟨rfl, hb2⟩); replace HB := Lib.hid (HB.out.trans (hb2.mono HB.out.size)); replace HT := Lib.hid (HT.out.keep hb2); clear hb2)
      go_wp2_with fail
      (((with_reducible refine (C3.out _).mono ?_); rintro e w3 ⟨rfl, hb3⟩); replace HB := Lib.hid (HB.out.trans (hb3.mono HB.out.size)); replace HT := Lib.hid (HT.out.keep hb3); clear hb3)
      go_wp2_with fail
      (((with_reducible refine (CS.out _ HT.out).mono ?_); rintro e w4 ⟨rfl, hb4⟩); replace HB := Lib.hid (HB.out.trans (hb4.mono HB.out.size)); replace HT := Lib.hid (HT.out.keep hb4); clear hb4)
      go_wp2_with fail
      go_ret
      exact ⟨rfl, HB.out⟩
  · have e1 : printA n = ([], 5) := by unfold printA; rw [if_neg hn]
    rw [e1] at C1
    obtain ⟨S, f⟩ := printA m
    clear e1 b0 b1
    by_cases h0 : n < -1048576
    · clear hn
      go_enter Tryd.func4, Tryd.ntmps4
      go_wp2_with fail
      (((with_reducible refine (C1.out _ HT.out).mono ?_); rintro e w1 ⟨rfl, hb1⟩); replace HB := Lib.hid (HB.out.trans (hb1.mono HB.out.size)); replace HT := Lib.hid (HT.out.keep hb1); clear hb1)
      go_wp2_with fail
      (((with_reducible refine (C2.out _ HT.out).mono ?_); rintro e w2 ⟨rfl, hb2⟩); replace HB := Lib.hid (HB.out.trans (hb2.mono HB.out.size)); replace HT := Lib.hid (HT.out.keep hb2); clear hb2)
      go_wp2_with fail
      (((with_reducible refine (CS.out _ HT.out).mono ?_); rintro e w4 ⟨rfl, hb4⟩); replace HB := Lib.hid (HB.out.trans (hb4.mono HB.out.size)); replace HT := Lib.hid (HT.out.keep hb4); clear hb4)
      go_wp2_with fail
      go_ret
      exact ⟨rfl, HB.out⟩
    · have h1 : 1048576 < n := by omega
      have h2 : decide (n < -1048576) = false := decide_eq_false h0
      clear hn
      go_enter Tryd.func4, Tryd.ntmps4
      go_wp2_with fail
      (((with_reducible refine (C1.out _ HT.out).mono ?_); rintro e w1 ⟨rfl, hb1⟩); replace HB := Lib.hid (HB.out.trans (hb1.mono HB.out.size)); replace HT := Lib.hid (HT.out.keep hb1); clear hb1)
      go_wp2_with fail
      (((with_reducible refine (C2.out _ HT.out).mono ?_); rintro e w2 ⟨rfl, hb2⟩); replace HB := Lib.hid (HB.out.trans (hb2.mono HB.out.size)); replace HT := Lib.hid (HT.out.keep hb2); clear hb2)
      go_wp2_with fail
      (((with_reducible refine (CS.out _ HT.out).mono ?_); rintro e w4 ⟨rfl, hb4⟩); replace HB := Lib.hid (HB.out.trans (hb4.mono HB.out.size)); replace HT := Lib.hid (HT.out.keep hb4); clear hb4)
      go_wp2_with fail
      go_ret
      exact ⟨rfl, HB.out⟩

set_option maxRecDepth 100000 in
set_option maxHeartbeats 4000000 in
theorem law_whole (s : ByteArray) (w : World) (ht : Tab w) :
    Calls Tryd.prog 7 #[.string s] w fun e w' => e = .returned (.bool true) ∧ Below w.heap.size w w' := by
  have HB := Lib.hid (Below.refl w.heap.size w)
  have HT := Lib.hid ht
  clear ht
  by_cases hl : 100 < s.size
  · have h0 : (100 : Int) < s.size := by omega
    go_enter Tryd.func7, Tryd.ntmps7
    go_wp2_with fail
    go_ret
    exact ⟨rfl, HB.out⟩
  · have h0 : ¬ (100 : Int) < s.size := by omega
    clear hl
    have C1 := Lib.hid (fun W => whole_any s W)
    have C2 := Lib.hid (fun W => parse_any s W)
    have CS := Lib.hid (fun (W : World) (hW : Tab W) => scanned_any W hW)
    unfold retW at C1
    unfold retP at C2
    have key := whole_parse s.data.toList
    have bad := whole_bad s.data.toList
    generalize wholeS s.data.toList = p at *
    obtain ⟨n, e⟩ := p
    by_cases he : e = 0
    · subst he
      obtain ⟨k1, k2, k3, k4⟩ := key n rfl
      rw [k3] at C2
      clear key bad k3
      by_cases hr : -1048576 ≤ 256 * n ∧ 256 * n ≤ 1048576
      · have e1 : inR (256 * n) = (256 * n, 0) := by unfold inR; rw [if_pos hr]
        rw [e1] at C2
        have C3 := Lib.hid (fun (W : World) (hW : Tab W) => print_any (256 * n) W hW (by omega) (by omega))
        have e2 : printA (256 * n) = (printS (256 * n), 0) := by unfold printA; rw [if_pos hr]
        have e3 : (⟨s.data.toList.toArray⟩ : ByteArray) = s := Lib.mk_data s
        rw [e2, k4] at C3
        unfold retT at C3
        simp only at C3
        rw [e3] at C3
        have wz : IntKind.i64.wrap (256 * n) = 256 * n := by rw [IntKind.wrap_i64]; omega
        clear e1 e2 e3 k4 hr k1 k2
        go_enter Tryd.func7, Tryd.ntmps7
        go_wp2_with fail
        (((with_reducible refine (C1.out _).mono ?_); rintro e w1 ⟨rfl, hb1⟩); replace HB := Lib.hid (HB.out.trans (hb1.mono HB.out.size)); replace HT := Lib.hid (HT.out.keep hb1); clear hb1)
        go_wp2_with fail
        (((with_reducible refine (C2.out _).mono ?_); rintro e w2 ⟨rfl, hb2⟩); replace HB := Lib.hid (HB.out.trans (hb2.mono HB.out.size)); replace HT := Lib.hid (HT.out.keep hb2); clear hb2)
        go_wp2_with fail
        (((with_reducible refine (C3.out _ HT.out).mono ?_); rintro e w3 ⟨rfl, hb3⟩); replace HB := Lib.hid (HB.out.trans (hb3.mono HB.out.size)); replace HT := Lib.hid (HT.out.keep hb3); clear hb3)
        go_wp2_with fail
        (((with_reducible refine (CS.out _ HT.out).mono ?_); rintro e w4 ⟨rfl, hb4⟩); replace HB := Lib.hid (HB.out.trans (hb4.mono HB.out.size)); replace HT := Lib.hid (HT.out.keep hb4); clear hb4)
        go_wp2_with fail
        go_ret
        exact ⟨rfl, HB.out⟩
      · have e1 : inR (256 * n) = (0, 5) := by unfold inR; rw [if_neg hr]
        rw [e1] at C2
        by_cases hn : n < -4096
        · clear e1 k4 hr k1 k2
          go_enter Tryd.func7, Tryd.ntmps7
          go_wp2_with fail
          (((with_reducible refine (C1.out _).mono ?_); rintro e w1 ⟨rfl, hb1⟩); replace HB := Lib.hid (HB.out.trans (hb1.mono HB.out.size)); replace HT := Lib.hid (HT.out.keep hb1); clear hb1)
          go_wp2_with fail
          (((with_reducible refine (C2.out _).mono ?_); rintro e w2 ⟨rfl, hb2⟩); replace HB := Lib.hid (HB.out.trans (hb2.mono HB.out.size)); replace HT := Lib.hid (HT.out.keep hb2); clear hb2)
          go_wp2_with fail
          (((with_reducible refine (CS.out _ HT.out).mono ?_); rintro e w4 ⟨rfl, hb4⟩); replace HB := Lib.hid (HB.out.trans (hb4.mono HB.out.size)); replace HT := Lib.hid (HT.out.keep hb4); clear hb4)
          go_wp2_with fail
          go_ret
          exact ⟨rfl, HB.out⟩
        · have hn2 : 4096 < n := by omega
          have hn3 : decide (n < -4096) = false := decide_eq_false hn
          clear e1 k4 hr k1 k2
          go_enter Tryd.func7, Tryd.ntmps7
          go_wp2_with fail
          (((with_reducible refine (C1.out _).mono ?_); rintro e w1 ⟨rfl, hb1⟩); replace HB := Lib.hid (HB.out.trans (hb1.mono HB.out.size)); replace HT := Lib.hid (HT.out.keep hb1); clear hb1)
          go_wp2_with fail
          (((with_reducible refine (C2.out _).mono ?_); rintro e w2 ⟨rfl, hb2⟩); replace HB := Lib.hid (HB.out.trans (hb2.mono HB.out.size)); replace HT := Lib.hid (HT.out.keep hb2); clear hb2)
          go_wp2_with fail
          (((with_reducible refine (CS.out _ HT.out).mono ?_); rintro e w4 ⟨rfl, hb4⟩); replace HB := Lib.hid (HB.out.trans (hb4.mono HB.out.size)); replace HT := Lib.hid (HT.out.keep hb4); clear hb4)
          go_wp2_with fail
          go_ret
          exact ⟨rfl, HB.out⟩
    · obtain rfl := bad n e rfl he
      have he2 : (e != 0) = true := by simp [he]
      generalize parseS s.data.toList = p at *
      obtain ⟨a, f⟩ := p
      clear key bad
      go_enter Tryd.func7, Tryd.ntmps7
      go_wp2_with fail
      (((with_reducible refine (C1.out _).mono ?_); rintro e w1 ⟨rfl, hb1⟩); replace HB := Lib.hid (HB.out.trans (hb1.mono HB.out.size)); replace HT := Lib.hid (HT.out.keep hb1); clear hb1)
      go_wp2_with fail
      (((with_reducible refine (C2.out _).mono ?_); rintro e w2 ⟨rfl, hb2⟩); replace HB := Lib.hid (HB.out.trans (hb2.mono HB.out.size)); replace HT := Lib.hid (HT.out.keep hb2); clear hb2)
      go_wp2_with fail
      (((with_reducible refine (CS.out _ HT.out).mono ?_); rintro e w4 ⟨rfl, hb4⟩); replace HB := Lib.hid (HB.out.trans (hb4.mono HB.out.size)); replace HT := Lib.hid (HT.out.keep hb4); clear hb4)
      go_wp2_with fail
      go_ret
      exact ⟨rfl, HB.out⟩

set_option maxRecDepth 100000 in
set_option maxHeartbeats 4000000 in
theorem law_sides (s : ByteArray) (w : World) (ht : Tab w) :
    Calls Tryd.prog 6 #[.string s] w fun e w' => e = .returned (.bool true) ∧ Below w.heap.size w w' := by
  have HB := Lib.hid (Below.refl w.heap.size w)
  have HT := Lib.hid ht
  clear ht
  have CS := Lib.hid (fun (W : World) (hW : Tab W) => scanned_any W hW)
  by_cases hl : 19 < s.size
  · have h0 : (19 : Int) < s.size := by omega
    go_enter Tryd.func6, Tryd.ntmps6
    go_wp2_with fail
    go_ret
    exact ⟨rfl, HB.out⟩
  · have h0 : ¬ (19 : Int) < s.size := by omega
    have h0' : decide ((19 : Int) < s.size) = false := decide_eq_false h0
    by_cases hz : 0 < s.size
    · have hz1 : (0 : Int) < s.size := by omega
      have hz2 : decide ((0 : Int) < s.size) = true := decide_eq_true hz1
      by_cases h45 : (s[0]'hz).toNat = 45
      · have q1 : (((s[0]'hz).toNat : Int) == 45) = true := by rw [beq_iff_eq]; omega
        clear hl
        go_enter Tryd.func6, Tryd.ntmps6
        go_wp2_with fail
        go_ret
        exact ⟨rfl, HB.out⟩
      · have q1 : (((s[0]'hz).toNat : Int) == 45) = false := by rw [beq_eq_false_iff_ne]; omega
        by_cases h43 : (s[0]'hz).toNat = 43
        · have q2 : (((s[0]'hz).toNat : Int) == 43) = true := by rw [beq_iff_eq]; omega
          clear hl
          go_enter Tryd.func6, Tryd.ntmps6
          go_wp2_with fail
          go_ret
          exact ⟨rfl, HB.out⟩
        · have q2 : (((s[0]'hz).toNat : Int) == 43) = false := by rw [beq_eq_false_iff_ne]; omega
          have hp : ∀ b t, s.data.toList = b :: t → ¬ b.toNat = 45 ∧ ¬ b.toNat = 43 := fun b t h => by
            have r := rest_at s 0 hz
            rw [List.drop_zero, h] at r
            injection r with r1 _
            rw [r1]; exact ⟨h45, h43⟩
          clear h45 h43
          have C1 := Lib.hid (fun W => parse_any s W)
          have C2 := Lib.hid (fun W => parse_any (⟨#[45]⟩ ++ s) W)
          have C3 := Lib.hid (fun W => parse_any (⟨#[43]⟩ ++ s) W)
          have l1 : (⟨#[45]⟩ ++ s : ByteArray).data.toList = 45 :: s.data.toList := by rw [ByteArray.data_append]; simp
          have l2 : (⟨#[43]⟩ ++ s : ByteArray).data.toList = 43 :: s.data.toList := by rw [ByteArray.data_append]; simp
          have hlen : s.data.toList.length ≤ 19 := by simp; omega
          rw [parse_plain s.data.toList (by omega) hp] at C1
          rw [l1, parse_minus _ hlen] at C2
          rw [l2, parse_plus _ hlen] at C3
          have sd := sides s.data.toList
          have a1 := parseB_in false s.data.toList
          have a2 := parseB_in true s.data.toList
          unfold retP at C1 C2 C3
          clear l1 l2 hlen hp
          generalize parseB false s.data.toList = x at *
          generalize parseB true s.data.toList = y at *
          obtain ⟨a, e⟩ := x
          obtain ⟨b, f⟩ := y
          simp only at sd a1 a2
          rcases sd with ⟨he, rfl⟩ | ⟨rfl, ha, ⟨rfl, hs | hs⟩ | ⟨rfl, rfl⟩⟩
          · have e1 : (f != 0) = true := by simp [he]
            clear a1 a2
            go_enter Tryd.func6, Tryd.ntmps6
            go_wp2_with fail
            (((with_reducible refine (C1.out _).mono ?_); rintro e w1 ⟨rfl, hb1⟩); replace HB := Lib.hid (HB.out.trans (hb1.mono HB.out.size)); replace HT := Lib.hid (HT.out.keep hb1); clear hb1)
            go_wp2_with fail
            (((with_reducible refine (C2.out _).mono ?_); rintro e w2 ⟨rfl, hb2⟩); replace HB := Lib.hid (HB.out.trans (hb2.mono HB.out.size)); replace HT := Lib.hid (HT.out.keep hb2); clear hb2)
            go_wp2_with fail
            (((with_reducible refine (C3.out _).mono ?_); rintro e w3 ⟨rfl, hb3⟩); replace HB := Lib.hid (HB.out.trans (hb3.mono HB.out.size)); replace HT := Lib.hid (HT.out.keep hb3); clear hb3)
            go_wp2_with fail
            (((with_reducible refine (CS.out _ HT.out).mono ?_); rintro e w4 ⟨rfl, hb4⟩); replace HB := Lib.hid (HB.out.trans (hb4.mono HB.out.size)); replace HT := Lib.hid (HT.out.keep hb4); clear hb4)
            go_wp2_with fail
            go_ret
            exact ⟨rfl, HB.out⟩
          · have w1 : IntKind.i64.wrap (a + b) = a + b := by rw [IntKind.wrap_i64]; omega
            have w2 : a + b = 0 := hs
            have w3 : IntKind.i64.wrap (0 : Int) = 0 := by decide
            clear hs a1 a2
            go_enter Tryd.func6, Tryd.ntmps6
            go_wp2_with fail
            (((with_reducible refine (C1.out _).mono ?_); rintro e w1 ⟨rfl, hb1⟩); replace HB := Lib.hid (HB.out.trans (hb1.mono HB.out.size)); replace HT := Lib.hid (HT.out.keep hb1); clear hb1)
            go_wp2_with fail
            (((with_reducible refine (C2.out _).mono ?_); rintro e w2 ⟨rfl, hb2⟩); replace HB := Lib.hid (HB.out.trans (hb2.mono HB.out.size)); replace HT := Lib.hid (HT.out.keep hb2); clear hb2)
            go_wp2_with fail
            (((with_reducible refine (C3.out _).mono ?_); rintro e w3 ⟨rfl, hb3⟩); replace HB := Lib.hid (HB.out.trans (hb3.mono HB.out.size)); replace HT := Lib.hid (HT.out.keep hb3); clear hb3)
            go_wp2_with fail
            (((with_reducible refine (CS.out _ HT.out).mono ?_); rintro e w4 ⟨rfl, hb4⟩); replace HB := Lib.hid (HB.out.trans (hb4.mono HB.out.size)); replace HT := Lib.hid (HT.out.keep hb4); clear hb4)
            go_wp2_with fail
            go_ret
            exact ⟨rfl, HB.out⟩
          · have w1 : IntKind.i64.wrap (a + b) = a + b := by rw [IntKind.wrap_i64]; omega
            have w2 : a + b = -1 := hs
            have w3 : IntKind.i64.wrap (-1 : Int) = -1 := by decide
            clear hs a1 a2
            go_enter Tryd.func6, Tryd.ntmps6
            go_wp2_with fail
            (((with_reducible refine (C1.out _).mono ?_); rintro e w1 ⟨rfl, hb1⟩); replace HB := Lib.hid (HB.out.trans (hb1.mono HB.out.size)); replace HT := Lib.hid (HT.out.keep hb1); clear hb1)
            go_wp2_with fail
            (((with_reducible refine (C2.out _).mono ?_); rintro e w2 ⟨rfl, hb2⟩); replace HB := Lib.hid (HB.out.trans (hb2.mono HB.out.size)); replace HT := Lib.hid (HT.out.keep hb2); clear hb2)
            go_wp2_with fail
            (((with_reducible refine (C3.out _).mono ?_); rintro e w3 ⟨rfl, hb3⟩); replace HB := Lib.hid (HB.out.trans (hb3.mono HB.out.size)); replace HT := Lib.hid (HT.out.keep hb3); clear hb3)
            go_wp2_with fail
            (((with_reducible refine (CS.out _ HT.out).mono ?_); rintro e w4 ⟨rfl, hb4⟩); replace HB := Lib.hid (HB.out.trans (hb4.mono HB.out.size)); replace HT := Lib.hid (HT.out.keep hb4); clear hb4)
            go_wp2_with fail
            go_ret
            exact ⟨rfl, HB.out⟩
          · clear a1 a2 ha
            go_enter Tryd.func6, Tryd.ntmps6
            go_wp2_with fail
            (((with_reducible refine (C1.out _).mono ?_); rintro e w1 ⟨rfl, hb1⟩); replace HB := Lib.hid (HB.out.trans (hb1.mono HB.out.size)); replace HT := Lib.hid (HT.out.keep hb1); clear hb1)
            go_wp2_with fail
            (((with_reducible refine (C2.out _).mono ?_); rintro e w2 ⟨rfl, hb2⟩); replace HB := Lib.hid (HB.out.trans (hb2.mono HB.out.size)); replace HT := Lib.hid (HT.out.keep hb2); clear hb2)
            go_wp2_with fail
            (((with_reducible refine (C3.out _).mono ?_); rintro e w3 ⟨rfl, hb3⟩); replace HB := Lib.hid (HB.out.trans (hb3.mono HB.out.size)); replace HT := Lib.hid (HT.out.keep hb3); clear hb3)
            go_wp2_with fail
            (((with_reducible refine (CS.out _ HT.out).mono ?_); rintro e w4 ⟨rfl, hb4⟩); replace HB := Lib.hid (HB.out.trans (hb4.mono HB.out.size)); replace HT := Lib.hid (HT.out.keep hb4); clear hb4)
            go_wp2_with fail
            go_ret
            exact ⟨rfl, HB.out⟩
    · have hz1 : ¬ (0 : Int) < s.size := by omega
      have hz2 : decide ((0 : Int) < s.size) = false := decide_eq_false hz1
      have hp : ∀ b t, s.data.toList = b :: t → ¬ b.toNat = 45 ∧ ¬ b.toNat = 43 := fun b t h => by
        have : s.data.toList.length = s.size := by simp
        rw [h] at this
        simp at this; omega
      have C1 := Lib.hid (fun W => parse_any s W)
      have C2 := Lib.hid (fun W => parse_any (⟨#[45]⟩ ++ s) W)
      have C3 := Lib.hid (fun W => parse_any (⟨#[43]⟩ ++ s) W)
      have l1 : (⟨#[45]⟩ ++ s : ByteArray).data.toList = 45 :: s.data.toList := by rw [ByteArray.data_append]; simp
      have l2 : (⟨#[43]⟩ ++ s : ByteArray).data.toList = 43 :: s.data.toList := by rw [ByteArray.data_append]; simp
      have hlen : s.data.toList.length ≤ 19 := by simp; omega
      rw [parse_plain s.data.toList (by omega) hp] at C1
      rw [l1, parse_minus _ hlen] at C2
      rw [l2, parse_plus _ hlen] at C3
      have sd := sides s.data.toList
      have a1 := parseB_in false s.data.toList
      have a2 := parseB_in true s.data.toList
      unfold retP at C1 C2 C3
      clear l1 l2 hlen hp
      generalize parseB false s.data.toList = x at *
      generalize parseB true s.data.toList = y at *
      obtain ⟨a, e⟩ := x
      obtain ⟨b, f⟩ := y
      simp only at sd a1 a2
      rcases sd with ⟨he, rfl⟩ | ⟨rfl, ha, ⟨rfl, hs | hs⟩ | ⟨rfl, rfl⟩⟩
      · have e1 : (f != 0) = true := by simp [he]
        clear a1 a2
        go_enter Tryd.func6, Tryd.ntmps6
        go_wp2_with fail
        (((with_reducible refine (C1.out _).mono ?_); rintro e w1 ⟨rfl, hb1⟩); replace HB := Lib.hid (HB.out.trans (hb1.mono HB.out.size)); replace HT := Lib.hid (HT.out.keep hb1); clear hb1)
        go_wp2_with fail
        (((with_reducible refine (C2.out _).mono ?_); rintro e w2 ⟨rfl, hb2⟩); replace HB := Lib.hid (HB.out.trans (hb2.mono HB.out.size)); replace HT := Lib.hid (HT.out.keep hb2); clear hb2)
        go_wp2_with fail
        (((with_reducible refine (C3.out _).mono ?_); rintro e w3 ⟨rfl, hb3⟩); replace HB := Lib.hid (HB.out.trans (hb3.mono HB.out.size)); replace HT := Lib.hid (HT.out.keep hb3); clear hb3)
        go_wp2_with fail
        (((with_reducible refine (CS.out _ HT.out).mono ?_); rintro e w4 ⟨rfl, hb4⟩); replace HB := Lib.hid (HB.out.trans (hb4.mono HB.out.size)); replace HT := Lib.hid (HT.out.keep hb4); clear hb4)
        go_wp2_with fail
        go_ret
        exact ⟨rfl, HB.out⟩
      · have w1 : IntKind.i64.wrap (a + b) = a + b := by rw [IntKind.wrap_i64]; omega
        have w2 : a + b = 0 := hs
        have w3 : IntKind.i64.wrap (0 : Int) = 0 := by decide
        clear hs a1 a2
        go_enter Tryd.func6, Tryd.ntmps6
        go_wp2_with fail
        (((with_reducible refine (C1.out _).mono ?_); rintro e w1 ⟨rfl, hb1⟩); replace HB := Lib.hid (HB.out.trans (hb1.mono HB.out.size)); replace HT := Lib.hid (HT.out.keep hb1); clear hb1)
        go_wp2_with fail
        (((with_reducible refine (C2.out _).mono ?_); rintro e w2 ⟨rfl, hb2⟩); replace HB := Lib.hid (HB.out.trans (hb2.mono HB.out.size)); replace HT := Lib.hid (HT.out.keep hb2); clear hb2)
        go_wp2_with fail
        (((with_reducible refine (C3.out _).mono ?_); rintro e w3 ⟨rfl, hb3⟩); replace HB := Lib.hid (HB.out.trans (hb3.mono HB.out.size)); replace HT := Lib.hid (HT.out.keep hb3); clear hb3)
        go_wp2_with fail
        (((with_reducible refine (CS.out _ HT.out).mono ?_); rintro e w4 ⟨rfl, hb4⟩); replace HB := Lib.hid (HB.out.trans (hb4.mono HB.out.size)); replace HT := Lib.hid (HT.out.keep hb4); clear hb4)
        go_wp2_with fail
        go_ret
        exact ⟨rfl, HB.out⟩
      · have w1 : IntKind.i64.wrap (a + b) = a + b := by rw [IntKind.wrap_i64]; omega
        have w2 : a + b = -1 := hs
        have w3 : IntKind.i64.wrap (-1 : Int) = -1 := by decide
        clear hs a1 a2
        go_enter Tryd.func6, Tryd.ntmps6
        go_wp2_with fail
        (((with_reducible refine (C1.out _).mono ?_); rintro e w1 ⟨rfl, hb1⟩); replace HB := Lib.hid (HB.out.trans (hb1.mono HB.out.size)); replace HT := Lib.hid (HT.out.keep hb1); clear hb1)
        go_wp2_with fail
        (((with_reducible refine (C2.out _).mono ?_); rintro e w2 ⟨rfl, hb2⟩); replace HB := Lib.hid (HB.out.trans (hb2.mono HB.out.size)); replace HT := Lib.hid (HT.out.keep hb2); clear hb2)
        go_wp2_with fail
        (((with_reducible refine (C3.out _).mono ?_); rintro e w3 ⟨rfl, hb3⟩); replace HB := Lib.hid (HB.out.trans (hb3.mono HB.out.size)); replace HT := Lib.hid (HT.out.keep hb3); clear hb3)
        go_wp2_with fail
        (((with_reducible refine (CS.out _ HT.out).mono ?_); rintro e w4 ⟨rfl, hb4⟩); replace HB := Lib.hid (HB.out.trans (hb4.mono HB.out.size)); replace HT := Lib.hid (HT.out.keep hb4); clear hb4)
        go_wp2_with fail
        go_ret
        exact ⟨rfl, HB.out⟩
      · clear a1 a2 ha
        go_enter Tryd.func6, Tryd.ntmps6
        go_wp2_with fail
        (((with_reducible refine (C1.out _).mono ?_); rintro e w1 ⟨rfl, hb1⟩); replace HB := Lib.hid (HB.out.trans (hb1.mono HB.out.size)); replace HT := Lib.hid (HT.out.keep hb1); clear hb1)
        go_wp2_with fail
        (((with_reducible refine (C2.out _).mono ?_); rintro e w2 ⟨rfl, hb2⟩); replace HB := Lib.hid (HB.out.trans (hb2.mono HB.out.size)); replace HT := Lib.hid (HT.out.keep hb2); clear hb2)
        go_wp2_with fail
        (((with_reducible refine (C3.out _).mono ?_); rintro e w3 ⟨rfl, hb3⟩); replace HB := Lib.hid (HB.out.trans (hb3.mono HB.out.size)); replace HT := Lib.hid (HT.out.keep hb3); clear hb3)
        go_wp2_with fail
        (((with_reducible refine (CS.out _ HT.out).mono ?_); rintro e w4 ⟨rfl, hb4⟩); replace HB := Lib.hid (HB.out.trans (hb4.mono HB.out.size)); replace HT := Lib.hid (HT.out.keep hb4); clear hb4)
        go_wp2_with fail
        go_ret
        exact ⟨rfl, HB.out⟩
end Go.Proofs.YtehfmapbodjppaaDoor
