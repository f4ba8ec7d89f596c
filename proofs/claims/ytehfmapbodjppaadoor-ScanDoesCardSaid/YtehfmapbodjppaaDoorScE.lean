/-
  Package scan: printed, Print.
-/
import Derived.Test.YtehfmapbodjppaaDoorScA
import Derived.Lib.ItoaMem
import Derived.Lib.LaidTab
namespace Go.Proofs.YtehfmapbodjppaaDoor
open Go.RowKit

/-- The library's table of powers of ten holds what its initialiser lays. -/
def Tab (w : World) : Prop := 2 < w.heap.size ∧ Lib.TabIs Tryd.prog w "internal/strconv.uint64pow10" .u64 Lib.pow10Tab
theorem gTab : Tryd.prog.globalNamed "internal/strconv.uint64pow10" = some 2 := by kernel_rfl
theorem Tab.below {w w' : World} (h : Tab w) (hb : Below w.heap.size w w') : Tab w' :=
  ⟨Nat.lt_of_lt_of_le h.1 hb.size, var?_below hb gTab h.1 h.2⟩
theorem Tab.keep {w w' : World} (h : Tab w) (hb : Below w.heap.size w w') : Tab w' := h.below hb
theorem below_grow (w : World) (k : Nat) (os : Array Obj) : Below w.heap.size w (Sort.grow (w.drewN k) os) :=
  ⟨rfl, rfl, rfl, by simp [Sort.grow], fun i hi => by simp [Sort.grow]; rw [Array.getElem?_append_left (by simpa using hi)]⟩
theorem itoaN_any (n : Nat) (w : World) (h1 : n ≤ 1000000000) (ht : Tab w) :
    Calls Tryd.prog 38 #[.int .i64 n] w fun e w' => e = .returned (.string ⟨(Lib.decDigits n).toArray⟩) ∧ Below w.heap.size w w' :=
  (Tryd.strconv_Itoa n (by omega) (by omega) w ht.2).mono fun e w' ⟨he, k, os, hw⟩ => ⟨by rw [he, Lib.itoa_nonneg], hw ▸ below_grow w k os⟩
theorem trimR_any (s : ByteArray) (l : List UInt8) (w : World) (hs : s.size ≤ 9223372036854775807) (hl : Lib.trimRightB s.data.toList 48 = l) :
    Calls Tryd.prog 40 #[.string s, .string ⟨#[48]⟩] w fun e w' => e = .returned (.string ⟨l.toArray⟩) ∧ Below w.heap.size w w' :=
  (Tryd.strings_TrimRight_one s 48 (by decide) w hs).mono fun e w' h => ⟨hl ▸ h.1, h.2 ▸ Below.refl _ _⟩
theorem str_add (a b : List UInt8) : (⟨a.toArray⟩ : ByteArray) ++ ⟨b.toArray⟩ = ⟨(a ++ b).toArray⟩ := by
  apply ByteArray.ext; simp

/-! the digits behind the point, by the program's way -/
def padD : Nat → Nat → List UInt8
  | 0, _ => []
  | k + 1, L => padD k (L / 10) ++ [UInt8.ofNat (48 + L % 10)]
theorem pad_zero (k : Nat) : padD k 0 = Lib.repeatL [48] k := by
  induction k with
  | zero => rfl
  | succ k ih =>
    show padD k 0 ++ [48] = Lib.repeatL [48] (k + 1)
    rw [ih, Lib.repeatL_add]; rfl
theorem pad_dec (k : Nat) : ∀ L : Nat, L < 10 ^ (k + 1) → padD (k + 1) L = Lib.repeatL [48] (k + 1 - (Lib.decDigits L).length) ++ Lib.decDigits L := by
  induction k with
  | zero =>
    intro L h
    rw [Lib.decDigits_one (by simpa using h)]
    show [] ++ [UInt8.ofNat (48 + L % 10)] = _
    rw [show L % 10 = L from Nat.mod_eq_of_lt (by simpa using h)]; rfl
  | succ k ih =>
    intro L h
    show padD (k + 1) (L / 10) ++ [UInt8.ofNat (48 + L % 10)] = _
    by_cases h10 : L < 10
    · rw [Lib.decDigits_one h10, show L / 10 = 0 from by omega, pad_zero, show L % 10 = L from Nat.mod_eq_of_lt h10]; rfl
    · rw [decD_big h10, ih (L / 10) (by rw [Nat.pow_succ] at h; omega), List.length_append, List.append_assoc]
      congr 2
      simp
theorem frac_trim : ∀ r : Fin 256, r.val ≠ 0 → Lib.trimRightB (padD 8 (r.val * 390625)) 48 = fracF 8 r.val := by decide +kernel
theorem frac_pad (r : Nat) (h : r < 256) (h0 : r ≠ 0) : Lib.trimRightB (Lib.repeatL [48] (8 - (Lib.decDigits (r * 390625)).length) ++ Lib.decDigits (r * 390625)) 48 = fracF 8 r := by
  rw [← frac_trim ⟨r, h⟩ h0, pad_dec 7 (r * 390625) (by simp only [show (10 : Nat) ^ (7 + 1) = 100000000 from rfl]; omega)]

set_option maxHeartbeats 1000000 in
theorem printed_any (u : Nat) (w : World) (hu : u ≤ 1048576) (ht : Tab w) :
    Calls Tryd.prog 26 #[.int .i64 u] w fun e w' => e = .returned (.string ⟨(printU u).toArray⟩) ∧ Below w.heap.size w w' := by
  have HB := Lib.hid (Below.refl w.heap.size w)
  have HT := Lib.hid ht
  have C1 := Lib.hid (fun (W : World) (hW : Tab W) => itoaN_any (u / 256) W (by omega) hW)
  have a1 : (u : Int).tdiv 256 = ((u / 256 : Nat) : Int) := by rw [Int.tdiv_eq_ediv_of_nonneg (by omega)]; omega
  have a2 : (u : Int).tmod 256 = ((u % 256 : Nat) : Int) := by rw [Int.tmod_eq_emod_of_nonneg (by omega)]; omega
  have a3 : IntKind.i64.wrap ((u / 256 : Nat) : Int) = ((u / 256 : Nat) : Int) := by rw [IntKind.wrap_i64]; omega
  have a4 : IntKind.i64.wrap ((u % 256 : Nat) : Int) = ((u % 256 : Nat) : Int) := by rw [IntKind.wrap_i64]; omega
  unfold printU
  have hr : u % 256 < 256 := Nat.mod_lt _ (by decide)
  have hq : u / 256 ≤ 4096 := by omega
  generalize u / 256 = q at *
  generalize u % 256 = r at *
  clear ht
  obtain ⟨S, hS⟩ : ∃ S : ByteArray, (⟨(Lib.decDigits q).toArray⟩ : ByteArray) = S := ⟨_, rfl⟩
  rw [hS] at C1
  by_cases h0 : r = 0
  · have h1 : ((r : Int) == 0) = true := by simp; omega
    rw [if_pos h0, List.append_nil, hS]
    subst h0
    clear hS
    go_enter Tryd.func26, Tryd.ntmps26
    go_wp2_with fail
    (((with_reducible refine (C1.out _ HT.out).mono ?_); rintro e w1 ⟨rfl, hb1⟩); replace HB := Lib.hid (HB.out.trans (hb1.mono HB.out.size)); replace HT := Lib.hid (HT.out.keep hb1); clear hb1)
    go_wp2_with fail
    go_ret
    exact ⟨rfl, HB.out⟩
  · have h1 : ((r : Int) == 0) = false := by simp; omega
    rw [if_neg h0]
    have hp := frac_pad r hr h0
    have C2 := Lib.hid (fun (W : World) (hW : Tab W) => itoaN_any (r * 390625) W (by omega) hW)
    have hlen : (Lib.decDigits (r * 390625)).length ≤ 8 := by rw [Lib.decDigits_length]; exact nDig_le 8 _ (by decide) (by simp only [show (10 : Nat) ^ 8 = 100000000 from rfl]; omega)
    have a5 : IntKind.i64.wrap ((r : Int) * 390625) = ((r * 390625 : Nat) : Int) := by rw [IntKind.wrap_i64]; omega
    generalize r * 390625 = v at *
    obtain ⟨U, hU⟩ : ∃ U : ByteArray, (⟨(Lib.decDigits v).toArray⟩ : ByteArray) = U := ⟨_, rfl⟩
    have hsz : U.size = (Lib.decDigits v).length := by rw [← hU]; simp [ByteArray.size]
    rw [← hsz] at hlen hp
    have C3 := Lib.hid (fun (W : World) => Tryd.strings_Repeat ⟨#[48]⟩ (8 - U.size) W (by omega) (by rw [show (⟨#[48]⟩ : ByteArray).size = 1 from rfl]; omega))
    obtain ⟨V, hV⟩ : ∃ V : ByteArray, (⟨(Lib.repeatL [48] (8 - U.size)).toArray⟩ : ByteArray) = V := ⟨_, rfl⟩
    rw [show (⟨#[48]⟩ : ByteArray).data.toList = [48] from rfl, hV] at C3
    have hs2 : (V ++ U).size ≤ 9223372036854775807 := by
      rw [ByteArray.size_append, ← hV]
      simp only [ByteArray.size, List.size_toArray]
      rw [Lib.repeatL_length]
      have : U.data.size = U.size := rfl
      simp; omega
    have e4 : (V ++ U).data.toList = Lib.repeatL [48] (8 - U.size) ++ Lib.decDigits v := by rw [← hV, ← hU, str_add]
    have C4 := Lib.hid (fun (W : World) => trimR_any (V ++ U) (fracF 8 r) W hs2 (by rw [e4, hp]))
    obtain ⟨X, hX⟩ : ∃ X : ByteArray, (⟨(fracF 8 r).toArray⟩ : ByteArray) = X := ⟨_, rfl⟩
    rw [hX] at C4
    have fin : Hid (S ++ ⟨#[46]⟩ ++ X = ⟨(Lib.decDigits q ++ 46 :: fracF 8 r).toArray⟩) := Lib.hid (by
      rw [← hS, ← hX, show (⟨#[46]⟩ : ByteArray) = ⟨[46].toArray⟩ from rfl, str_add, str_add, List.append_assoc]; rfl)
    rw [hU] at C2
    have hu8 : (8 : Int) - (U.size : Int) = ((8 - U.size : Nat) : Int) := by omega
    have hw8 : IntKind.i64.wrap ((8 - U.size : Nat) : Int) = ((8 - U.size : Nat) : Int) := by rw [IntKind.wrap_i64]; omega
    have hk8 : 8 - U.size ≤ 8 := by omega
    generalize 8 - U.size = k at *
    have l1 : S.size ≤ 8 := by
      rw [← hS]
      have : (Lib.decDigits q).length ≤ 4 := by rw [Lib.decDigits_length]; exact nDig_le 4 _ (by decide) (by omega)
      simp only [ByteArray.size, List.size_toArray]; omega
    have l2 : X.size ≤ 8 := by
      rw [← hX]
      have := (frac_all ⟨r, hr⟩).2.2
      simpa only [ByteArray.size, List.size_toArray] using this
    have l3 : V.size ≤ 8 := by
      rw [← hV]
      simp only [ByteArray.size, List.size_toArray, Lib.repeatL_length]
      show k * 1 ≤ 8
      omega
    clear hS hX hU hV hp hs2 e4 hsz hr
    go_enter Tryd.func26, Tryd.ntmps26
    go_wp2_with fail
    (((with_reducible refine (C1.out _ HT.out).mono ?_); rintro e w1 ⟨rfl, hb1⟩); replace HB := Lib.hid (HB.out.trans (hb1.mono HB.out.size)); replace HT := Lib.hid (HT.out.keep hb1); clear hb1)
    go_wp2_with fail
    (((with_reducible refine (C2.out _ HT.out).mono ?_); rintro e w2 ⟨rfl, hb2⟩); replace HB := Lib.hid (HB.out.trans (hb2.mono HB.out.size)); replace HT := Lib.hid (HT.out.keep hb2); clear hb2)
    go_wp2_with fail
    (((with_reducible refine (C3.out _).mono ?_); rintro e w3 ⟨rfl, hb3⟩); replace HB := Lib.hid (HB.out.trans (hb3.mono HB.out.size)); replace HT := Lib.hid (HT.out.keep hb3); clear hb3)
    go_wp2_with fail
    (((with_reducible refine (C4.out _).mono ?_); rintro e w4 ⟨rfl, hb4⟩); replace HB := Lib.hid (HB.out.trans (hb4.mono HB.out.size)); replace HT := Lib.hid (HT.out.keep hb4); clear hb4)
    go_wp2_with fail
    go_ret
    exact ⟨by rw [fin.out]; rfl, HB.out⟩

/-- What Print answers. -/
def retT (p : List UInt8 × Int) : Ending := .returned (.tuple #[.string ⟨p.1.toArray⟩, .int .i64 p.2])
theorem print_any (n : Int) (w : World) (ht : Tab w) (b0 : -9223372036854775808 ≤ n) (b1 : n ≤ 9223372036854775807) :
    Calls Tryd.prog 13 #[.int .i64 n] w fun e w' => e = retT (printA n) ∧ Below w.heap.size w w' := by
  have HB := Lib.hid (Below.refl w.heap.size w)
  have HT := Lib.hid ht
  have C1 := Lib.hid (fun W => inRange_any n W)
  clear ht
  by_cases h : -1048576 ≤ n ∧ n ≤ 1048576
  · rw [decide_eq_true h] at C1
    have hA : printA n = (printS n, 0) := by unfold printA; rw [if_pos h]
    rw [hA]
    by_cases hn : n < 0
    · have e : (n.natAbs : Int) = -n := by omega
      have C2 := Lib.hid (fun (W : World) (hW : Tab W) => printed_any n.natAbs W (by omega) hW)
      rw [e] at C2
      have hw : IntKind.i64.wrap (-n) = -n := by rw [IntKind.wrap_i64]; omega
      obtain ⟨S, hS⟩ : ∃ S : ByteArray, (⟨(printU n.natAbs).toArray⟩ : ByteArray) = S := ⟨_, rfl⟩
      rw [hS] at C2
      have fin : Hid (⟨#[45]⟩ ++ S = ⟨(printS n).toArray⟩) := Lib.hid (by
        unfold printS; rw [if_pos hn, ← hS, show (⟨#[45]⟩ : ByteArray) = ⟨[45].toArray⟩ from rfl, str_add]; rfl)
      have l1 : S.size ≤ 20 := by
        obtain ⟨c, t, e1, -, e2, -⟩ := printU_scan false n.natAbs
        have e2 := e2 (by omega)
        rw [← hS, e1]
        simp only [ByteArray.size, List.size_toArray, List.length_cons]; omega
      clear hS hA h e
      go_enter Tryd.func13, Tryd.ntmps13
      go_wp2_with fail
      (((with_reducible refine (C1.out _).mono ?_); rintro e w1 ⟨rfl, hb1⟩); replace HB := Lib.hid (HB.out.trans (hb1.mono HB.out.size)); replace HT := Lib.hid (HT.out.keep hb1); clear hb1)
      go_wp2_with fail
      (((with_reducible refine (C2.out _ HT.out).mono ?_); rintro e w2 ⟨rfl, hb2⟩); replace HB := Lib.hid (HB.out.trans (hb2.mono HB.out.size)); replace HT := Lib.hid (HT.out.keep hb2); clear hb2)
      go_wp2_with fail
      go_ret2
      exact ⟨by rw [fin.out]; rfl, HB.out⟩
    · have e : (n.natAbs : Int) = n := by omega
      have C2 := Lib.hid (fun (W : World) (hW : Tab W) => printed_any n.natAbs W (by omega) hW)
      rw [e] at C2
      obtain ⟨S, hS⟩ : ∃ S : ByteArray, (⟨(printU n.natAbs).toArray⟩ : ByteArray) = S := ⟨_, rfl⟩
      rw [hS] at C2
      have fin : Hid (S = ⟨(printS n).toArray⟩) := Lib.hid (by unfold printS; rw [if_neg hn, ← hS])
      have l1 : S.size ≤ 20 := by
        obtain ⟨c, t, e1, -, e2, -⟩ := printU_scan false n.natAbs
        have e2 := e2 (by omega)
        rw [← hS, e1]
        simp only [ByteArray.size, List.size_toArray, List.length_cons]; omega
      clear hS hA h e
      go_enter Tryd.func13, Tryd.ntmps13
      go_wp2_with fail
      (((with_reducible refine (C1.out _).mono ?_); rintro e w1 ⟨rfl, hb1⟩); replace HB := Lib.hid (HB.out.trans (hb1.mono HB.out.size)); replace HT := Lib.hid (HT.out.keep hb1); clear hb1)
      go_wp2_with fail
      (((with_reducible refine (C2.out _ HT.out).mono ?_); rintro e w2 ⟨rfl, hb2⟩); replace HB := Lib.hid (HB.out.trans (hb2.mono HB.out.size)); replace HT := Lib.hid (HT.out.keep hb2); clear hb2)
      go_wp2_with fail
      go_ret2
      exact ⟨by rw [fin.out]; rfl, HB.out⟩
  · rw [decide_eq_false h] at C1
    have hA : printA n = ([], 5) := by unfold printA; rw [if_neg h]
    rw [hA]
    clear h hA
    go_enter Tryd.func13, Tryd.ntmps13
    go_wp2_with fail
    (((with_reducible refine (C1.out _).mono ?_); rintro e w1 ⟨rfl, hb1⟩); replace HB := Lib.hid (HB.out.trans (hb1.mono HB.out.size)); replace HT := Lib.hid (HT.out.keep hb1); clear hb1)
    go_wp2_with fail
    go_ret2
    exact ⟨rfl, HB.out⟩
end Go.Proofs.YtehfmapbodjppaaDoor
