/-
  ScanMore: its walk. (gen/ScJ.py)
-/
import Derived.Test.YtehfmapbodjppaaDoorScH
import Derived.Test.YtehfmapbodjppaaDoorScPureC
namespace Go.Proofs.YtehfmapbodjppaaDoor
open Go.RowKit

def bAt (s : ByteArray) (k : Nat) : Nat := (s.data.toList[k]?.getD 0).toNat
/-- Is there a point in the first k bytes? -/
def hasP (s : ByteArray) : Nat → Bool
  | 0 => false
  | k + 1 => hasP s k || decide (bAt s k = 46)
theorem bAt_at (s : ByteArray) (k : Nat) (h : k < s.size) : bAt s k = (s[k]'h).toNat := by
  have h' : k < s.data.toList.length := by simpa using h
  unfold bAt
  rw [List.getElem?_eq_getElem h']
  rfl
theorem hasP_iff (s : ByteArray) (k : Nat) : hasP s k = true ↔ ∃ i, i < k ∧ bAt s i = 46 := by
  induction k with
  | zero => simp [hasP]
  | succ k ih =>
    rw [hasP, Bool.or_eq_true, ih, decide_eq_true_eq]
    constructor
    · rintro (⟨i, h1, h2⟩ | h)
      · exact ⟨i, by omega, h2⟩
      · exact ⟨k, by omega, h⟩
    · rintro ⟨i, h1, h2⟩
      by_cases e : i = k
      · subst e; exact .inr h2
      · exact .inl ⟨i, by omega, h2⟩
theorem hasP_mem (s : ByteArray) (h : hasP s s.size = true) : ∃ b ∈ s.data.toList, b.toNat = 46 := by
  obtain ⟨i, h1, h2⟩ := (hasP_iff s s.size).1 h
  rw [bAt_at s i h1] at h2
  have h' : i < s.data.toList.length := by simpa using h1
  exact ⟨s[i], by show s.data.toList[i] ∈ _; exact List.getElem_mem h', h2⟩
theorem dot_mem (s : ByteArray) : ∃ b ∈ (s ++ ⟨#[46]⟩ : ByteArray).data.toList, b.toNat = 46 := by
  refine ⟨46, ?_, rfl⟩
  rw [ByteArray.data_append]; simp

/-- What the three texts tell. -/
theorem more_facts (S : ByteArray) (d : Nat) (hd : d ≤ 9) (h18 : S.size ≤ 18) (h46 : ∃ b ∈ S.data.toList, b.toNat = 46) : ∃ a e b f c g : Int, ∃ h0 : 0 < S.size,
    parseS S.data.toList = (a, e) ∧ parseS (S ++ ⟨#[UInt8.ofNat (48 + d)]⟩ : ByteArray).data.toList = (b, f) ∧ parseS (S ++ ⟨#[48, 48]⟩ : ByteArray).data.toList = (c, g) ∧
    (-1048576 ≤ a ∧ a ≤ 1048576) ∧ (-1048576 ≤ b ∧ b ≤ 1048576) ∧
    ((e = 5 ∧ g = 5) ∨ (e ≠ 0 ∧ e ≠ 5 ∧ g ≠ 5) ∨ (e = 0 ∧ g = 0 ∧ c = a ∧ f = 5 ∧ a = 1048576) ∨ (e = 0 ∧ g = 0 ∧ c = a ∧ f = 5 ∧ a = -1048576) ∨
      (e = 0 ∧ g = 0 ∧ c = a ∧ f = 0 ∧ (S[0]'h0).toNat = 45 ∧ b ≤ a ∧ a ≤ b + 231) ∨ (e = 0 ∧ g = 0 ∧ c = a ∧ f = 0 ∧ (S[0]'h0).toNat ≠ 45 ∧ a ≤ b ∧ b ≤ a + 231)) := by
  have h0 : 0 < S.size := by
    obtain ⟨b, hb, _⟩ := h46
    have : 0 < S.data.toList.length := List.length_pos_of_mem hb
    simpa using this
  have hs := rest_at S 0 h0
  rw [List.drop_zero] at hs
  have hl : S.data.toList.length ≤ 18 := by simp; omega
  obtain ⟨bl, hbl, r1, r2, h⟩ := more_text S.data.toList (UInt8.ofNat (48 + d)) (isD_dig (by omega)) hl h46
  have e1 : (S ++ ⟨#[UInt8.ofNat (48 + d)]⟩ : ByteArray).data.toList = S.data.toList ++ [UInt8.ofNat (48 + d)] := by rw [ByteArray.data_append]; simp
  have e2 : (S ++ ⟨#[48, 48]⟩ : ByteArray).data.toList = S.data.toList ++ [48, 48] := by rw [ByteArray.data_append]; simp
  have hf : bl = true ↔ (S[0]'h0).toNat = 45 := by
    rw [hbl, hs]
    constructor
    · rintro ⟨t, e⟩; injection e with e _; rw [e]; rfl
    · intro e; exact ⟨_, by rw [show S[0] = 45 from UInt8.toNat_inj.1 e]⟩
  rw [e1, e2]
  generalize parseS S.data.toList = x at *
  generalize parseS (S.data.toList ++ [UInt8.ofNat (48 + d)]) = y at *
  generalize parseS (S.data.toList ++ [48, 48]) = z at *
  obtain ⟨a, e⟩ := x
  obtain ⟨b, f⟩ := y
  obtain ⟨c, g⟩ := z
  simp only at r1 r2 h
  refine ⟨a, e, b, f, c, g, h0, rfl, rfl, rfl, r1, r2, ?_⟩
  rcases h with ⟨h1, h2⟩ | ⟨rfl, h2, h | h⟩
  · by_cases h5 : e = 5
    · exact .inl ⟨h5, h2.1 h5⟩
    · exact .inr (.inl ⟨h1, h5, fun q => h5 (h2.2 q)⟩)
  · injection h2 with h2 h3
    rcases h.2 with h4 | h4
    · exact .inr (.inr (.inl ⟨rfl, h3, h2, h.1, h4⟩))
    · exact .inr (.inr (.inr (.inl ⟨rfl, h3, h2, h.1, h4⟩)))
  · injection h2 with h2 h3
    obtain ⟨k1, k2, k3, k4, k5⟩ := h
    by_cases q : (S[0]'h0).toNat = 45
    · exact .inr (.inr (.inr (.inr (.inl ⟨rfl, h3, h2, k1, q, k2 (hf.2 q), by omega⟩))))
    · have : bl = false := by cases bl with
        | false => rfl
        | true => exact absurd (hf.1 rfl) q
      exact .inr (.inr (.inr (.inr (.inr ⟨rfl, h3, h2, k1, q, k3 this, by omega⟩))))

set_option maxRecDepth 100000 in
set_option maxHeartbeats 4000000 in
theorem law_more (s : ByteArray) (x : Int) (w : World) (ht : Tab w) (b1 : 0 ≤ x ∧ x ≤ 255) :
    Calls Tryd.prog 5 #[.string s, .int .u8 x] w fun e w' => e = .returned (.bool true) ∧ Below w.heap.size w w' := by
  have HB := Lib.hid (Below.refl w.heap.size w)
  have HT := Lib.hid ht
  clear ht
  have CS := Lib.hid (fun (W : World) (hW : Tab W) => scanned_any W hW)
  have CP := Lib.hid (fun (S : ByteArray) (W : World) => parse_any S W)
  by_cases hl : 17 < s.size
  · have h0 : (17 : Int) < s.size := by omega
    go_enter Tryd.func5, Tryd.ntmps5
    go_wp2_with fail
    go_ret
    exact ⟨rfl, HB.out⟩
  · have h0 : ¬ (17 : Int) < s.size := by omega
    have h17 : s.size ≤ 17 := by omega
    obtain ⟨d, hd⟩ : ∃ d : Nat, x.tmod 10 = d := ⟨(x.tmod 10).toNat, by have : x.tmod 10 = x % 10 := Int.tmod_eq_emod_of_nonneg b1.1; omega⟩
    have d9 : d ≤ 9 := by have : x.tmod 10 = x % 10 := Int.tmod_eq_emod_of_nonneg b1.1; omega
    have d1 : IntKind.u8.wrap (d : Int) = d := by rw [IntKind.wrap_u8]; omega
    have d2 : IntKind.u8.wrap (48 + (d : Int)) = 48 + (d : Int) := by rw [IntKind.wrap_u8]; omega
    have FX := Lib.hid (fun S h18 h46 => more_facts S d d9 h18 h46)
    obtain ⟨B1, hB1⟩ : ∃ B1 : ByteArray, (⟨#[UInt8.ofNat (48 + d)]⟩ : ByteArray) = B1 := ⟨_, rfl⟩
    have hb1 : B1.size = 1 := by rw [← hB1]; rfl
    have hb2 : B1.size ≤ 1 := by omega
    rw [hB1] at FX
    have HV : Hid (∀ W : World, (convert 37 9 (.slice (some ⟨W.heap.size, 0, none⟩) 1 1)).run Tryd.prog (W.alloc (.cells #[.int .u8 (48 + (d : Int))] 5)) = .ok (.string B1) (W.alloc (.cells #[.int .u8 (48 + (d : Int))] 5))) := Lib.hid fun W => by
      have hv := run_convert_bytes_back (P := Tryd.prog) (W.alloc (.cells #[.int .u8 (48 + (d : Int))] 5)) 37 9 5 ⟨W.heap.size, 0, none⟩ 1 [UInt8.ofNat (48 + d)] Tryd.underlying37 Tryd.underlying5 Tryd.underlying9 (fun j hj => by
        obtain rfl : j = 0 := by simpa using hj
        simp [Addr.add]
        omega)
      simp only [List.length_singleton] at hv
      rw [show ([UInt8.ofNat (48 + d)].toArray : Array UInt8) = #[UInt8.ofNat (48 + d)] from rfl, hB1] at hv
      exact hv
    clear hB1 hb1 b1
    go_enter Tryd.func5, Tryd.ntmps5
    go_wp2_with fail
    go_loopw [5, 6] (fun p i wr => ∃ k : Nat, i = .int .i64 k ∧ k ≤ s.size ∧ p = .bool (hasP s k) ∧ Tab wr ∧ Below w.heap.size w wr) (fun _ i _ => s.size - (intOf i).toNat)
    case atStart => exact ⟨0, rfl, Nat.zero_le _, rfl, HT.out, HB.out⟩
    case round =>
      obtain ⟨k, rfl, hk, rfl, hT, hB⟩ := hrel
      replace HB := Lib.hid hB
      replace HT := Lib.hid hT
      clear hB hT
      by_cases hlt : k < s.size
      · have i0 : (0 : Int) ≤ (k : Int) := by omega
        have i1 : (k : Int) < s.size := by omega
        have HN : Hid (hasP s (k + 1) = (hasP s k || decide ((s[k]'hlt).toNat = 46))) := Lib.hid (by rw [hasP, bAt_at s k hlt])
        have hn := (s[k]'hlt).toNat_lt
        by_cases q : (s[k]'hlt).toNat = 46
        · rw [decide_eq_true q] at HN
          have q1 : (((s[k]'hlt).toNat : Int) == 46) = true := by rw [beq_iff_eq]; omega
          clear q
          generalize hasP s k = p at *
          cases p
          · go_wp2
            go_roundw
            case rel => exact ⟨k + 1, by go_num, hlt, by rw [HN.out]; rfl, HT.out, HB.out⟩
            case measure => simp [intOf]; omega
          · go_wp2
            go_roundw
            case rel => exact ⟨k + 1, by go_num, hlt, by rw [HN.out]; rfl, HT.out, HB.out⟩
            case measure => simp [intOf]; omega
        · rw [decide_eq_false q] at HN
          have q1 : (((s[k]'hlt).toNat : Int) == 46) = false := by rw [beq_eq_false_iff_ne]; omega
          clear q
          generalize hasP s k = p at *
          cases p
          · go_wp2
            go_roundw
            case rel => exact ⟨k + 1, by go_num, hlt, by rw [HN.out]; rfl, HT.out, HB.out⟩
            case measure => simp [intOf]; omega
          · go_wp2
            go_roundw
            case rel => exact ⟨k + 1, by go_num, hlt, by rw [HN.out]; rfl, HT.out, HB.out⟩
            case measure => simp [intOf]; omega
      · obtain rfl : k = s.size := by omega
        by_cases hp : hasP s s.size = true
        · have F0 := Lib.hid (FX.out s (by omega) (hasP_mem s hp))
          rw [hp]
          clear hp
          go_upto_region 10 with fail
          obtain ⟨S, hS⟩ : ∃ S : ByteArray, s = S := ⟨_, rfl⟩
          subst hS
          have hS18 : s.size ≤ 18 := by omega
          clear h17 h0 hl hk FX
          obtain ⟨a, e, b, f, c, g, hz, P1, P2, P3, ba, bb, H⟩ := F0.out
          have C1 := Lib.hid (CP.out s)
          have C2 := Lib.hid (CP.out (s ++ B1))
          have C3 := Lib.hid (CP.out (s ++ ⟨#[48, 48]⟩))
          rw [P1] at C1
          rw [P2] at C2
          rw [P3] at C3
          unfold retP at C1 C2 C3
          have hz1 : (0 : Int) < s.size := by omega
          have hz2 : decide ((0 : Int) < s.size) = true := decide_eq_true hz1
          clear P1 P2 P3 F0 CP
          rcases H with ⟨rfl, rfl⟩ | ⟨n1, n2, n3⟩ | ⟨rfl, rfl, rfl, rfl, rfl⟩ | ⟨rfl, rfl, rfl, rfl, rfl⟩ | ⟨rfl, rfl, rfl, rfl, n1, n2, n3⟩ | ⟨rfl, rfl, rfl, rfl, n1, n2, n3⟩
          · clear ba bb
            go_wp2_with fail
            (((with_reducible refine (C1.out _).mono ?_); rintro e w1 ⟨rfl, hb1⟩); replace HB := Lib.hid (HB.out.trans (hb1.mono HB.out.size)); replace HT := Lib.hid (HT.out.keep hb1); clear hb1)
            have hv := HV.out w1
            go_wp2_with fail
            clear hv
            have hbn := below_new1 w1 (.cells #[.int .u8 (48 + (d : Int))] 5)
            replace HB := Lib.hid (HB.out.trans (hbn.mono HB.out.size))
            replace HT := Lib.hid (HT.out.keep hbn)
            clear hbn
            (((with_reducible refine (C2.out _).mono ?_); rintro e w2 ⟨rfl, hb2⟩); replace HB := Lib.hid (HB.out.trans (hb2.mono HB.out.size)); replace HT := Lib.hid (HT.out.keep hb2); clear hb2)
            go_wp2_with fail
            (((with_reducible refine (C3.out _).mono ?_); rintro e w3 ⟨rfl, hb3⟩); replace HB := Lib.hid (HB.out.trans (hb3.mono HB.out.size)); replace HT := Lib.hid (HT.out.keep hb3); clear hb3)
            go_wp2_with fail
            (((with_reducible refine (CS.out _ HT.out).mono ?_); rintro e w4 ⟨rfl, hb4⟩); replace HB := Lib.hid (HB.out.trans (hb4.mono HB.out.size)); replace HT := Lib.hid (HT.out.keep hb4); clear hb4)
            go_wp2_with fail
            go_ret
            exact ⟨rfl, HB.out⟩
          · have q1 : (e != 0) = true := by simp [n1]
            have q2 : (e == 5) = false := by rw [beq_eq_false_iff_ne]; exact n2
            have q3 : (g == 5) = false := by rw [beq_eq_false_iff_ne]; exact n3
            clear ba bb n1 n2 n3
            go_wp2_with fail
            (((with_reducible refine (C1.out _).mono ?_); rintro e w1 ⟨rfl, hb1⟩); replace HB := Lib.hid (HB.out.trans (hb1.mono HB.out.size)); replace HT := Lib.hid (HT.out.keep hb1); clear hb1)
            have hv := HV.out w1
            go_wp2_with fail
            clear hv
            have hbn := below_new1 w1 (.cells #[.int .u8 (48 + (d : Int))] 5)
            replace HB := Lib.hid (HB.out.trans (hbn.mono HB.out.size))
            replace HT := Lib.hid (HT.out.keep hbn)
            clear hbn
            (((with_reducible refine (C2.out _).mono ?_); rintro e w2 ⟨rfl, hb2⟩); replace HB := Lib.hid (HB.out.trans (hb2.mono HB.out.size)); replace HT := Lib.hid (HT.out.keep hb2); clear hb2)
            go_wp2_with fail
            (((with_reducible refine (C3.out _).mono ?_); rintro e w3 ⟨rfl, hb3⟩); replace HB := Lib.hid (HB.out.trans (hb3.mono HB.out.size)); replace HT := Lib.hid (HT.out.keep hb3); clear hb3)
            go_wp2_with fail
            (((with_reducible refine (CS.out _ HT.out).mono ?_); rintro e w4 ⟨rfl, hb4⟩); replace HB := Lib.hid (HB.out.trans (hb4.mono HB.out.size)); replace HT := Lib.hid (HT.out.keep hb4); clear hb4)
            go_wp2_with fail
            go_ret
            exact ⟨rfl, HB.out⟩
          · clear ba bb
            go_wp2_with fail
            (((with_reducible refine (C1.out _).mono ?_); rintro e w1 ⟨rfl, hb1⟩); replace HB := Lib.hid (HB.out.trans (hb1.mono HB.out.size)); replace HT := Lib.hid (HT.out.keep hb1); clear hb1)
            have hv := HV.out w1
            go_wp2_with fail
            clear hv
            have hbn := below_new1 w1 (.cells #[.int .u8 (48 + (d : Int))] 5)
            replace HB := Lib.hid (HB.out.trans (hbn.mono HB.out.size))
            replace HT := Lib.hid (HT.out.keep hbn)
            clear hbn
            (((with_reducible refine (C2.out _).mono ?_); rintro e w2 ⟨rfl, hb2⟩); replace HB := Lib.hid (HB.out.trans (hb2.mono HB.out.size)); replace HT := Lib.hid (HT.out.keep hb2); clear hb2)
            go_wp2_with fail
            (((with_reducible refine (C3.out _).mono ?_); rintro e w3 ⟨rfl, hb3⟩); replace HB := Lib.hid (HB.out.trans (hb3.mono HB.out.size)); replace HT := Lib.hid (HT.out.keep hb3); clear hb3)
            go_wp2_with fail
            (((with_reducible refine (CS.out _ HT.out).mono ?_); rintro e w4 ⟨rfl, hb4⟩); replace HB := Lib.hid (HB.out.trans (hb4.mono HB.out.size)); replace HT := Lib.hid (HT.out.keep hb4); clear hb4)
            go_wp2_with fail
            go_ret
            exact ⟨rfl, HB.out⟩
          · clear ba bb
            go_wp2_with fail
            (((with_reducible refine (C1.out _).mono ?_); rintro e w1 ⟨rfl, hb1⟩); replace HB := Lib.hid (HB.out.trans (hb1.mono HB.out.size)); replace HT := Lib.hid (HT.out.keep hb1); clear hb1)
            have hv := HV.out w1
            go_wp2_with fail
            clear hv
            have hbn := below_new1 w1 (.cells #[.int .u8 (48 + (d : Int))] 5)
            replace HB := Lib.hid (HB.out.trans (hbn.mono HB.out.size))
            replace HT := Lib.hid (HT.out.keep hbn)
            clear hbn
            (((with_reducible refine (C2.out _).mono ?_); rintro e w2 ⟨rfl, hb2⟩); replace HB := Lib.hid (HB.out.trans (hb2.mono HB.out.size)); replace HT := Lib.hid (HT.out.keep hb2); clear hb2)
            go_wp2_with fail
            (((with_reducible refine (C3.out _).mono ?_); rintro e w3 ⟨rfl, hb3⟩); replace HB := Lib.hid (HB.out.trans (hb3.mono HB.out.size)); replace HT := Lib.hid (HT.out.keep hb3); clear hb3)
            go_wp2_with fail
            (((with_reducible refine (CS.out _ HT.out).mono ?_); rintro e w4 ⟨rfl, hb4⟩); replace HB := Lib.hid (HB.out.trans (hb4.mono HB.out.size)); replace HT := Lib.hid (HT.out.keep hb4); clear hb4)
            go_wp2_with fail
            go_ret
            exact ⟨rfl, HB.out⟩
          · have q1 : (((s[0]'hz).toNat : Int) == 45) = true := by rw [beq_iff_eq]; omega
            have w1 : IntKind.i64.wrap (b - c) = b - c := by rw [IntKind.wrap_i64]; omega
            have w2 : IntKind.i64.wrap (c - b) = c - b := by rw [IntKind.wrap_i64]; omega
            have q2 : decide (b ≤ c) = true := decide_eq_true n2
            have q3 : decide (b - c ≤ 231) = true := decide_eq_true (by omega)
            have q4 : decide (c - b ≤ 231) = true := decide_eq_true (by omega)
            clear n1 ba bb
            go_wp2_with fail
            (((with_reducible refine (C1.out _).mono ?_); rintro e w1 ⟨rfl, hb1⟩); replace HB := Lib.hid (HB.out.trans (hb1.mono HB.out.size)); replace HT := Lib.hid (HT.out.keep hb1); clear hb1)
            have hv := HV.out w1
            go_wp2_with fail
            clear hv
            have hbn := below_new1 w1 (.cells #[.int .u8 (48 + (d : Int))] 5)
            replace HB := Lib.hid (HB.out.trans (hbn.mono HB.out.size))
            replace HT := Lib.hid (HT.out.keep hbn)
            clear hbn
            (((with_reducible refine (C2.out _).mono ?_); rintro e w2 ⟨rfl, hb2⟩); replace HB := Lib.hid (HB.out.trans (hb2.mono HB.out.size)); replace HT := Lib.hid (HT.out.keep hb2); clear hb2)
            go_wp2_with fail
            (((with_reducible refine (C3.out _).mono ?_); rintro e w3 ⟨rfl, hb3⟩); replace HB := Lib.hid (HB.out.trans (hb3.mono HB.out.size)); replace HT := Lib.hid (HT.out.keep hb3); clear hb3)
            go_wp2_with fail
            (((with_reducible refine (CS.out _ HT.out).mono ?_); rintro e w4 ⟨rfl, hb4⟩); replace HB := Lib.hid (HB.out.trans (hb4.mono HB.out.size)); replace HT := Lib.hid (HT.out.keep hb4); clear hb4)
            go_wp2_with fail
            go_ret
            exact ⟨rfl, HB.out⟩
          · have q1 : (((s[0]'hz).toNat : Int) == 45) = false := by rw [beq_eq_false_iff_ne]; omega
            have q5 : (((s[0]'hz).toNat : Int) != 45) = true := by simp only [bne, q1]; rfl
            have w1 : IntKind.i64.wrap (b - c) = b - c := by rw [IntKind.wrap_i64]; omega
            have w2 : IntKind.i64.wrap (c - b) = c - b := by rw [IntKind.wrap_i64]; omega
            have q2 : decide (c ≤ b) = true := decide_eq_true n2
            have q3 : decide (b - c ≤ 231) = true := decide_eq_true (by omega)
            have q4 : decide (c - b ≤ 231) = true := decide_eq_true (by omega)
            clear n1 ba bb
            go_wp2_with fail
            (((with_reducible refine (C1.out _).mono ?_); rintro e w1 ⟨rfl, hb1⟩); replace HB := Lib.hid (HB.out.trans (hb1.mono HB.out.size)); replace HT := Lib.hid (HT.out.keep hb1); clear hb1)
            have hv := HV.out w1
            go_wp2_with fail
            clear hv
            have hbn := below_new1 w1 (.cells #[.int .u8 (48 + (d : Int))] 5)
            replace HB := Lib.hid (HB.out.trans (hbn.mono HB.out.size))
            replace HT := Lib.hid (HT.out.keep hbn)
            clear hbn
            (((with_reducible refine (C2.out _).mono ?_); rintro e w2 ⟨rfl, hb2⟩); replace HB := Lib.hid (HB.out.trans (hb2.mono HB.out.size)); replace HT := Lib.hid (HT.out.keep hb2); clear hb2)
            go_wp2_with fail
            (((with_reducible refine (C3.out _).mono ?_); rintro e w3 ⟨rfl, hb3⟩); replace HB := Lib.hid (HB.out.trans (hb3.mono HB.out.size)); replace HT := Lib.hid (HT.out.keep hb3); clear hb3)
            go_wp2_with fail
            (((with_reducible refine (CS.out _ HT.out).mono ?_); rintro e w4 ⟨rfl, hb4⟩); replace HB := Lib.hid (HB.out.trans (hb4.mono HB.out.size)); replace HT := Lib.hid (HT.out.keep hb4); clear hb4)
            go_wp2_with fail
            go_ret
            exact ⟨rfl, HB.out⟩
        · have F0 := Lib.hid (FX.out (s ++ ⟨#[46]⟩) (by rw [ByteArray.size_append]; have : (⟨#[46]⟩ : ByteArray).size = 1 := rfl; omega) (dot_mem s))
          rw [Bool.eq_false_iff.2 hp]
          clear hp
          have hS18 : (s ++ ⟨#[46]⟩).size ≤ 18 := by rw [ByteArray.size_append]; have : (⟨#[46]⟩ : ByteArray).size = 1 := rfl; omega
          go_upto_region 10 with fail
          clear h17 h0 hl hk FX hlt
          generalize s ++ ⟨#[46]⟩ = s at *
          obtain ⟨a, e, b, f, c, g, hz, P1, P2, P3, ba, bb, H⟩ := F0.out
          have C1 := Lib.hid (CP.out s)
          have C2 := Lib.hid (CP.out (s ++ B1))
          have C3 := Lib.hid (CP.out (s ++ ⟨#[48, 48]⟩))
          rw [P1] at C1
          rw [P2] at C2
          rw [P3] at C3
          unfold retP at C1 C2 C3
          have hz1 : (0 : Int) < s.size := by omega
          have hz2 : decide ((0 : Int) < s.size) = true := decide_eq_true hz1
          clear P1 P2 P3 F0 CP
          rcases H with ⟨rfl, rfl⟩ | ⟨n1, n2, n3⟩ | ⟨rfl, rfl, rfl, rfl, rfl⟩ | ⟨rfl, rfl, rfl, rfl, rfl⟩ | ⟨rfl, rfl, rfl, rfl, n1, n2, n3⟩ | ⟨rfl, rfl, rfl, rfl, n1, n2, n3⟩
          · clear ba bb
            go_wp2_with fail
            (((with_reducible refine (C1.out _).mono ?_); rintro e w1 ⟨rfl, hb1⟩); replace HB := Lib.hid (HB.out.trans (hb1.mono HB.out.size)); replace HT := Lib.hid (HT.out.keep hb1); clear hb1)
            have hv := HV.out w1
            go_wp2_with fail
            clear hv
            have hbn := below_new1 w1 (.cells #[.int .u8 (48 + (d : Int))] 5)
            replace HB := Lib.hid (HB.out.trans (hbn.mono HB.out.size))
            replace HT := Lib.hid (HT.out.keep hbn)
            clear hbn
            (((with_reducible refine (C2.out _).mono ?_); rintro e w2 ⟨rfl, hb2⟩); replace HB := Lib.hid (HB.out.trans (hb2.mono HB.out.size)); replace HT := Lib.hid (HT.out.keep hb2); clear hb2)
            go_wp2_with fail
            (((with_reducible refine (C3.out _).mono ?_); rintro e w3 ⟨rfl, hb3⟩); replace HB := Lib.hid (HB.out.trans (hb3.mono HB.out.size)); replace HT := Lib.hid (HT.out.keep hb3); clear hb3)
            go_wp2_with fail
            (((with_reducible refine (CS.out _ HT.out).mono ?_); rintro e w4 ⟨rfl, hb4⟩); replace HB := Lib.hid (HB.out.trans (hb4.mono HB.out.size)); replace HT := Lib.hid (HT.out.keep hb4); clear hb4)
            go_wp2_with fail
            go_ret
            exact ⟨rfl, HB.out⟩
          · have q1 : (e != 0) = true := by simp [n1]
            have q2 : (e == 5) = false := by rw [beq_eq_false_iff_ne]; exact n2
            have q3 : (g == 5) = false := by rw [beq_eq_false_iff_ne]; exact n3
            clear ba bb n1 n2 n3
            go_wp2_with fail
            (((with_reducible refine (C1.out _).mono ?_); rintro e w1 ⟨rfl, hb1⟩); replace HB := Lib.hid (HB.out.trans (hb1.mono HB.out.size)); replace HT := Lib.hid (HT.out.keep hb1); clear hb1)
            have hv := HV.out w1
            go_wp2_with fail
            clear hv
            have hbn := below_new1 w1 (.cells #[.int .u8 (48 + (d : Int))] 5)
            replace HB := Lib.hid (HB.out.trans (hbn.mono HB.out.size))
            replace HT := Lib.hid (HT.out.keep hbn)
            clear hbn
            (((with_reducible refine (C2.out _).mono ?_); rintro e w2 ⟨rfl, hb2⟩); replace HB := Lib.hid (HB.out.trans (hb2.mono HB.out.size)); replace HT := Lib.hid (HT.out.keep hb2); clear hb2)
            go_wp2_with fail
            (((with_reducible refine (C3.out _).mono ?_); rintro e w3 ⟨rfl, hb3⟩); replace HB := Lib.hid (HB.out.trans (hb3.mono HB.out.size)); replace HT := Lib.hid (HT.out.keep hb3); clear hb3)
            go_wp2_with fail
            (((with_reducible refine (CS.out _ HT.out).mono ?_); rintro e w4 ⟨rfl, hb4⟩); replace HB := Lib.hid (HB.out.trans (hb4.mono HB.out.size)); replace HT := Lib.hid (HT.out.keep hb4); clear hb4)
            go_wp2_with fail
            go_ret
            exact ⟨rfl, HB.out⟩
          · clear ba bb
            go_wp2_with fail
            (((with_reducible refine (C1.out _).mono ?_); rintro e w1 ⟨rfl, hb1⟩); replace HB := Lib.hid (HB.out.trans (hb1.mono HB.out.size)); replace HT := Lib.hid (HT.out.keep hb1); clear hb1)
            have hv := HV.out w1
            go_wp2_with fail
            clear hv
            have hbn := below_new1 w1 (.cells #[.int .u8 (48 + (d : Int))] 5)
            replace HB := Lib.hid (HB.out.trans (hbn.mono HB.out.size))
            replace HT := Lib.hid (HT.out.keep hbn)
            clear hbn
            (((with_reducible refine (C2.out _).mono ?_); rintro e w2 ⟨rfl, hb2⟩); replace HB := Lib.hid (HB.out.trans (hb2.mono HB.out.size)); replace HT := Lib.hid (HT.out.keep hb2); clear hb2)
            go_wp2_with fail
            (((with_reducible refine (C3.out _).mono ?_); rintro e w3 ⟨rfl, hb3⟩); replace HB := Lib.hid (HB.out.trans (hb3.mono HB.out.size)); replace HT := Lib.hid (HT.out.keep hb3); clear hb3)
            go_wp2_with fail
            (((with_reducible refine (CS.out _ HT.out).mono ?_); rintro e w4 ⟨rfl, hb4⟩); replace HB := Lib.hid (HB.out.trans (hb4.mono HB.out.size)); replace HT := Lib.hid (HT.out.keep hb4); clear hb4)
            go_wp2_with fail
            go_ret
            exact ⟨rfl, HB.out⟩
          · clear ba bb
            go_wp2_with fail
            (((with_reducible refine (C1.out _).mono ?_); rintro e w1 ⟨rfl, hb1⟩); replace HB := Lib.hid (HB.out.trans (hb1.mono HB.out.size)); replace HT := Lib.hid (HT.out.keep hb1); clear hb1)
            have hv := HV.out w1
            go_wp2_with fail
            clear hv
            have hbn := below_new1 w1 (.cells #[.int .u8 (48 + (d : Int))] 5)
            replace HB := Lib.hid (HB.out.trans (hbn.mono HB.out.size))
            replace HT := Lib.hid (HT.out.keep hbn)
            clear hbn
            (((with_reducible refine (C2.out _).mono ?_); rintro e w2 ⟨rfl, hb2⟩); replace HB := Lib.hid (HB.out.trans (hb2.mono HB.out.size)); replace HT := Lib.hid (HT.out.keep hb2); clear hb2)
            go_wp2_with fail
            (((with_reducible refine (C3.out _).mono ?_); rintro e w3 ⟨rfl, hb3⟩); replace HB := Lib.hid (HB.out.trans (hb3.mono HB.out.size)); replace HT := Lib.hid (HT.out.keep hb3); clear hb3)
            go_wp2_with fail
            (((with_reducible refine (CS.out _ HT.out).mono ?_); rintro e w4 ⟨rfl, hb4⟩); replace HB := Lib.hid (HB.out.trans (hb4.mono HB.out.size)); replace HT := Lib.hid (HT.out.keep hb4); clear hb4)
            go_wp2_with fail
            go_ret
            exact ⟨rfl, HB.out⟩
          · have q1 : (((s[0]'hz).toNat : Int) == 45) = true := by rw [beq_iff_eq]; omega
            have w1 : IntKind.i64.wrap (b - c) = b - c := by rw [IntKind.wrap_i64]; omega
            have w2 : IntKind.i64.wrap (c - b) = c - b := by rw [IntKind.wrap_i64]; omega
            have q2 : decide (b ≤ c) = true := decide_eq_true n2
            have q3 : decide (b - c ≤ 231) = true := decide_eq_true (by omega)
            have q4 : decide (c - b ≤ 231) = true := decide_eq_true (by omega)
            clear n1 ba bb
            go_wp2_with fail
            (((with_reducible refine (C1.out _).mono ?_); rintro e w1 ⟨rfl, hb1⟩); replace HB := Lib.hid (HB.out.trans (hb1.mono HB.out.size)); replace HT := Lib.hid (HT.out.keep hb1); clear hb1)
            have hv := HV.out w1
            go_wp2_with fail
            clear hv
            have hbn := below_new1 w1 (.cells #[.int .u8 (48 + (d : Int))] 5)
            replace HB := Lib.hid (HB.out.trans (hbn.mono HB.out.size))
            replace HT := Lib.hid (HT.out.keep hbn)
            clear hbn
            (((with_reducible refine (C2.out _).mono ?_); rintro e w2 ⟨rfl, hb2⟩); replace HB := Lib.hid (HB.out.trans (hb2.mono HB.out.size)); replace HT := Lib.hid (HT.out.keep hb2); clear hb2)
            go_wp2_with fail
            (((with_reducible refine (C3.out _).mono ?_); rintro e w3 ⟨rfl, hb3⟩); replace HB := Lib.hid (HB.out.trans (hb3.mono HB.out.size)); replace HT := Lib.hid (HT.out.keep hb3); clear hb3)
            go_wp2_with fail
            (((with_reducible refine (CS.out _ HT.out).mono ?_); rintro e w4 ⟨rfl, hb4⟩); replace HB := Lib.hid (HB.out.trans (hb4.mono HB.out.size)); replace HT := Lib.hid (HT.out.keep hb4); clear hb4)
            go_wp2_with fail
            go_ret
            exact ⟨rfl, HB.out⟩
          · have q1 : (((s[0]'hz).toNat : Int) == 45) = false := by rw [beq_eq_false_iff_ne]; omega
            have q5 : (((s[0]'hz).toNat : Int) != 45) = true := by simp only [bne, q1]; rfl
            have w1 : IntKind.i64.wrap (b - c) = b - c := by rw [IntKind.wrap_i64]; omega
            have w2 : IntKind.i64.wrap (c - b) = c - b := by rw [IntKind.wrap_i64]; omega
            have q2 : decide (c ≤ b) = true := decide_eq_true n2
            have q3 : decide (b - c ≤ 231) = true := decide_eq_true (by omega)
            have q4 : decide (c - b ≤ 231) = true := decide_eq_true (by omega)
            clear n1 ba bb
            go_wp2_with fail
            (((with_reducible refine (C1.out _).mono ?_); rintro e w1 ⟨rfl, hb1⟩); replace HB := Lib.hid (HB.out.trans (hb1.mono HB.out.size)); replace HT := Lib.hid (HT.out.keep hb1); clear hb1)
            have hv := HV.out w1
            go_wp2_with fail
            clear hv
            have hbn := below_new1 w1 (.cells #[.int .u8 (48 + (d : Int))] 5)
            replace HB := Lib.hid (HB.out.trans (hbn.mono HB.out.size))
            replace HT := Lib.hid (HT.out.keep hbn)
            clear hbn
            (((with_reducible refine (C2.out _).mono ?_); rintro e w2 ⟨rfl, hb2⟩); replace HB := Lib.hid (HB.out.trans (hb2.mono HB.out.size)); replace HT := Lib.hid (HT.out.keep hb2); clear hb2)
            go_wp2_with fail
            (((with_reducible refine (C3.out _).mono ?_); rintro e w3 ⟨rfl, hb3⟩); replace HB := Lib.hid (HB.out.trans (hb3.mono HB.out.size)); replace HT := Lib.hid (HT.out.keep hb3); clear hb3)
            go_wp2_with fail
            (((with_reducible refine (CS.out _ HT.out).mono ?_); rintro e w4 ⟨rfl, hb4⟩); replace HB := Lib.hid (HB.out.trans (hb4.mono HB.out.size)); replace HT := Lib.hid (HT.out.keep hb4); clear hb4)
            go_wp2_with fail
            go_ret
            exact ⟨rfl, HB.out⟩
end Go.Proofs.YtehfmapbodjppaaDoor
