/-
  The reference of layer 5: digit, parts. (gen/ScRA.py)
-/
import Derived.Test.YtehfmapbodjppaaDoorScC
import Derived.Test.YtehfmapbodjppaaDoorScG
namespace Go.Proofs.YtehfmapbodjppaaDoor
open Go.RowKit

def dgB (b : UInt8) : Int := (b.toNat : Int) - 48
def dl (l : List UInt8) : List Value := l.map fun b => .int .i64 (dgB b)
def dgL (l : List UInt8) (i : Nat) : Int := dgB (l[i]?.getD 48)
theorem dl_snoc (l : List UInt8) (b : UInt8) : dl (l ++ [b]) = dl l ++ [.int .i64 (dgB b)] := by unfold dl; rw [List.map_append]; rfl
theorem dl_upto (l : List UInt8) : dl l = upto (dgL l) l.length := by
  unfold dl upto
  apply List.ext_getElem
  · simp
  · intro i h1 h2
    have hi : i < l.length := by simpa using h1
    simp [dgL, hi]
theorem own_dl {w : World} {base k : Nat} {v : Value} {l : List UInt8} (h : w.ownsRow base 3 1 v k (dl l)) (hk : l.length = k) : ∃ a c, v = .slice a k c ∧ RowF w a k c (dgL l) ∧ c ≤ 9223372036854775807 ∧ (∀ b off, a = some ⟨b, off, none⟩ → base ≤ b) := by
  rw [dl_upto, hk] at h
  exact row_of_own h

theorem rdigit_any (r : Int) (w : World) :
    Calls Tryd.prog 30 #[.int .u8 r] w fun e w' => e = .returned (.bool (decide (48 ≤ r ∧ r ≤ 57))) ∧ Below w.heap.size w w' := by
  go_enter Tryd.func30, Tryd.ntmps30
  go_wp2_with fail
  all_goals go_ret
  all_goals refine ⟨?_, Below.refl _ _⟩
  all_goals congr 2
  all_goals simp
  all_goals omega

/-- What is read when i bytes are gone. -/
def Rp (s : ByteArray) (a i : Nat) (pt : Bool) (A B : List UInt8) : Prop :=
  goesOn A B (scanB (s.data.toList.drop i) pt) = scanB (s.data.toList.drop a) false ∧ i ≤ s.size ∧ A.length + B.length ≤ i ∧ (∀ b ∈ A ++ B, isD b = true) ∧ (pt = false → B = [])
theorem rp_zero (s : ByteArray) (a : Nat) (h : a ≤ s.size) : Rp s a a false [] [] := ⟨goesOn_nil _, h, Nat.zero_le _, fun _ h => (by simp at h), fun _ => rfl⟩
theorem rp_dig0 {s : ByteArray} {a i : Nat} {A B : List UInt8} (h : Rp s a i false A B) (hi : i < s.size) (hb : isD (s[i]'hi) = true) : Rp s a (i + 1) false (A ++ [s[i]'hi]) B := by
  obtain ⟨h1, h2, h3, h4, h6⟩ := h
  rw [rest_at s i hi, goesOn_dig0 _ _ _ _ hb] at h1
  refine ⟨h1, hi, by simp at h3 ⊢; omega, fun b hx => ?_, h6⟩
  obtain rfl := h6 rfl
  rw [List.append_nil] at hx h4
  rcases List.mem_append.1 hx with hx | hx
  · exact h4 b hx
  · rw [List.mem_singleton] at hx; subst hx; exact hb
theorem rp_dig1 {s : ByteArray} {a i : Nat} {A B : List UInt8} (h : Rp s a i true A B) (hi : i < s.size) (hb : isD (s[i]'hi) = true) : Rp s a (i + 1) true A (B ++ [s[i]'hi]) := by
  obtain ⟨h1, h2, h3, h4, h6⟩ := h
  rw [rest_at s i hi, goesOn_dig1 _ _ _ _ hb] at h1
  refine ⟨h1, hi, by simp at h3 ⊢; omega, fun b hx => ?_, fun z => absurd z (by decide)⟩
  rw [← List.append_assoc] at hx
  rcases List.mem_append.1 hx with hx | hx
  · exact h4 b hx
  · rw [List.mem_singleton] at hx; subst hx; exact hb
theorem rp_point {s : ByteArray} {a i : Nat} {A B : List UInt8} (h : Rp s a i false A B) (hi : i < s.size) (hb : (s[i]'hi).toNat = 46) : Rp s a (i + 1) true A B := by
  obtain ⟨h1, h2, h3, h4, h6⟩ := h
  rw [rest_at s i hi, goesOn_point _ _ _ _ (by rw [isD_iff]; omega) hb] at h1
  exact ⟨h1, hi, by omega, h4, fun z => absurd z (by decide)⟩
theorem rp_stop {s : ByteArray} {a i : Nat} {pt : Bool} {A B : List UInt8} (h : Rp s a i pt A B) (hi : i < s.size) (n1 : ¬ (48 ≤ (s[i]'hi).toNat ∧ (s[i]'hi).toNat ≤ 57)) (n2 : ¬ ((s[i]'hi).toNat = 46 ∧ pt = false)) : scanB (s.data.toList.drop a) false = none := by
  obtain ⟨h1, h2, h3, h4, h6⟩ := h
  rw [rest_at s i hi, goesOn_stop _ _ _ _ _ (by rw [isD_iff]; exact n1) n2] at h1
  exact h1.symm
theorem rp_end {s : ByteArray} {a i : Nat} {pt : Bool} {A B : List UInt8} (h : Rp s a i pt A B) (hi : ¬ i < s.size) : scanB (s.data.toList.drop a) false = some (A, B) := by
  obtain ⟨h1, h2, h3, h4, h6⟩ := h
  rw [List.drop_eq_nil_of_le (by simp; omega), goesOn_end] at h1
  exact h1.symm
def pnI (pt : Bool) (A : List UInt8) : Int := if pt = true then (A.length : Int) else -1
/-- What parts answers. -/
def RetParts (bl : Bool) (r : Option (List UInt8 × List UInt8)) (w : World) (e : Ending) (w' : World) : Prop :=
  Below w.heap.size w w' ∧ ((r = none ∧ e = .returned (.tuple #[.bool false, .slice none 0 0, .int .i64 0, .bool false])) ∨
    ∃ A B k a c, r = some (A, B) ∧ k = A.length + B.length ∧ e = .returned (.tuple #[.bool bl, .slice a k c, .int .i64 B.length, .bool (decide (0 < k))]) ∧ k ≤ 20 ∧ (∀ b ∈ A ++ B, isD b = true) ∧ RowF w' a k c (dgL (A ++ B)) ∧ c ≤ 9223372036854775807)
theorem parts_long (s : ByteArray) (w : World) (h : 20 < s.size) :
    Calls Tryd.prog 22 #[.string s] w fun e w' => e = .returned (.tuple #[.bool false, .slice none 0 0, .int .i64 0, .bool false]) ∧ Below w.heap.size w w' := by
  have hs : (20 : Int) < s.size := by omega
  go_enter Tryd.func22, Tryd.ntmps22
  go_wp2_with fail
  exact bodyPost_ret (v := .tuple #[.bool false, .slice none 0 0, .int .i64 0, .bool false]) (by simp [results, Tryd.results22, go_sem]) rfl ⟨rfl, by (repeat (first | exact Below.refl _ _ | assumption | refine Below.drew ?_ | refine below_drewN ?_ _ | refine Below.setCell ?_ (by first | omega | (simp; done) | (simp; omega)) _ | refine Below.alloc ?_ (by first | omega | (simp; done) | (simp; omega)) _))⟩
theorem parts_empty (s : ByteArray) (w : World) (h : s.size = 0) :
    Calls Tryd.prog 22 #[.string s] w (RetParts false (some ([], [])) w) := by
  have HB := Lib.hid (Below.refl w.heap.size w)
  have hs : ¬ (20 : Int) < s.size := by omega
  have hz1 : ¬ (0 : Int) < s.size := by omega
  have hz2 : decide ((0 : Int) < s.size) = false := decide_eq_false hz1
  go_enter Tryd.func22, Tryd.ntmps22
  go_wp2_with fail
  go_loopw [8, 9, 10] (fun v pn ix wr => v = .slice none 0 0 ∧ pn = .int .i64 (-1) ∧ ix = .int .i64 0 ∧ Below w.heap.size w wr) (fun _ _ _ _ => 0)
  case atStart => exact ⟨rfl, rfl, rfl, HB.out⟩
  case round =>
    obtain ⟨rfl, rfl, rfl, hB⟩ := hrel
    replace HB := Lib.hid hB
    clear hB
    go_wp2_with fail
    refine bodyPost_ret (v := .tuple #[.bool false, .slice none 0 0, .int .i64 ([] : List UInt8).length, .bool (decide (0 < 0))]) (by simp [results, Tryd.results22, go_sem]) rfl ?_
    exact ⟨HB.out, .inr ⟨[], [], 0, none, 0, rfl, rfl, rfl, by omega, fun _ h => (by simp at h), .inl ⟨rfl, rfl, rfl⟩, by omega⟩⟩
set_option maxRecDepth 100000 in
set_option maxHeartbeats 4000000 in
theorem parts_minus (s : ByteArray) (w : World) (h : s.size ≤ 20) (hz : 0 < s.size) (h45 : (s[0]'hz).toNat = 45) :
    Calls Tryd.prog 22 #[.string s] w (RetParts true (scanB (s.data.toList.drop 1) false) w) := by
  have HB := Lib.hid (Below.refl w.heap.size w)
  obtain ⟨T, hT⟩ : ∃ T, scanB (s.data.toList.drop 1) false = T := ⟨_, rfl⟩
  rw [hT]
  have HTT := Lib.hid hT
  clear hT
  have hs : ¬ (20 : Int) < s.size := by omega
  have hz1 : (0 : Int) < s.size := by omega
  have hz2 : decide ((0 : Int) < s.size) = true := decide_eq_true hz1
  have q1 : (((s[0]'hz).toNat : Int) == 45) = true := by rw [beq_iff_eq]; omega
  clear h45
  go_enter Tryd.func22, Tryd.ntmps22
  go_wp2_with fail
  go_loopw [8, 9, 10] (fun v pn ix wr => ∃ (i : Nat) (pt : Bool) (A B : List UInt8), ix = .int .i64 i ∧ Rp s 1 i pt A B ∧ pn = .int .i64 (pnI pt A) ∧ wr.ownsRow w.heap.size 3 1 v (A.length + B.length) (dl (A ++ B)) ∧ Below w.heap.size w wr) (fun _ _ ix _ => s.size - (intOf ix).toNat)
  case atStart => exact ⟨1, false, [], [], rfl, rp_zero s 1 (by omega), rfl, World.ownsRow_nil _ _ _ _, HB.out⟩
  case round =>
    obtain ⟨i, pt, A, B, rfl, hR, rfl, hO, hB⟩ := hrel
    replace HB := Lib.hid hB
    have R := Lib.hid hR
    have hAB := hR.2.2.1
    have hi2 := hR.2.1
    obtain ⟨k, hk⟩ : ∃ k, A.length + B.length = k := ⟨_, rfl⟩
    have HK := Lib.hid hk
    have hk20 : k ≤ 20 := by omega
    rw [hk] at hO
    have HL : Hid ((A ++ B).length = k) := Lib.hid (by rw [List.length_append]; exact hk)
    obtain ⟨a, c, ea, hr, hc, -⟩ := own_dl hO HL.out
    have HR := Lib.hid hr
    have HC := Lib.hid hc
    have HO := Lib.hid hO
    obtain ⟨p, hp⟩ : ∃ p, pnI pt A = p := ⟨_, rfl⟩
    have PE := Lib.hid hp
    rw [hp]
    have EA := Lib.hid ea
    clear hB hR hO hk hp hAB hr hc ea
    by_cases hi : i < s.size
    · have i0 : (0 : Int) ≤ (i : Int) := by omega
      have i1 : (i : Int) < s.size := by omega
      have hn := (s[i]'hi).toNat_lt
      obtain ⟨n, hx⟩ : ∃ n, (s[i]'hi).toNat = n := ⟨_, rfl⟩
      have BE := Lib.hid hx
      rw [hx] at hn
      have C := Lib.hid (fun W => rdigit_any (n : Int) W)
      by_cases hD : 48 ≤ n ∧ n ≤ 57
      · have dg : decide ((48 : Int) ≤ (n : Int) ∧ (n : Int) ≤ 57) = true := decide_eq_true (by omega)
        rw [dg] at C
        have q46 : ((n : Int) == 46) = false := by rw [beq_eq_false_iff_ne]; omega
        have ID : Hid (isD (s[i]'hi) = true) := Lib.hid ((isD_iff _).2 (by rw [hx]; exact hD))
        have w1 : IntKind.i64.wrap (n : Int) = (n : Int) := by rw [IntKind.wrap_i64]; omega
        have w2 : IntKind.i64.wrap ((n : Int) - 48) = (n : Int) - 48 := by rw [IntKind.wrap_i64]; omega
        have GE : Hid (dgB (s[i]'hi) = (n : Int) - 48) := Lib.hid (by unfold dgB; rw [hx])
        clear hD dg
        go_wp2_with fail
        (with_reducible refine (C.out _).mono ?_); rintro e' w2 ⟨rfl, hb⟩
        replace HO := Lib.hid (own_keep HO.out hb)
        replace HB := Lib.hid (HB.out.trans (hb.mono HB.out.size))
        clear hb
        have hkk : k ≤ 1000000 := by omega
        have hbs := HB.out.size
        have hO := HO.out
        go_wp2_with (at_builtin; refine app_int rfl _ _ rfl w.heap.size u8 k _ ((n : Int) - 48) rfl hO rfl hkk hbs ?_)
        intro v' w3 hO3 hB3
        replace HB := Lib.hid (HB.out.trans hB3)
        clear hB3 HO hO
        rw [← GE.out, ← dl_snoc] at hO3
        go_wp2
        go_roundw
        case rel =>
          cases pt with
          | false => exact ⟨i + 1, false, A ++ [s[i]'hi], B, by go_num, rp_dig0 R.out hi ID.out, by rw [← PE.out]; rfl, by
              have hB := R.out.2.2.2.2 rfl
              subst hB
              rw [List.append_nil] at hO3 ⊢
              have e : (A ++ [s[i]'hi]).length + ([] : List UInt8).length = k + 1 := by rw [← HK.out]; simp
              rw [e]; exact hO3, HB.out⟩
          | true => exact ⟨i + 1, true, A, B ++ [s[i]'hi], by go_num, rp_dig1 R.out hi ID.out, by rw [← PE.out], by
              have e : A.length + (B ++ [s[i]'hi]).length = k + 1 := by rw [← HK.out]; simp; omega
              rw [e, ← List.append_assoc]; exact hO3, HB.out⟩
        case measure => simp [intOf]; omega
      · have dg : decide ((48 : Int) ≤ (n : Int) ∧ (n : Int) ≤ 57) = false := decide_eq_false (by omega)
        rw [dg] at C
        by_cases h46 : n = 46
        · subst h46
          cases pt with
          | false =>
            have hp0 : p < 0 := by rw [← PE.out]; unfold pnI; simp
            have hp1 : decide (p < 0) = true := decide_eq_true hp0
            have BN : Hid (B = []) := Lib.hid (R.out.2.2.2.2 rfl)
            have PT : Hid (Rp s 1 (i + 1) true A B) := Lib.hid (rp_point R.out hi (hx))
            obtain rfl := EA.out
            clear dg C
            go_wp2_with fail
            go_roundw
            case rel => exact ⟨i + 1, true, A, B, by go_num, PT.out, by show _ = Value.int .i64 (A.length : Int); rw [← HK.out, BN.out]; simp, by rw [HK.out]; exact HO.out, HB.out⟩
            case measure => simp [intOf]; omega
          | true =>
            have hp0 : ¬ p < 0 := by rw [← PE.out]; unfold pnI; rw [if_pos rfl]; omega
            have hp1 : decide (p < 0) = false := decide_eq_false hp0
            have hD' := Lib.hid hD
            rw [show (((46 : Nat) : Int)) = 46 from rfl] at C
            clear dg hD
            go_wp2_with fail
            (((with_reducible refine (C.out _).mono ?_); rintro e w1 ⟨rfl, hb1⟩); replace HB := Lib.hid (HB.out.trans (hb1.mono HB.out.size)); clear hb1)
            go_wp2_with fail
            have hD := hD'.out
            exact bodyPost_ret (v := .tuple #[.bool false, .slice none 0 0, .int .i64 0, .bool false]) (by simp [results, Tryd.results22, go_sem]) rfl <| show RetParts _ _ _ _ _ from ⟨HB.out, .inl ⟨HTT.out.symm.trans (rp_stop R.out hi (by rw [BE.out]; omega) (by rw [BE.out]; simp)), rfl⟩⟩
        · have q46 : ((n : Int) == 46) = false := by rw [beq_eq_false_iff_ne]; omega
          have hD' := Lib.hid hD
          have h46' := Lib.hid h46
          clear dg hD h46
          go_wp2_with fail
          (((with_reducible refine (C.out _).mono ?_); rintro e w1 ⟨rfl, hb1⟩); replace HB := Lib.hid (HB.out.trans (hb1.mono HB.out.size)); clear hb1)
          go_wp2_with fail
          have hD := hD'.out
          have h46 := h46'.out
          exact bodyPost_ret (v := .tuple #[.bool false, .slice none 0 0, .int .i64 0, .bool false]) (by simp [results, Tryd.results22, go_sem]) rfl <| show RetParts _ _ _ _ _ from ⟨HB.out, .inl ⟨HTT.out.symm.trans (rp_stop R.out hi (by rw [BE.out]; omega) (by rw [BE.out]; simp [h46])), rfl⟩⟩
    · have i1 : ¬ (i : Int) < s.size := by omega
      obtain rfl := EA.out
      have E := Lib.hid (rp_end R.out hi)
      have D := Lib.hid R.out.2.2.2.1
      cases pt with
      | false =>
        have hp0 : p < 0 := by rw [← PE.out]; unfold pnI; simp
        have hp1 : decide (p < 0) = true := decide_eq_true hp0
        have BN : Hid (B = []) := Lib.hid (R.out.2.2.2.2 rfl)
        clear hi2
        go_wp2_with fail
        exact bodyPost_ret (v := .tuple #[.bool true, .slice a k c, .int .i64 B.length, .bool (decide (0 < k))]) (by rw [BN.out]; simp [results, Tryd.results22, go_sem]) rfl <| show RetParts _ _ _ _ _ from ⟨HB.out, .inr ⟨A, B, k, a, c, HTT.out.symm.trans E.out, HK.out.symm, rfl, by omega, D.out, HR.out, HC.out⟩⟩
      | true =>
        have hp0 : ¬ p < 0 := by rw [← PE.out]; unfold pnI; rw [if_pos rfl]; omega
        have hp1 : decide (p < 0) = false := decide_eq_false hp0
        have PB : Hid ((k : Int) - p = (B.length : Int)) := Lib.hid (by rw [← HK.out, ← PE.out]; unfold pnI; rw [if_pos rfl]; omega)
        obtain ⟨q, hq⟩ : ∃ q : Int, (k : Int) - p = q := ⟨_, rfl⟩
        have w1 : IntKind.i64.wrap q = q := by have := PB.out; have := HK.out; rw [IntKind.wrap_i64]; omega
        rw [hq] at PB
        clear hi2
        go_wp2_with fail
        exact bodyPost_ret (v := .tuple #[.bool true, .slice a k c, .int .i64 B.length, .bool (decide (0 < k))]) (by rw [← PB.out]; simp [results, Tryd.results22, go_sem]) rfl <| show RetParts _ _ _ _ _ from ⟨HB.out, .inr ⟨A, B, k, a, c, HTT.out.symm.trans E.out, HK.out.symm, rfl, by omega, D.out, HR.out, HC.out⟩⟩
set_option maxRecDepth 100000 in
set_option maxHeartbeats 4000000 in
theorem parts_plus (s : ByteArray) (w : World) (h : s.size ≤ 20) (hz : 0 < s.size) (h43 : (s[0]'hz).toNat = 43) :
    Calls Tryd.prog 22 #[.string s] w (RetParts false (scanB (s.data.toList.drop 1) false) w) := by
  have HB := Lib.hid (Below.refl w.heap.size w)
  obtain ⟨T, hT⟩ : ∃ T, scanB (s.data.toList.drop 1) false = T := ⟨_, rfl⟩
  rw [hT]
  have HTT := Lib.hid hT
  clear hT
  have hs : ¬ (20 : Int) < s.size := by omega
  have hz1 : (0 : Int) < s.size := by omega
  have hz2 : decide ((0 : Int) < s.size) = true := decide_eq_true hz1
  have q1 : (((s[0]'hz).toNat : Int) == 45) = false := by rw [beq_eq_false_iff_ne]; omega
  have q2 : (((s[0]'hz).toNat : Int) == 43) = true := by rw [beq_iff_eq]; omega
  clear h43
  go_enter Tryd.func22, Tryd.ntmps22
  go_wp2_with fail
  go_loopw [8, 9, 10] (fun v pn ix wr => ∃ (i : Nat) (pt : Bool) (A B : List UInt8), ix = .int .i64 i ∧ Rp s 1 i pt A B ∧ pn = .int .i64 (pnI pt A) ∧ wr.ownsRow w.heap.size 3 1 v (A.length + B.length) (dl (A ++ B)) ∧ Below w.heap.size w wr) (fun _ _ ix _ => s.size - (intOf ix).toNat)
  case atStart => exact ⟨1, false, [], [], rfl, rp_zero s 1 (by omega), rfl, World.ownsRow_nil _ _ _ _, HB.out⟩
  case round =>
    obtain ⟨i, pt, A, B, rfl, hR, rfl, hO, hB⟩ := hrel
    replace HB := Lib.hid hB
    have R := Lib.hid hR
    have hAB := hR.2.2.1
    have hi2 := hR.2.1
    obtain ⟨k, hk⟩ : ∃ k, A.length + B.length = k := ⟨_, rfl⟩
    have HK := Lib.hid hk
    have hk20 : k ≤ 20 := by omega
    rw [hk] at hO
    have HL : Hid ((A ++ B).length = k) := Lib.hid (by rw [List.length_append]; exact hk)
    obtain ⟨a, c, ea, hr, hc, -⟩ := own_dl hO HL.out
    have HR := Lib.hid hr
    have HC := Lib.hid hc
    have HO := Lib.hid hO
    obtain ⟨p, hp⟩ : ∃ p, pnI pt A = p := ⟨_, rfl⟩
    have PE := Lib.hid hp
    rw [hp]
    have EA := Lib.hid ea
    clear hB hR hO hk hp hAB hr hc ea
    by_cases hi : i < s.size
    · have i0 : (0 : Int) ≤ (i : Int) := by omega
      have i1 : (i : Int) < s.size := by omega
      have hn := (s[i]'hi).toNat_lt
      obtain ⟨n, hx⟩ : ∃ n, (s[i]'hi).toNat = n := ⟨_, rfl⟩
      have BE := Lib.hid hx
      rw [hx] at hn
      have C := Lib.hid (fun W => rdigit_any (n : Int) W)
      by_cases hD : 48 ≤ n ∧ n ≤ 57
      · have dg : decide ((48 : Int) ≤ (n : Int) ∧ (n : Int) ≤ 57) = true := decide_eq_true (by omega)
        rw [dg] at C
        have q46 : ((n : Int) == 46) = false := by rw [beq_eq_false_iff_ne]; omega
        have ID : Hid (isD (s[i]'hi) = true) := Lib.hid ((isD_iff _).2 (by rw [hx]; exact hD))
        have w1 : IntKind.i64.wrap (n : Int) = (n : Int) := by rw [IntKind.wrap_i64]; omega
        have w2 : IntKind.i64.wrap ((n : Int) - 48) = (n : Int) - 48 := by rw [IntKind.wrap_i64]; omega
        have GE : Hid (dgB (s[i]'hi) = (n : Int) - 48) := Lib.hid (by unfold dgB; rw [hx])
        clear hD dg
        go_wp2_with fail
        (with_reducible refine (C.out _).mono ?_); rintro e' w2 ⟨rfl, hb⟩
        replace HO := Lib.hid (own_keep HO.out hb)
        replace HB := Lib.hid (HB.out.trans (hb.mono HB.out.size))
        clear hb
        have hkk : k ≤ 1000000 := by omega
        have hbs := HB.out.size
        have hO := HO.out
        go_wp2_with (at_builtin; refine app_int rfl _ _ rfl w.heap.size u8 k _ ((n : Int) - 48) rfl hO rfl hkk hbs ?_)
        intro v' w3 hO3 hB3
        replace HB := Lib.hid (HB.out.trans hB3)
        clear hB3 HO hO
        rw [← GE.out, ← dl_snoc] at hO3
        go_wp2
        go_roundw
        case rel =>
          cases pt with
          | false => exact ⟨i + 1, false, A ++ [s[i]'hi], B, by go_num, rp_dig0 R.out hi ID.out, by rw [← PE.out]; rfl, by
              have hB := R.out.2.2.2.2 rfl
              subst hB
              rw [List.append_nil] at hO3 ⊢
              have e : (A ++ [s[i]'hi]).length + ([] : List UInt8).length = k + 1 := by rw [← HK.out]; simp
              rw [e]; exact hO3, HB.out⟩
          | true => exact ⟨i + 1, true, A, B ++ [s[i]'hi], by go_num, rp_dig1 R.out hi ID.out, by rw [← PE.out], by
              have e : A.length + (B ++ [s[i]'hi]).length = k + 1 := by rw [← HK.out]; simp; omega
              rw [e, ← List.append_assoc]; exact hO3, HB.out⟩
        case measure => simp [intOf]; omega
      · have dg : decide ((48 : Int) ≤ (n : Int) ∧ (n : Int) ≤ 57) = false := decide_eq_false (by omega)
        rw [dg] at C
        by_cases h46 : n = 46
        · subst h46
          cases pt with
          | false =>
            have hp0 : p < 0 := by rw [← PE.out]; unfold pnI; simp
            have hp1 : decide (p < 0) = true := decide_eq_true hp0
            have BN : Hid (B = []) := Lib.hid (R.out.2.2.2.2 rfl)
            have PT : Hid (Rp s 1 (i + 1) true A B) := Lib.hid (rp_point R.out hi (hx))
            obtain rfl := EA.out
            clear dg C
            go_wp2_with fail
            go_roundw
            case rel => exact ⟨i + 1, true, A, B, by go_num, PT.out, by show _ = Value.int .i64 (A.length : Int); rw [← HK.out, BN.out]; simp, by rw [HK.out]; exact HO.out, HB.out⟩
            case measure => simp [intOf]; omega
          | true =>
            have hp0 : ¬ p < 0 := by rw [← PE.out]; unfold pnI; rw [if_pos rfl]; omega
            have hp1 : decide (p < 0) = false := decide_eq_false hp0
            have hD' := Lib.hid hD
            rw [show (((46 : Nat) : Int)) = 46 from rfl] at C
            clear dg hD
            go_wp2_with fail
            (((with_reducible refine (C.out _).mono ?_); rintro e w1 ⟨rfl, hb1⟩); replace HB := Lib.hid (HB.out.trans (hb1.mono HB.out.size)); clear hb1)
            go_wp2_with fail
            have hD := hD'.out
            exact bodyPost_ret (v := .tuple #[.bool false, .slice none 0 0, .int .i64 0, .bool false]) (by simp [results, Tryd.results22, go_sem]) rfl <| show RetParts _ _ _ _ _ from ⟨HB.out, .inl ⟨HTT.out.symm.trans (rp_stop R.out hi (by rw [BE.out]; omega) (by rw [BE.out]; simp)), rfl⟩⟩
        · have q46 : ((n : Int) == 46) = false := by rw [beq_eq_false_iff_ne]; omega
          have hD' := Lib.hid hD
          have h46' := Lib.hid h46
          clear dg hD h46
          go_wp2_with fail
          (((with_reducible refine (C.out _).mono ?_); rintro e w1 ⟨rfl, hb1⟩); replace HB := Lib.hid (HB.out.trans (hb1.mono HB.out.size)); clear hb1)
          go_wp2_with fail
          have hD := hD'.out
          have h46 := h46'.out
          exact bodyPost_ret (v := .tuple #[.bool false, .slice none 0 0, .int .i64 0, .bool false]) (by simp [results, Tryd.results22, go_sem]) rfl <| show RetParts _ _ _ _ _ from ⟨HB.out, .inl ⟨HTT.out.symm.trans (rp_stop R.out hi (by rw [BE.out]; omega) (by rw [BE.out]; simp [h46])), rfl⟩⟩
    · have i1 : ¬ (i : Int) < s.size := by omega
      obtain rfl := EA.out
      have E := Lib.hid (rp_end R.out hi)
      have D := Lib.hid R.out.2.2.2.1
      cases pt with
      | false =>
        have hp0 : p < 0 := by rw [← PE.out]; unfold pnI; simp
        have hp1 : decide (p < 0) = true := decide_eq_true hp0
        have BN : Hid (B = []) := Lib.hid (R.out.2.2.2.2 rfl)
        clear hi2
        go_wp2_with fail
        exact bodyPost_ret (v := .tuple #[.bool false, .slice a k c, .int .i64 B.length, .bool (decide (0 < k))]) (by rw [BN.out]; simp [results, Tryd.results22, go_sem]) rfl <| show RetParts _ _ _ _ _ from ⟨HB.out, .inr ⟨A, B, k, a, c, HTT.out.symm.trans E.out, HK.out.symm, rfl, by omega, D.out, HR.out, HC.out⟩⟩
      | true =>
        have hp0 : ¬ p < 0 := by rw [← PE.out]; unfold pnI; rw [if_pos rfl]; omega
        have hp1 : decide (p < 0) = false := decide_eq_false hp0
        have PB : Hid ((k : Int) - p = (B.length : Int)) := Lib.hid (by rw [← HK.out, ← PE.out]; unfold pnI; rw [if_pos rfl]; omega)
        obtain ⟨q, hq⟩ : ∃ q : Int, (k : Int) - p = q := ⟨_, rfl⟩
        have w1 : IntKind.i64.wrap q = q := by have := PB.out; have := HK.out; rw [IntKind.wrap_i64]; omega
        rw [hq] at PB
        clear hi2
        go_wp2_with fail
        exact bodyPost_ret (v := .tuple #[.bool false, .slice a k c, .int .i64 B.length, .bool (decide (0 < k))]) (by rw [← PB.out]; simp [results, Tryd.results22, go_sem]) rfl <| show RetParts _ _ _ _ _ from ⟨HB.out, .inr ⟨A, B, k, a, c, HTT.out.symm.trans E.out, HK.out.symm, rfl, by omega, D.out, HR.out, HC.out⟩⟩
set_option maxRecDepth 100000 in
set_option maxHeartbeats 4000000 in
theorem parts_plain (s : ByteArray) (w : World) (h : s.size ≤ 20) (hz : 0 < s.size) (h45 : ¬ (s[0]'hz).toNat = 45) (h43 : ¬ (s[0]'hz).toNat = 43) :
    Calls Tryd.prog 22 #[.string s] w (RetParts false (scanB (s.data.toList.drop 0) false) w) := by
  have HB := Lib.hid (Below.refl w.heap.size w)
  obtain ⟨T, hT⟩ : ∃ T, scanB (s.data.toList.drop 0) false = T := ⟨_, rfl⟩
  rw [hT]
  have HTT := Lib.hid hT
  clear hT
  have hs : ¬ (20 : Int) < s.size := by omega
  have hz1 : (0 : Int) < s.size := by omega
  have hz2 : decide ((0 : Int) < s.size) = true := decide_eq_true hz1
  have q1 : (((s[0]'hz).toNat : Int) == 45) = false := by rw [beq_eq_false_iff_ne]; omega
  have q2 : (((s[0]'hz).toNat : Int) == 43) = false := by rw [beq_eq_false_iff_ne]; omega
  clear h43 h45
  go_enter Tryd.func22, Tryd.ntmps22
  go_wp2_with fail
  go_loopw [8, 9, 10] (fun v pn ix wr => ∃ (i : Nat) (pt : Bool) (A B : List UInt8), ix = .int .i64 i ∧ Rp s 0 i pt A B ∧ pn = .int .i64 (pnI pt A) ∧ wr.ownsRow w.heap.size 3 1 v (A.length + B.length) (dl (A ++ B)) ∧ Below w.heap.size w wr) (fun _ _ ix _ => s.size - (intOf ix).toNat)
  case atStart => exact ⟨0, false, [], [], rfl, rp_zero s 0 (by omega), rfl, World.ownsRow_nil _ _ _ _, HB.out⟩
  case round =>
    obtain ⟨i, pt, A, B, rfl, hR, rfl, hO, hB⟩ := hrel
    replace HB := Lib.hid hB
    have R := Lib.hid hR
    have hAB := hR.2.2.1
    have hi2 := hR.2.1
    obtain ⟨k, hk⟩ : ∃ k, A.length + B.length = k := ⟨_, rfl⟩
    have HK := Lib.hid hk
    have hk20 : k ≤ 20 := by omega
    rw [hk] at hO
    have HL : Hid ((A ++ B).length = k) := Lib.hid (by rw [List.length_append]; exact hk)
    obtain ⟨a, c, ea, hr, hc, -⟩ := own_dl hO HL.out
    have HR := Lib.hid hr
    have HC := Lib.hid hc
    have HO := Lib.hid hO
    obtain ⟨p, hp⟩ : ∃ p, pnI pt A = p := ⟨_, rfl⟩
    have PE := Lib.hid hp
    rw [hp]
    have EA := Lib.hid ea
    clear hB hR hO hk hp hAB hr hc ea
    by_cases hi : i < s.size
    · have i0 : (0 : Int) ≤ (i : Int) := by omega
      have i1 : (i : Int) < s.size := by omega
      have hn := (s[i]'hi).toNat_lt
      obtain ⟨n, hx⟩ : ∃ n, (s[i]'hi).toNat = n := ⟨_, rfl⟩
      have BE := Lib.hid hx
      rw [hx] at hn
      have C := Lib.hid (fun W => rdigit_any (n : Int) W)
      by_cases hD : 48 ≤ n ∧ n ≤ 57
      · have dg : decide ((48 : Int) ≤ (n : Int) ∧ (n : Int) ≤ 57) = true := decide_eq_true (by omega)
        rw [dg] at C
        have q46 : ((n : Int) == 46) = false := by rw [beq_eq_false_iff_ne]; omega
        have ID : Hid (isD (s[i]'hi) = true) := Lib.hid ((isD_iff _).2 (by rw [hx]; exact hD))
        have w1 : IntKind.i64.wrap (n : Int) = (n : Int) := by rw [IntKind.wrap_i64]; omega
        have w2 : IntKind.i64.wrap ((n : Int) - 48) = (n : Int) - 48 := by rw [IntKind.wrap_i64]; omega
        have GE : Hid (dgB (s[i]'hi) = (n : Int) - 48) := Lib.hid (by unfold dgB; rw [hx])
        clear hD dg
        go_wp2_with fail
        (with_reducible refine (C.out _).mono ?_); rintro e' w2 ⟨rfl, hb⟩
        replace HO := Lib.hid (own_keep HO.out hb)
        replace HB := Lib.hid (HB.out.trans (hb.mono HB.out.size))
        clear hb
        have hkk : k ≤ 1000000 := by omega
        have hbs := HB.out.size
        have hO := HO.out
        go_wp2_with (at_builtin; refine app_int rfl _ _ rfl w.heap.size u8 k _ ((n : Int) - 48) rfl hO rfl hkk hbs ?_)
        intro v' w3 hO3 hB3
        replace HB := Lib.hid (HB.out.trans hB3)
        clear hB3 HO hO
        rw [← GE.out, ← dl_snoc] at hO3
        go_wp2
        go_roundw
        case rel =>
          cases pt with
          | false => exact ⟨i + 1, false, A ++ [s[i]'hi], B, by go_num, rp_dig0 R.out hi ID.out, by rw [← PE.out]; rfl, by
              have hB := R.out.2.2.2.2 rfl
              subst hB
              rw [List.append_nil] at hO3 ⊢
              have e : (A ++ [s[i]'hi]).length + ([] : List UInt8).length = k + 1 := by rw [← HK.out]; simp
              rw [e]; exact hO3, HB.out⟩
          | true => exact ⟨i + 1, true, A, B ++ [s[i]'hi], by go_num, rp_dig1 R.out hi ID.out, by rw [← PE.out], by
              have e : A.length + (B ++ [s[i]'hi]).length = k + 1 := by rw [← HK.out]; simp; omega
              rw [e, ← List.append_assoc]; exact hO3, HB.out⟩
        case measure => simp [intOf]; omega
      · have dg : decide ((48 : Int) ≤ (n : Int) ∧ (n : Int) ≤ 57) = false := decide_eq_false (by omega)
        rw [dg] at C
        by_cases h46 : n = 46
        · subst h46
          cases pt with
          | false =>
            have hp0 : p < 0 := by rw [← PE.out]; unfold pnI; simp
            have hp1 : decide (p < 0) = true := decide_eq_true hp0
            have BN : Hid (B = []) := Lib.hid (R.out.2.2.2.2 rfl)
            have PT : Hid (Rp s 0 (i + 1) true A B) := Lib.hid (rp_point R.out hi (hx))
            obtain rfl := EA.out
            clear dg C
            go_wp2_with fail
            go_roundw
            case rel => exact ⟨i + 1, true, A, B, by go_num, PT.out, by show _ = Value.int .i64 (A.length : Int); rw [← HK.out, BN.out]; simp, by rw [HK.out]; exact HO.out, HB.out⟩
            case measure => simp [intOf]; omega
          | true =>
            have hp0 : ¬ p < 0 := by rw [← PE.out]; unfold pnI; rw [if_pos rfl]; omega
            have hp1 : decide (p < 0) = false := decide_eq_false hp0
            have hD' := Lib.hid hD
            rw [show (((46 : Nat) : Int)) = 46 from rfl] at C
            clear dg hD
            go_wp2_with fail
            (((with_reducible refine (C.out _).mono ?_); rintro e w1 ⟨rfl, hb1⟩); replace HB := Lib.hid (HB.out.trans (hb1.mono HB.out.size)); clear hb1)
            go_wp2_with fail
            have hD := hD'.out
            exact bodyPost_ret (v := .tuple #[.bool false, .slice none 0 0, .int .i64 0, .bool false]) (by simp [results, Tryd.results22, go_sem]) rfl <| show RetParts _ _ _ _ _ from ⟨HB.out, .inl ⟨HTT.out.symm.trans (rp_stop R.out hi (by rw [BE.out]; omega) (by rw [BE.out]; simp)), rfl⟩⟩
        · have q46 : ((n : Int) == 46) = false := by rw [beq_eq_false_iff_ne]; omega
          have hD' := Lib.hid hD
          have h46' := Lib.hid h46
          clear dg hD h46
          go_wp2_with fail
          (((with_reducible refine (C.out _).mono ?_); rintro e w1 ⟨rfl, hb1⟩); replace HB := Lib.hid (HB.out.trans (hb1.mono HB.out.size)); clear hb1)
          go_wp2_with fail
          have hD := hD'.out
          have h46 := h46'.out
          exact bodyPost_ret (v := .tuple #[.bool false, .slice none 0 0, .int .i64 0, .bool false]) (by simp [results, Tryd.results22, go_sem]) rfl <| show RetParts _ _ _ _ _ from ⟨HB.out, .inl ⟨HTT.out.symm.trans (rp_stop R.out hi (by rw [BE.out]; omega) (by rw [BE.out]; simp [h46])), rfl⟩⟩
    · have i1 : ¬ (i : Int) < s.size := by omega
      obtain rfl := EA.out
      have E := Lib.hid (rp_end R.out hi)
      have D := Lib.hid R.out.2.2.2.1
      cases pt with
      | false =>
        have hp0 : p < 0 := by rw [← PE.out]; unfold pnI; simp
        have hp1 : decide (p < 0) = true := decide_eq_true hp0
        have BN : Hid (B = []) := Lib.hid (R.out.2.2.2.2 rfl)
        clear hi2
        go_wp2_with fail
        exact bodyPost_ret (v := .tuple #[.bool false, .slice a k c, .int .i64 B.length, .bool (decide (0 < k))]) (by rw [BN.out]; simp [results, Tryd.results22, go_sem]) rfl <| show RetParts _ _ _ _ _ from ⟨HB.out, .inr ⟨A, B, k, a, c, HTT.out.symm.trans E.out, HK.out.symm, rfl, by omega, D.out, HR.out, HC.out⟩⟩
      | true =>
        have hp0 : ¬ p < 0 := by rw [← PE.out]; unfold pnI; rw [if_pos rfl]; omega
        have hp1 : decide (p < 0) = false := decide_eq_false hp0
        have PB : Hid ((k : Int) - p = (B.length : Int)) := Lib.hid (by rw [← HK.out, ← PE.out]; unfold pnI; rw [if_pos rfl]; omega)
        obtain ⟨q, hq⟩ : ∃ q : Int, (k : Int) - p = q := ⟨_, rfl⟩
        have w1 : IntKind.i64.wrap q = q := by have := PB.out; have := HK.out; rw [IntKind.wrap_i64]; omega
        rw [hq] at PB
        clear hi2
        go_wp2_with fail
        exact bodyPost_ret (v := .tuple #[.bool false, .slice a k c, .int .i64 B.length, .bool (decide (0 < k))]) (by rw [← PB.out]; simp [results, Tryd.results22, go_sem]) rfl <| show RetParts _ _ _ _ _ from ⟨HB.out, .inr ⟨A, B, k, a, c, HTT.out.symm.trans E.out, HK.out.symm, rfl, by omega, D.out, HR.out, HC.out⟩⟩
end Go.Proofs.YtehfmapbodjppaaDoor
