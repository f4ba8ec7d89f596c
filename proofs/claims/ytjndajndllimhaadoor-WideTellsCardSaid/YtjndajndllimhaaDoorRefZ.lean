/-
  The reference's Text: its walk.
-/
import Derived.Test.YtjndajndllimhaaDoorRefY
import Derived.Laws.IdiomStrings
namespace Go.Proofs.YtjndajndllimhaaDoor
open Go.RowKit

theorem txt_num {hi lo : Int} (h : Rt hi lo) : txtS hi lo = if hi * 1000000000000000000 + lo < 0 then 45 :: Lib.decDigits (hi * 1000000000000000000 + lo).natAbs else Lib.decDigits (hi * 1000000000000000000 + lo).natAbs := by
  obtain ⟨b1, b2, b3, b4⟩ := h
  unfold txtS
  by_cases k : hi < 0
  · rw [if_pos k, if_pos (by omega), dgS_dec _ _ (by unfold ngL; omega)]
    congr 2
    unfold ngH ngL; omega
  · rw [if_neg k, if_neg (by omega), dgS_dec _ _ (by omega)]
    congr 1
    omega
theorem rtext_arg (hi lo : Int) (w : World) (h : ¬ Rt hi lo) :
    Calls Tryd.prog 23 #[.agg #[.int .i64 hi, .int .i64 lo]] w fun e w' => e = .returned (.string ⟨#[]⟩) ∧ Below w.heap.size w w' := by
  have H := Lib.hid h
  clear h
  go_enter Tryd.func23, Tryd.ntmps23
  go_upto_region 1 with fail
  have hb0 := below_new1 w (.cells #[.int .i64 hi, .int .i64 lo] 24)
  have z0 : (w.alloc (.cells #[.int .i64 hi, .int .i64 lo] 24)).heap.size = w.heap.size + 1 := by simp
  have HB := Lib.hid hb0
  have k0 := Lib.hid (Lok.new w 24 #[.int .i64 hi, .int .i64 lo])
  clear hb0
  generalize w.alloc (.cells #[.int .i64 hi, .int .i64 lo] 24) = V0 at *
  clear z0
  have p0 := k0.out.cell (i := 0) rfl
  have p1 := k0.out.cell (i := 1) rfl
  go_wp2_with fail
  (((with_reducible refine (ris_no hi lo _ H.out).mono ?_); rintro e w1 ⟨rfl, hb1⟩); replace HB := Lib.hid (HB.out.trans (hb1.mono HB.out.size)); clear hb1)
  go_wp2
  go_ret
  exact ⟨rfl, HB.out⟩

set_option maxRecDepth 100000 in
set_option maxHeartbeats 2000000 in
theorem rtext_ok (hi lo : Int) (w : World) (h : Rt hi lo) :
    Calls Tryd.prog 23 #[.agg #[.int .i64 hi, .int .i64 lo]] w fun e w' => e = .returned (.string ⟨(txtS hi lo).toArray⟩) ∧ Below w.heap.size w w' := by
  have NN := Lib.hid (fun W => number_any hi lo W h)
  have I := Lib.hid (fun W => ris_yes hi lo W h)
  have SN := Lib.hid (show Small (hi * 1000000000000000000 + lo) from small_of (by unfold Rt at h; omega))
  have HH := Lib.hid h
  clear h
  have HN := Lib.hid (rfl : hi * 1000000000000000000 + lo = hi * 1000000000000000000 + lo)
  go_enter Tryd.func23, Tryd.ntmps23
  go_upto_region 1 with fail
  have hb0 := below_new1 w (.cells #[.int .i64 hi, .int .i64 lo] 24)
  have z0 : (w.alloc (.cells #[.int .i64 hi, .int .i64 lo] 24)).heap.size = w.heap.size + 1 := by simp
  have HB := Lib.hid hb0
  have k0 := Lib.hid (Lok.new w 24 #[.int .i64 hi, .int .i64 lo])
  clear hb0
  generalize w.alloc (.cells #[.int .i64 hi, .int .i64 lo] 24) = V0 at *
  clear z0
  have p0 := k0.out.cell (i := 0) rfl
  have p1 := k0.out.cell (i := 1) rfl
  go_wp2_with fail
  clear p0 p1
  (((with_reducible refine (I.out _).mono ?_); rintro e w1 ⟨rfl, hb1⟩); replace HB := Lib.hid (HB.out.trans (hb1.mono HB.out.size)); replace k0 := Lib.hid (k0.out.keep hb1); clear hb1)
  have p0 := k0.out.cell (i := 0) rfl
  have p1 := k0.out.cell (i := 1) rfl
  go_wp2_with fail
  clear p0 p1
  ((with_reducible refine (NN.out _).mono ?_); rintro e w3 ⟨hb3, v3, rfl, q3⟩)
  replace HB := Lib.hid (HB.out.trans (hb3.mono HB.out.size))
  replace k0 := Lib.hid (k0.out.keep hb3)
  obtain ⟨s3, a3, n3, c3, rfl⟩ := num_open q3
  have Q3 := Lib.hid q3
  clear hb3 q3
  have hn3 := num_le Q3.out SN.out
  go_wp2_with fail
  skip
  have hb3 := below_new1 w3 (.cells #[.bool s3, .slice a3 n3 c3] 51)
  replace HB := Lib.hid (HB.out.trans (hb3.mono HB.out.size))
  replace k0 := Lib.hid (k0.out.keep hb3)
  replace Q3 := Lib.hid (Q3.out.keep hb3)
  have k3 := Lib.hid (Lok.new w3 51 #[.bool s3, .slice a3 n3 c3])
  clear hb3
  generalize w3.alloc (.cells #[.bool s3, .slice a3 n3 c3] 51) = V3 at *
  generalize w3.heap.size = g3 at *
  obtain ⟨a', m, c', D, e, ra, hc, da, ta, ea⟩ := Q3.out
  cases e
  have RA := Lib.hid ra
  have DA := Lib.hid da
  have TA := Lib.hid ta
  have EA := Lib.hid ea
  clear ra da ta ea Q3
  go_loopw [4, 5] (fun x i wr => ∃ k : Nat, k ≤ n3 ∧ i = .int .i64 k ∧ (∃ S : ByteArray, x = .string S ∧ S.size ≤ k ∧ Hid (S = ⟨(tx D k).toArray⟩)) ∧ Below V3.heap.size V3 wr) (fun _ i _ => n3 - (intOf i).toNat)
  case atStart => exact ⟨0, Nat.zero_le _, rfl, ⟨_, rfl, by decide, Lib.hid rfl⟩, Below.refl _ _⟩
  case round =>
    obtain ⟨k, hk, rfl, ⟨S, rfl, hS, HS⟩, hB⟩ := hrel
    replace HB := Lib.hid (HB.out.trans (hB.mono HB.out.size))
    replace k3 := Lib.hid (k3.out.keep hB)
    have RB := Lib.hid (RA.out.keep hB)
    have HR := Lib.hid hB
    have hz := hB.size
    clear hB
    have p0 := k3.out.cell (i := 0) rfl
    have p1 := k3.out.cell (i := 1) rfl
    by_cases hlt : k < n3
    · obtain ⟨b, off, rfl, hlb, hcell⟩ := RB.out.at hlt
      have hc' := hcell k hlt
      have hd := DA.out k hlt
      have HX := Lib.hid (show tx D (k + 1) = UInt8.ofNat (48 + (D k).toNat) :: tx D k from rfl)
      obtain ⟨d, ed⟩ : ∃ d : Nat, D k = (d : Int) := ⟨(D k).toNat, by omega⟩
      rw [ed] at hc' hd HX
      have hd9 : d ≤ 9 := by omega
      clear hcell ed hd
      have hv := run_convert_bytes_back (P := Tryd.prog) (wr.alloc (.cells #[.int .u8 (48 + (d : Int))] 5)) 60 9 5 ⟨wr.heap.size, 0, none⟩ 1 [UInt8.ofNat (48 + d)] Tryd.underlying60 Tryd.underlying5 Tryd.underlying9 (fun j hj => by
        obtain rfl : j = 0 := by simpa using hj
        simp [Addr.add]
        omega)
      simp only [List.length_singleton] at hv
      obtain ⟨B1, hB1⟩ : ∃ B1 : ByteArray, (⟨#[UInt8.ofNat (48 + d)]⟩ : ByteArray) = B1 := ⟨_, rfl⟩
      have hb1 : B1.size = 1 := by rw [← hB1]; rfl
      have hb2 : B1.size ≤ 1 := by omega
      have hsum : (B1 ++ S).size ≤ k + 1 := by rw [ByteArray.size_append]; omega
      rw [show ([UInt8.ofNat (48 + d)].toArray : Array UInt8) = #[UInt8.ofNat (48 + d)] from rfl, hB1] at hv
      have HB1 := Lib.hid hB1
      have HSUM := Lib.hid hsum
      clear hB1 hb1 hsum
      go_wp2
      go_roundw
      case rel => exact ⟨k + 1, hlt, by go_num, ⟨_, rfl, HSUM.out, Lib.hid (by rw [HX.out, HS.out, ← HB1.out, show (⟨#[UInt8.ofNat (48 + d)]⟩ : ByteArray) = ⟨[UInt8.ofNat (48 + d)].toArray⟩ from rfl, str_add]; simp)⟩, HR.out.alloc hz _⟩
      case measure => simp [intOf]; omega
    · obtain rfl : n3 = k := by omega
      have TX := Lib.hid (txt_num HH.out)
      clear HR hz RB
      generalize hi * 1000000000000000000 + lo = N at *
      rcases Nat.eq_zero_or_pos n3 with z | z
      · subst z
        have hN : N = 0 := by have e := EA.out; have : vs D 0 0 = 0 := rfl; omega
        subst hN
        go_wp2
        go_ret
        have e0 : txtS hi lo = [48] := by rw [TX.out, if_neg (by omega)]; exact Lib.decDigits_one (by decide)
        exact ⟨by rw [e0]; rfl, HB.out⟩
      · have e : tx D n3 = Lib.decDigits N.natAbs := by
          obtain ⟨m, em⟩ : ∃ m, n3 = m + 1 := ⟨n3 - 1, by omega⟩
          have d := DA.out
          have q := TA.out
          have v := EA.out
          rw [em] at d q v ⊢
          rw [tx_dec m D d (by rcases q with q | q; omega; simpa using q), v]; simp
        have ES : Hid (S = ⟨(Lib.decDigits N.natAbs).toArray⟩) := Lib.hid (by rw [HS.out, e])
        have nz2 : ((n3 : Int) == 0) = false := by rw [beq_eq_false_iff_ne]; omega
        have nz3 : ¬ n3 = 0 := by omega
        have hS2 : S.size ≤ 100 := by omega
        clear e z hlt
        by_cases hs : N < 0
        · have ds : decide (N < 0) = true := decide_eq_true hs
          rw [ds] at p0
          have TX2 := Lib.hid (show txtS hi lo = 45 :: Lib.decDigits N.natAbs by rw [TX.out, if_pos hs])
          clear hs ds TX
          go_wp2
          go_ret
          exact ⟨by rw [TX2.out, ES.out, show (⟨#[45]⟩ : ByteArray) = ⟨[(45 : UInt8)].toArray⟩ from rfl, str_add]; rfl, HB.out⟩
        · have ds : decide (N < 0) = false := decide_eq_false hs
          rw [ds] at p0
          have TX2 := Lib.hid (show txtS hi lo = Lib.decDigits N.natAbs by rw [TX.out, if_neg hs])
          clear hs ds TX
          go_wp2
          go_ret
          exact ⟨by rw [TX2.out, ES.out]; rfl, HB.out⟩
end Go.Proofs.YtjndajndllimhaaDoor
