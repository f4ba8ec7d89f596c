/-
  The reference of layer 5: Parse.
-/
import Derived.Test.YtehfmapbodjppaaDoorScRA
import Derived.Test.YtehfmapbodjppaaDoorScRP
import Derived.Test.YtehfmapbodjppaaDoorScPureC
import Derived.Test.YtehfmapbodjppaaDoorRefN
import Derived.Test.YtehfmapbodjppaaDoorRel
namespace Go.Proofs.YtehfmapbodjppaaDoor
open Go.RowKit
open Go.BigFrame

theorem noInt_num {W : World} {g : Nat} {x : Bool} {p : Option Addr} {q r : Nat} (h : Lok W g 50 #[.bool x, .slice p q r]) : NoInt W g := fun k v e => by
  unfold Lok at h
  simp [World.cell?, h] at e
  rcases k with _ | _ | k <;> simp at e
theorem noInt_set0 {W : World} {g : Nat} {x : Bool} {p : Option Addr} {q r : Nat} (h : Lok W g 50 #[.bool x, .slice p q r]) (z : Bool) : NoInt (W.setCell ⟨g, 0, none⟩ (.bool z)) g := (noInt_num h).set (fun _ e => by cases e) ⟨_, h.cell (i := 0) rfl⟩
def CellIs (W : World) (p : Addr) (v : Value) : Prop := W.cell? p = some v
theorem CellIs.keep {W W' : World} {p : Addr} {v : Value} (h : CellIs W p v) (hb : Below W.heap.size W W') : CellIs W' p v := keepc hb h

theorem parts_all (s : ByteArray) : ∃ (bl : Bool) (t : Option (List UInt8 × List UInt8)), parseS s.data.toList = ansB bl t ∧ ∀ w, Calls Tryd.prog 22 #[.string s] w (RetParts bl t w) := by
  have hl : s.data.toList.length = s.size := by simp
  by_cases h : 20 < s.size
  · refine ⟨false, none, ?_, fun w => (parts_long s w h).mono fun e w' ⟨h1, h2⟩ => ⟨h2, .inl ⟨rfl, h1⟩⟩⟩
    unfold parseS; rw [if_pos (by omega)]; rfl
  · by_cases h0 : s.size = 0
    · refine ⟨false, some ([], []), ?_, fun w => parts_empty s w h0⟩
      have : s.data.toList = [] := List.length_eq_zero_iff.1 (by omega)
      rw [this]; rfl
    · have hz : 0 < s.size := by omega
      have e := rest_at s 0 hz
      rw [List.drop_zero] at e
      have hl2 : (s.data.toList.drop 1).length ≤ 19 := by rw [List.length_drop]; omega
      by_cases h45 : (s[0]'hz).toNat = 45
      · refine ⟨true, _, ?_, fun w => parts_minus s w (by omega) hz h45⟩
        rw [e, show s[0]'hz = 45 from UInt8.toNat_inj.1 h45]
        exact parse_minus _ hl2
      · by_cases h43 : (s[0]'hz).toNat = 43
        · refine ⟨false, _, ?_, fun w => parts_plus s w (by omega) hz h43⟩
          rw [e, show s[0]'hz = 43 from UInt8.toNat_inj.1 h43]
          exact parse_plus _ hl2
        · refine ⟨false, _, ?_, fun w => parts_plain s w (by omega) hz h45 h43⟩
          try rw [List.drop_zero]
          refine parse_plain _ (by omega) (fun b t q => ?_)
          rw [e] at q
          injection q with q _
          subst q
          exact ⟨h45, h43⟩
theorem val_take (L : List UInt8) (hd : ∀ b ∈ L, isD b = true) (i : Nat) (hi : i < L.length) : ((valD (L.take (i + 1)) : Nat) : Int) = (valD (L.take i) : Nat) * 10 + dgL L i ∧ 0 ≤ dgL L i ∧ dgL L i ≤ 9 := by
  have hb := (isD_iff _).1 (hd _ (List.getElem_mem hi))
  rw [List.take_succ_eq_append_getElem hi, valD_snoc]
  have e : dgL L i = ((L[i]'hi).toNat : Int) - 48 := by unfold dgL dgB; rw [List.getElem?_eq_getElem hi]; rfl
  rw [e]
  omega
theorem val_20 (L : List UInt8) (hd : ∀ b ∈ L, isD b = true) (hl : L.length ≤ 20) (i : Nat) : valD (L.take i) < 100000000000000000000 := by
  have h1 := valD_lt (L.take i) (fun b hb => hd b (List.mem_of_mem_take hb))
  have h2 : 10 ^ (L.take i).length ≤ 10 ^ 20 := Nat.pow_le_pow_right (by decide) (by rw [List.length_take]; omega)
  have h3 : (10 : Nat) ^ 20 = 100000000000000000000 := by decide +kernel
  omega

set_option maxRecDepth 100000 in
set_option maxHeartbeats 8000000 in
theorem rparse_any (s : ByteArray) (w : World) :
    Calls Tryd.prog 10 #[.string s] w fun e w' => e = retP (parseS s.data.toList) ∧ Below w.heap.size w w' := by
  obtain ⟨bl, t, ht, cc⟩ := parts_all s
  rw [ht]
  have C := Lib.hid cc
  have HB := Lib.hid (Below.refl w.heap.size w)
  clear cc ht
  go_enter Tryd.func10, Tryd.ntmps10
  go_wp2_with fail
  (with_reducible refine (C.out _).mono ?_)
  rintro e w1 ⟨hb1, ⟨rfl, rfl⟩ | ⟨A, B, k, a, c, rfl, hk, rfl, hk20, hD, hR, hc⟩⟩
  · replace HB := Lib.hid (HB.out.trans (hb1.mono HB.out.size))
    clear hb1 C
    go_wp2_with fail
    go_ret2
    exact ⟨rfl, HB.out⟩
  · have HB0 := Lib.hid (HB.out.trans (hb1.mono HB.out.size))
    clear hb1 C HB
    have HK := Lib.hid hk
    by_cases h0 : k = 0
    · have hz : decide (0 < k) = false := decide_eq_false (by omega)
      have E : Hid (ansB bl (some (A, B)) = (0, 6)) := Lib.hid (by show (if _ then _ else _) = _; rw [if_pos (by omega)])
      generalize B.length = b at *
      clear hk hk20 hD hR hc h0
      go_wp2_with fail
      go_ret2
      exact ⟨by rw [E.out]; rfl, HB0.out⟩
    · have hz : decide (0 < k) = true := decide_eq_true (by omega)
      have E : Hid (ansB bl (some (A, B)) = inR (stepsN bl (256 * valD (A ++ B)) (10 ^ B.length))) := Lib.hid (by show (if _ then _ else _) = _; rw [if_neg (by omega)]; rfl)
      have HL : Hid ((A ++ B).length = k) := Lib.hid (by rw [List.length_append]; omega)
      generalize A ++ B = DL at *
      have hb20 : B.length ≤ 20 := by omega
      obtain ⟨b, hb⟩ : ∃ b, B.length = b := ⟨_, rfl⟩
      rw [hb] at E hb20 ⊢
      obtain ⟨P, hP⟩ : ∃ P, ansB bl (some (A, B)) = P := ⟨_, rfl⟩
      have HP := Lib.hid hP
      rw [hP] at E
      clear hP
      have HD := Lib.hid hD
      have HR := Lib.hid hR
      clear hb hk hD hR h0 HK
      have HB := Lib.hid (Below.refl w1.heap.size w1)
      have O0 := Lib.hid (fun W => ofInt_any 0 W (by decide) (by decide))
      have O10 := Lib.hid (fun W => ofInt_any 10 W (by decide) (by decide))
      have O256 := Lib.hid (fun W => ofInt_any 256 W (by decide) (by decide))
      have S10 : Hid (Small 10) := Lib.hid (small_of (by decide))
      have S256 : Hid (Small 256) := Lib.hid (small_of (by decide))
      go_wp2_with fail
      ((with_reducible refine (O0.out _).mono ?_); rintro e w2 ⟨hb2, v2, rfl, q2⟩)
      replace HB := Lib.hid (HB.out.trans (hb2.mono HB.out.size))
      obtain ⟨s2, a2, n2, c2, rfl⟩ := num_open q2
      have Q2 := Lib.hid q2
      clear hb2 q2
      have hg2 := HB.out.size
      go_wp2_with fail
      skip
      have hb2 := below_new1 w2 (.cells #[.bool s2, .slice a2 n2 c2] 50)
      replace HB := Lib.hid (HB.out.trans (hb2.mono HB.out.size))
      replace Q2 := Lib.hid (Q2.out.keep hb2)
      have k2 := Lib.hid (Lok.new w2 50 #[.bool s2, .slice a2 n2 c2])
      clear hb2
      generalize w2.alloc (.cells #[.bool s2, .slice a2 n2 c2] 50) = V2 at *
      generalize w2.heap.size = g2 at *
      go_loopw [9] (fun ix wr => ∃ (i : Nat) (x : Bool) (p : Option Addr) (q r : Nat), ix = .int .i64 i ∧ i ≤ k ∧ Lok wr g2 50 #[.bool x, .slice p q r] ∧ NumV wr (.agg #[.bool x, .slice p q r]) ((valD (DL.take i) : Nat) : Int) ∧ Below w1.heap.size w1 wr) (fun ix _ => k - (intOf ix).toNat)
      case atStart => exact ⟨0, s2, a2, n2, c2, rfl, Nat.zero_le _, k2.out, Q2.out, HB.out⟩
      case round =>
        obtain ⟨i, x, p, q, r, rfl, hi, hk2, hN, hB⟩ := hrel
        replace HB := Lib.hid hB
        have RB := Lib.hid (HR.out.keep hB)
        have VB := Lib.hid (val_20 DL HD.out (by rw [HL.out]; exact hk20) i)
        have KK := Lib.hid hk2
        have NN := Lib.hid hN
        clear hB hk2 hN k2 Q2
        have hbound : g2 ≤ wr.heap.size := Nat.le_of_lt KK.out.lt
        by_cases hlt : i < k
        · have i0 : (0 : Int) ≤ (i : Int) := by omega
          have i1 : (i : Int) < k := by omega
          obtain ⟨b', off, rfl, hlb, hcell⟩ := RB.out.at hlt
          obtain ⟨v1, v2, v3⟩ := val_take DL HD.out i (by rw [HL.out]; exact hlt)
          have hc1 := hcell i hlt
          obtain ⟨y, hy⟩ : ∃ y, dgL DL i = y := ⟨_, rfl⟩
          rw [hy] at v1 v2 v3 hc1
          obtain ⟨M, hM⟩ : ∃ M : Int, ((valD (DL.take i) : Nat) : Int) = M := ⟨_, rfl⟩
          rw [hM] at v1 NN
          have m1 : 0 ≤ M ∧ M < 100000000000000000000 := by have := VB.out; omega
          have VN := Lib.hid v1
          have OY := Lib.hid (fun W => ofInt_any y W (by omega) (by omega))
          have SM : Hid (Small M) := Lib.hid (small_of (by omega))
          have S2 : Hid (Small (M * 10)) := Lib.hid (small_of (by omega))
          have SY : Hid (Small y) := Lib.hid (small_of (by omega))
          have hC : CellIs wr ⟨b', off + i, none⟩ (.int .i64 y) := hc1
          have o9' := KK.out
          have LQ := NN.out
          clear hy hM m1 v1 v2 v3 hcell
          go_upto_region 8 with fail
          clear hc1
          refine wp_region_rel (by kernel_rfl) [30, 31, 32, 33, 34, 35, 36, 37, 38] ?Fr1 ?hFr1
            (fun L u W => Below g2 wr W ∧ (L 0 = true → u 30 = .agg #[.bool x, .slice p q r]) ∧ (L 1 = true → L 2 = false → NumV W (u 31) 10) ∧ (L 2 = true → L 8 = false → NumV W (u 32) (M * 10)) ∧ (L 3 = true → u 33 = .slice (some ⟨b', off, none⟩) k c) ∧ (L 4 = true → u 34 = .int .i64 i) ∧ (L 5 = true → u 35 = .pointer (some ⟨b', off + i, none⟩)) ∧ (L 6 = true → u 36 = .int .i64 y) ∧ (L 7 = true → L 8 = false → NumV W (u 37) y) ∧ (L 8 = true → NumV W (u 38) (M * 10 + y)) ∧ (L 9 = false → Lok W (g2) 50 #[.bool x, .slice p q r]) ∧ (L 9 = true → (L 0 = true ∧ L 1 = true ∧ L 2 = true ∧ L 3 = true ∧ L 4 = true ∧ L 5 = true ∧ L 6 = true ∧ L 7 = true ∧ L 8 = true) ∧ ∃ (p : Bool) (q : Option Addr) (r s : Nat), u 38 = .agg #[.bool p, .slice q r s] ∧ Lok W (g2) 50 #[.bool p, .slice q r s]) ∧ (L 9 = false → NumV W (.agg #[.bool x, .slice p q r]) M) ∧ (L 9 = false → CellIs W ⟨b', off + i, none⟩ (.int .i64 y))) (by kernel_rfl) (by kernel_rfl) 10 rfl ?h0r1 ?stepr1 ?finr1
          case hFr1 => intro u; simp only [putAll, Act.put, List.setIfInBounds_toArray, List.set]; exact rfl
          case h0r1 => intro L u hL; exact ⟨(Below.refl _ _).drew, (fun h => by simp [hL] at h), (fun h => by simp [hL] at h), (fun h => by simp [hL] at h), (fun h => by simp [hL] at h), (fun h => by simp [hL] at h), (fun h => by simp [hL] at h), (fun h => by simp [hL] at h), (fun h => by simp [hL] at h), (fun h => by simp [hL] at h), (fun _ => by assumption), (fun h => by simp [hL] at h), (fun _ => by assumption), (fun _ => by assumption)⟩
          case stepr1 =>
            refine ops_all (ops_cons ?s0r1 (ops_cons ?s1r1 (ops_cons ?s2r1 (ops_cons ?s3r1 (ops_cons ?s4r1 (ops_cons ?s5r1 (ops_cons ?s6r1 (ops_cons ?s7r1 (ops_cons ?s8r1 (ops_cons ?s9r1 (ops_nil)))))))))))
            case s0r1 =>
              rintro L u W ⟨hB, c0, c1, c2, c3, c4, c5, c6, c7, c8, o9, w9, pre0, pre1⟩ hf hd K hK
              dsimp only at hK
              have hn9 : L 9 = false := by
                cases h : L 9 with
                | false => rfl
                | true => have z := (w9 h).1; rw [hf] at z; simp at z
              have t0 := (o9 hn9).cell (i := 0) rfl
              have t1 := (o9 hn9).cell (i := 1) rfl
              clear hd
              go_simp
              refine hK _ _ ?_ (fun h => by cases h)
              intro s hs
              cases hs
              exact ⟨hB, (fun _ => rfl), c1, c2, c3, c4, c5, c6, c7, c8, o9, (fun h => by have h' := hn9; rw [show L 9 = true from h] at h'; cases h'), pre0, pre1⟩
            case s1r1 =>
              rintro L u W ⟨hB, c0, c1, c2, c3, c4, c5, c6, c7, c8, o9, w9, pre0, pre1⟩ hf hd K hK
              dsimp only at hK
              have hn9 : L 9 = false := by
                cases h : L 9 with
                | false => rfl
                | true => have z := (w9 h).1; rw [hf] at z; simp at z
              clear hd
              go_simp
              go_wp2_with (go_at_call 23; ((with_reducible refine (O10.out _).mono ?_); rintro e w5 ⟨hb, v5, rfl, q⟩))
              refine hK _ _ ?_ (fun h => by cases h)
              intro s hs
              cases hs
              exact ⟨hB.trans (hb.mono (Nat.le_trans hbound hB.size)), c0, (fun _ _ => q), (fun h k => (c2 h k).keep hb), c3, c4, c5, c6, (fun h k => (c7 h k).keep hb), (fun h => (c8 h).keep hb), (fun h => (o9 h).keep hb), (fun h => by have h' := hn9; rw [show L 9 = true from h] at h'; cases h'), (fun h => (pre0 h).keep hb), (fun h => (pre1 h).keep hb)⟩
            case s2r1 =>
              rintro L u W ⟨hB, c0, c1, c2, c3, c4, c5, c6, c7, c8, o9, w9, pre0, pre1⟩ hf hd K hK
              dsimp only at hK
              have hn9 : L 9 = false := by
                cases h : L 9 with
                | false => rfl
                | true => have z := (w9 h).1; rw [hf] at z; simp at z
              have hd0 : L 0 = true := (by first | (refine hd ⟨0, .data⟩ ?_ rfl; simp; done) | (refine hd ⟨0, .guard⟩ ?_ rfl; simp; done) | (refine hd ⟨0, .phase⟩ ?_ rfl; simp; done) | (refine hd ⟨0, .chain⟩ ?_ rfl; simp; done))
              have hd1 : L 1 = true := (by first | (refine hd ⟨1, .data⟩ ?_ rfl; simp; done) | (refine hd ⟨1, .guard⟩ ?_ rfl; simp; done) | (refine hd ⟨1, .phase⟩ ?_ rfl; simp; done) | (refine hd ⟨1, .chain⟩ ?_ rfl; simp; done))
              have e0 := c0 hd0
              rw [e0] at hK
              have e1 := c1 hd1 (by first | exact hf | assumption)
              clear hd0
              clear hd1
              clear hd
              go_simp
              go_wp2_with (go_at_call 25; ((with_reducible refine (times_num (pre0 hn9) e1 SM.out S10.out).mono ?_); rintro e w5 ⟨hb, v5, rfl, q⟩))
              refine hK _ _ ?_ (fun h => by cases h)
              intro s hs
              cases hs
              exact ⟨hB.trans (hb.mono (Nat.le_trans hbound hB.size)), c0, (fun _ h => by cases h), (fun _ _ => q), c3, c4, c5, c6, (fun h k => (c7 h k).keep hb), (fun h => (c8 h).keep hb), (fun h => (o9 h).keep hb), (fun h => by have h' := hn9; rw [show L 9 = true from h] at h'; cases h'), (fun h => (pre0 h).keep hb), (fun h => (pre1 h).keep hb)⟩
            case s3r1 =>
              rintro L u W ⟨hB, c0, c1, c2, c3, c4, c5, c6, c7, c8, o9, w9, pre0, pre1⟩ hf hd K hK
              dsimp only at hK
              have hn9 : L 9 = false := by
                cases h : L 9 with
                | false => rfl
                | true => have z := (w9 h).1; rw [hf] at z; simp at z
              clear hd
              go_simp
              refine hK _ _ ?_ (fun h => by cases h)
              intro s hs
              cases hs
              exact ⟨hB, c0, c1, c2, (fun _ => rfl), c4, c5, c6, c7, c8, o9, (fun h => by have h' := hn9; rw [show L 9 = true from h] at h'; cases h'), pre0, pre1⟩
            case s4r1 =>
              rintro L u W ⟨hB, c0, c1, c2, c3, c4, c5, c6, c7, c8, o9, w9, pre0, pre1⟩ hf hd K hK
              dsimp only at hK
              have hn9 : L 9 = false := by
                cases h : L 9 with
                | false => rfl
                | true => have z := (w9 h).1; rw [hf] at z; simp at z
              clear hd
              go_simp
              refine hK _ _ ?_ (fun h => by cases h)
              intro s hs
              cases hs
              exact ⟨hB, c0, c1, c2, c3, (fun _ => rfl), c5, c6, c7, c8, o9, (fun h => by have h' := hn9; rw [show L 9 = true from h] at h'; cases h'), pre0, pre1⟩
            case s5r1 =>
              rintro L u W ⟨hB, c0, c1, c2, c3, c4, c5, c6, c7, c8, o9, w9, pre0, pre1⟩ hf hd K hK
              dsimp only at hK
              have hn9 : L 9 = false := by
                cases h : L 9 with
                | false => rfl
                | true => have z := (w9 h).1; rw [hf] at z; simp at z
              have hd3 : L 3 = true := (by first | (refine hd ⟨3, .data⟩ ?_ rfl; simp; done) | (refine hd ⟨3, .guard⟩ ?_ rfl; simp; done) | (refine hd ⟨3, .phase⟩ ?_ rfl; simp; done) | (refine hd ⟨3, .chain⟩ ?_ rfl; simp; done))
              have hd4 : L 4 = true := (by first | (refine hd ⟨4, .data⟩ ?_ rfl; simp; done) | (refine hd ⟨4, .guard⟩ ?_ rfl; simp; done) | (refine hd ⟨4, .phase⟩ ?_ rfl; simp; done) | (refine hd ⟨4, .chain⟩ ?_ rfl; simp; done))
              have e3 := c3 hd3
              rw [e3] at hK
              have e4 := c4 hd4
              rw [e4] at hK
              clear hd3
              clear hd4
              clear hd
              go_simp
              refine hK _ _ ?_ (fun h => by cases h)
              intro s hs
              cases hs
              exact ⟨hB, c0, c1, c2, c3, c4, (fun _ => rfl), c6, c7, c8, o9, (fun h => by have h' := hn9; rw [show L 9 = true from h] at h'; cases h'), pre0, pre1⟩
            case s6r1 =>
              rintro L u W ⟨hB, c0, c1, c2, c3, c4, c5, c6, c7, c8, o9, w9, pre0, pre1⟩ hf hd K hK
              dsimp only at hK
              have hn9 : L 9 = false := by
                cases h : L 9 with
                | false => rfl
                | true => have z := (w9 h).1; rw [hf] at z; simp at z
              have hd5 : L 5 = true := (by first | (refine hd ⟨5, .data⟩ ?_ rfl; simp; done) | (refine hd ⟨5, .guard⟩ ?_ rfl; simp; done) | (refine hd ⟨5, .phase⟩ ?_ rfl; simp; done) | (refine hd ⟨5, .chain⟩ ?_ rfl; simp; done))
              have e5 := c5 hd5
              rw [e5] at hK
              have t6 : W.cell? ⟨b', off + i, none⟩ = some (.int .i64 y) := pre1 hn9
              clear hd5
              clear hd
              go_simp
              refine hK _ _ ?_ (fun h => by cases h)
              intro s hs
              cases hs
              exact ⟨hB, c0, c1, c2, c3, c4, c5, (fun _ => rfl), c7, c8, o9, (fun h => by have h' := hn9; rw [show L 9 = true from h] at h'; cases h'), pre0, pre1⟩
            case s7r1 =>
              rintro L u W ⟨hB, c0, c1, c2, c3, c4, c5, c6, c7, c8, o9, w9, pre0, pre1⟩ hf hd K hK
              dsimp only at hK
              have hn9 : L 9 = false := by
                cases h : L 9 with
                | false => rfl
                | true => have z := (w9 h).1; rw [hf] at z; simp at z
              have hd6 : L 6 = true := (by first | (refine hd ⟨6, .data⟩ ?_ rfl; simp; done) | (refine hd ⟨6, .guard⟩ ?_ rfl; simp; done) | (refine hd ⟨6, .phase⟩ ?_ rfl; simp; done) | (refine hd ⟨6, .chain⟩ ?_ rfl; simp; done))
              have e6 := c6 hd6
              rw [e6] at hK
              clear hd6
              clear hd
              go_simp
              go_wp2_with (go_at_call 23; ((with_reducible refine (OY.out _).mono ?_); rintro e w5 ⟨hb, v5, rfl, q⟩))
              refine hK _ _ ?_ (fun h => by cases h)
              intro s hs
              cases hs
              exact ⟨hB.trans (hb.mono (Nat.le_trans hbound hB.size)), c0, (fun h k => (c1 h k).keep hb), (fun h k => (c2 h k).keep hb), c3, c4, c5, c6, (fun _ _ => q), (fun h => (c8 h).keep hb), (fun h => (o9 h).keep hb), (fun h => by have h' := hn9; rw [show L 9 = true from h] at h'; cases h'), (fun h => (pre0 h).keep hb), (fun h => (pre1 h).keep hb)⟩
            case s8r1 =>
              rintro L u W ⟨hB, c0, c1, c2, c3, c4, c5, c6, c7, c8, o9, w9, pre0, pre1⟩ hf hd K hK
              dsimp only at hK
              have hn9 : L 9 = false := by
                cases h : L 9 with
                | false => rfl
                | true => have z := (w9 h).1; rw [hf] at z; simp at z
              have hd2 : L 2 = true := (by first | (refine hd ⟨2, .data⟩ ?_ rfl; simp; done) | (refine hd ⟨2, .guard⟩ ?_ rfl; simp; done) | (refine hd ⟨2, .phase⟩ ?_ rfl; simp; done) | (refine hd ⟨2, .chain⟩ ?_ rfl; simp; done))
              have hd7 : L 7 = true := (by first | (refine hd ⟨7, .data⟩ ?_ rfl; simp; done) | (refine hd ⟨7, .guard⟩ ?_ rfl; simp; done) | (refine hd ⟨7, .phase⟩ ?_ rfl; simp; done) | (refine hd ⟨7, .chain⟩ ?_ rfl; simp; done))
              have e2 := c2 hd2 (by first | exact hf | assumption)
              have e7 := c7 hd7 (by first | exact hf | assumption)
              clear hd2
              clear hd7
              clear hd
              go_simp
              go_wp2_with (go_at_call 24; ((with_reducible refine (sum_any e2 e7 S2.out SY.out).mono ?_); rintro e w5 ⟨hb, v5, rfl, q⟩))
              refine hK _ _ ?_ (fun h => by cases h)
              intro s hs
              cases hs
              exact ⟨hB.trans (hb.mono (Nat.le_trans hbound hB.size)), c0, (fun h k => (c1 h k).keep hb), (fun _ h => by cases h), c3, c4, c5, c6, (fun _ h => by cases h), (fun _ => q), (fun h => (o9 h).keep hb), (fun h => by have h' := hn9; rw [show L 9 = true from h] at h'; cases h'), (fun h => (pre0 h).keep hb), (fun h => (pre1 h).keep hb)⟩
            case s9r1 =>
              rintro L u W ⟨hB, c0, c1, c2, c3, c4, c5, c6, c7, c8, o9, w9, pre0, pre1⟩ hf hd K hK
              dsimp only at hK
              have hd8 : L 8 = true := (by first | (refine hd ⟨8, .data⟩ ?_ rfl; simp; done) | (refine hd ⟨8, .phase⟩ ?_ rfl; simp; done))
              have hdx2 : L 2 = true := (by first | (refine hd ⟨2, .phase⟩ ?_ rfl; simp; done) | (refine hd ⟨2, .data⟩ ?_ rfl; simp; done))
              have hdx8 : L 8 = true := (by first | (refine hd ⟨8, .phase⟩ ?_ rfl; simp; done) | (refine hd ⟨8, .data⟩ ?_ rfl; simp; done))
              have hall : L 0 = true ∧ L 1 = true ∧ L 2 = true ∧ L 3 = true ∧ L 4 = true ∧ L 5 = true ∧ L 6 = true ∧ L 7 = true ∧ L 8 = true := ⟨(by first | (refine hd ⟨0, .phase⟩ ?_ rfl; simp; done) | (refine hd ⟨0, .data⟩ ?_ rfl; simp; done)), (by first | (refine hd ⟨1, .phase⟩ ?_ rfl; simp; done) | (refine hd ⟨1, .data⟩ ?_ rfl; simp; done)), (by first | (refine hd ⟨2, .phase⟩ ?_ rfl; simp; done) | (refine hd ⟨2, .data⟩ ?_ rfl; simp; done)), (by first | (refine hd ⟨3, .phase⟩ ?_ rfl; simp; done) | (refine hd ⟨3, .data⟩ ?_ rfl; simp; done)), (by first | (refine hd ⟨4, .phase⟩ ?_ rfl; simp; done) | (refine hd ⟨4, .data⟩ ?_ rfl; simp; done)), (by first | (refine hd ⟨5, .phase⟩ ?_ rfl; simp; done) | (refine hd ⟨5, .data⟩ ?_ rfl; simp; done)), (by first | (refine hd ⟨6, .phase⟩ ?_ rfl; simp; done) | (refine hd ⟨6, .data⟩ ?_ rfl; simp; done)), (by first | (refine hd ⟨7, .phase⟩ ?_ rfl; simp; done) | (refine hd ⟨7, .data⟩ ?_ rfl; simp; done)), (by first | (refine hd ⟨8, .phase⟩ ?_ rfl; simp; done) | (refine hd ⟨8, .data⟩ ?_ rfl; simp; done))⟩
              have hall' := Lib.hid hall
              clear hall
              have k3 := o9 hf
              have z := c8 hd8
              obtain ⟨zs, za, zn, zc, e9⟩ := num_open z
              rw [e9] at hK z
              have t0 := k3.cell (i := 0) rfl
              have f0 := k3.frozen 0
              have t1 := k3.cell (i := 1) rfl
              have f1 := k3.frozen 1
              clear hd
              have hd8' := Lib.hid hd8
              clear hd8
              have hdx2' := Lib.hid hdx2
              clear hdx2
              have hdx8' := Lib.hid hdx8
              clear hdx8
              go_simp
              have hd8 := hd8'.out
              have hdx2 := hdx2'.out
              have hdx8 := hdx8'.out
              have hall := hall'.out
              have hlok := (k3.set (i := 0) (v := .bool zs)).set (i := 1) (v := .slice za zn zc)
              have z1 := (z.setN (noInt_num k3) 0 (.bool zs)).setN (noInt_set0 k3 zs) 1 (.slice za zn zc)
              refine hK undef _ (fun s h => by cases h) (fun _ => ?_)
              exact ⟨(hB.setCell (by first | exact Nat.le_refl _ | assumption | (show _ ≤ _; omega)) _).setCell (by first | exact Nat.le_refl _ | assumption | (show _ ≤ _; omega)) _, c0, (fun _ h => absurd hdx2 (by rw [show L 2 = false from h]; decide)), (fun _ h => absurd hdx8 (by rw [show L 8 = false from h]; decide)), c3, c4, c5, c6, (fun _ h => absurd hdx8 (by rw [show L 8 = false from h]; decide)), (fun _ => z1), (fun h => by cases h), (fun _ => ⟨hall, _, _, _, _, rfl, hlok⟩), (fun h => by cases h), (fun h => by cases h)⟩
          case finr1 =>
            rintro L u W hL ⟨hB, c0, c1, c2, c3, c4, c5, c6, c7, c8, o9, w9, pre0, pre1⟩
            have e0 := c0 (hL 0 (by decide))
            have e3 := c3 (hL 3 (by decide))
            have e4 := c4 (hL 4 (by decide))
            have e5 := c5 (hL 5 (by decide))
            have e6 := c6 (hL 6 (by decide))
            have kq8 := c8 (hL 8 (by decide))
            obtain ⟨-, p9, q9, r9, s9, ed9, hlok9⟩ := w9 (hL 9 (by decide))
            rw [ed9] at kq8
            clear hL c0 c1 c2 c3 c4 c5 c6 c7 c8 o9 w9 pre0 pre1
            try simp only [e0, e3, e4, e5, e6, ed9]
            clear e0 e3 e4 e5 e6 ed9
            replace HB := Lib.hid (HB.out.trans (hB.mono hg2))
            have KQ := Lib.hid kq8
            have KL := Lib.hid hlok9
            clear hB kq8 hlok9 o9' LQ hbound hC
            go_wp2_with fail
            go_roundw
            case rel => exact ⟨i + 1, p9, q9, r9, s9, by go_num, hlt, KL.out, by rw [VN.out]; exact KQ.out, HB.out⟩
            case measure => simp [intOf]; omega
        · obtain rfl : i = k := by omega
          have et : DL.take i = DL := List.take_of_length_le (by rw [HL.out]; exact Nat.le_refl _)
          rw [et] at NN VB
          obtain ⟨M, hM⟩ : ∃ M : Int, ((valD DL : Nat) : Int) = M := ⟨_, rfl⟩
          rw [hM] at NN
          have m1 : 0 ≤ M ∧ M < 100000000000000000000 := by have := VB.out; omega
          have SM : Hid (Small M) := Lib.hid (small_of (by omega))
          have S2 : Hid (Small (M * 256)) := Lib.hid (small_of (by omega))
          have HM := Lib.hid hM
          have o3' := KK.out
          have LQ := NN.out
          clear hM m1 et
          go_upto_region 9 with fail
          refine wp_region_rel (by kernel_rfl) [39, 40, 41] ?Fr2 ?hFr2
            (fun L u W => Below g2 wr W ∧ (L 0 = true → u 39 = .agg #[.bool x, .slice p q r]) ∧ (L 1 = true → L 2 = false → NumV W (u 40) 256) ∧ (L 2 = true → NumV W (u 41) (M * 256)) ∧ (L 3 = false → Lok W (g2) 50 #[.bool x, .slice p q r]) ∧ (L 3 = true → (L 0 = true ∧ L 1 = true ∧ L 2 = true) ∧ ∃ (p : Bool) (q : Option Addr) (r s : Nat), u 41 = .agg #[.bool p, .slice q r s] ∧ Lok W (g2) 50 #[.bool p, .slice q r s]) ∧ (L 3 = false → NumV W (.agg #[.bool x, .slice p q r]) M)) (by kernel_rfl) (by kernel_rfl) 4 rfl ?h0r2 ?stepr2 ?finr2
          case hFr2 => intro u; simp only [putAll, Act.put, List.setIfInBounds_toArray, List.set]; exact rfl
          case h0r2 => intro L u hL; exact ⟨(Below.refl _ _).drew, (fun h => by simp [hL] at h), (fun h => by simp [hL] at h), (fun h => by simp [hL] at h), (fun _ => by assumption), (fun h => by simp [hL] at h), (fun _ => by assumption)⟩
          case stepr2 =>
            refine ops_all (ops_cons ?s0r2 (ops_cons ?s1r2 (ops_cons ?s2r2 (ops_cons ?s3r2 (ops_nil)))))
            case s0r2 =>
              rintro L u W ⟨hB, c0, c1, c2, o3, w3, pre0⟩ hf hd K hK
              dsimp only at hK
              have hn3 : L 3 = false := by
                cases h : L 3 with
                | false => rfl
                | true => have z := (w3 h).1; rw [hf] at z; simp at z
              have t0 := (o3 hn3).cell (i := 0) rfl
              have t1 := (o3 hn3).cell (i := 1) rfl
              clear hd
              go_simp
              refine hK _ _ ?_ (fun h => by cases h)
              intro s hs
              cases hs
              exact ⟨hB, (fun _ => rfl), c1, c2, o3, (fun h => by have h' := hn3; rw [show L 3 = true from h] at h'; cases h'), pre0⟩
            case s1r2 =>
              rintro L u W ⟨hB, c0, c1, c2, o3, w3, pre0⟩ hf hd K hK
              dsimp only at hK
              have hn3 : L 3 = false := by
                cases h : L 3 with
                | false => rfl
                | true => have z := (w3 h).1; rw [hf] at z; simp at z
              clear hd
              go_simp
              go_wp2_with (go_at_call 23; ((with_reducible refine (O256.out _).mono ?_); rintro e w5 ⟨hb, v5, rfl, q⟩))
              refine hK _ _ ?_ (fun h => by cases h)
              intro s hs
              cases hs
              exact ⟨hB.trans (hb.mono (Nat.le_trans hbound hB.size)), c0, (fun _ _ => q), (fun h => (c2 h).keep hb), (fun h => (o3 h).keep hb), (fun h => by have h' := hn3; rw [show L 3 = true from h] at h'; cases h'), (fun h => (pre0 h).keep hb)⟩
            case s2r2 =>
              rintro L u W ⟨hB, c0, c1, c2, o3, w3, pre0⟩ hf hd K hK
              dsimp only at hK
              have hn3 : L 3 = false := by
                cases h : L 3 with
                | false => rfl
                | true => have z := (w3 h).1; rw [hf] at z; simp at z
              have hd0 : L 0 = true := (by first | (refine hd ⟨0, .data⟩ ?_ rfl; simp; done) | (refine hd ⟨0, .guard⟩ ?_ rfl; simp; done) | (refine hd ⟨0, .phase⟩ ?_ rfl; simp; done) | (refine hd ⟨0, .chain⟩ ?_ rfl; simp; done))
              have hd1 : L 1 = true := (by first | (refine hd ⟨1, .data⟩ ?_ rfl; simp; done) | (refine hd ⟨1, .guard⟩ ?_ rfl; simp; done) | (refine hd ⟨1, .phase⟩ ?_ rfl; simp; done) | (refine hd ⟨1, .chain⟩ ?_ rfl; simp; done))
              have e0 := c0 hd0
              rw [e0] at hK
              have e1 := c1 hd1 (by first | exact hf | assumption)
              clear hd0
              clear hd1
              clear hd
              go_simp
              go_wp2_with (go_at_call 25; ((with_reducible refine (times_num (pre0 hn3) e1 SM.out S256.out).mono ?_); rintro e w5 ⟨hb, v5, rfl, q⟩))
              refine hK _ _ ?_ (fun h => by cases h)
              intro s hs
              cases hs
              exact ⟨hB.trans (hb.mono (Nat.le_trans hbound hB.size)), c0, (fun _ h => by cases h), (fun _ => q), (fun h => (o3 h).keep hb), (fun h => by have h' := hn3; rw [show L 3 = true from h] at h'; cases h'), (fun h => (pre0 h).keep hb)⟩
            case s3r2 =>
              rintro L u W ⟨hB, c0, c1, c2, o3, w3, pre0⟩ hf hd K hK
              dsimp only at hK
              have hd2 : L 2 = true := (by first | (refine hd ⟨2, .data⟩ ?_ rfl; simp; done) | (refine hd ⟨2, .phase⟩ ?_ rfl; simp; done))
              have hdx2 : L 2 = true := (by first | (refine hd ⟨2, .phase⟩ ?_ rfl; simp; done) | (refine hd ⟨2, .data⟩ ?_ rfl; simp; done))
              have hall : L 0 = true ∧ L 1 = true ∧ L 2 = true := ⟨(by first | (refine hd ⟨0, .phase⟩ ?_ rfl; simp; done) | (refine hd ⟨0, .data⟩ ?_ rfl; simp; done)), (by first | (refine hd ⟨1, .phase⟩ ?_ rfl; simp; done) | (refine hd ⟨1, .data⟩ ?_ rfl; simp; done)), (by first | (refine hd ⟨2, .phase⟩ ?_ rfl; simp; done) | (refine hd ⟨2, .data⟩ ?_ rfl; simp; done))⟩
              have hall' := Lib.hid hall
              clear hall
              have k3 := o3 hf
              have z := c2 hd2
              obtain ⟨zs, za, zn, zc, e9⟩ := num_open z
              rw [e9] at hK z
              have t0 := k3.cell (i := 0) rfl
              have f0 := k3.frozen 0
              have t1 := k3.cell (i := 1) rfl
              have f1 := k3.frozen 1
              clear hd
              have hd2' := Lib.hid hd2
              clear hd2
              have hdx2' := Lib.hid hdx2
              clear hdx2
              go_simp
              have hd2 := hd2'.out
              have hdx2 := hdx2'.out
              have hall := hall'.out
              have hlok := (k3.set (i := 0) (v := .bool zs)).set (i := 1) (v := .slice za zn zc)
              have z1 := (z.setN (noInt_num k3) 0 (.bool zs)).setN (noInt_set0 k3 zs) 1 (.slice za zn zc)
              refine hK undef _ (fun s h => by cases h) (fun _ => ?_)
              exact ⟨(hB.setCell (by first | exact Nat.le_refl _ | assumption | (show _ ≤ _; omega)) _).setCell (by first | exact Nat.le_refl _ | assumption | (show _ ≤ _; omega)) _, c0, (fun _ h => absurd hdx2 (by rw [show L 2 = false from h]; decide)), (fun _ => z1), (fun h => by cases h), (fun _ => ⟨hall, _, _, _, _, rfl, hlok⟩), (fun h => by cases h)⟩
          case finr2 =>
            rintro L u W hL ⟨hB, c0, c1, c2, o3, w3, pre0⟩
            have e0 := c0 (hL 0 (by decide))
            have kq2 := c2 (hL 2 (by decide))
            obtain ⟨-, p3, q3, r3, s3, ed3, hlok3⟩ := w3 (hL 3 (by decide))
            rw [ed3] at kq2
            clear hL c0 c1 c2 o3 w3 pre0
            try simp only [e0, ed3]
            clear e0 ed3
            replace HB := Lib.hid (HB0.out.trans ((HB.out.trans (hB.mono hg2)).mono HB0.out.size))
            obtain ⟨x', m, cx, D, ee, ra, hcx, dg, top, hv⟩ := kq2
            cases ee
            have hm := num_small dg top hv S2.out
            have hv2 : vs D 0 r3 = ((256 * valD DL : Nat) : Int) := by rw [hv, ← HM.out]; omega
            obtain ⟨e1, e2⟩ := dig_qr dg (256 * valD DL) b hv2
            have HQ := Lib.hid e1
            have HRR := Lib.hid e2
            have KL := Lib.hid hlok3
            have RA := Lib.hid ra
            have DG := Lib.hid dg
            have KB := Lib.hid (Below.refl W.heap.size W)
            clear hB hlok3 o3' LQ hbound ra dg top hv hv2 e1 e2 KK NN VB HM RB HR SM S2 O0 O10 O256 S10 S256 HD HL HB0
            go_wp2_with fail
            go_loopw [10, 11] (fun lf ix wv => ∃ i : Nat, ix = .int .i64 i ∧ i ≤ b ∧ i ≤ r3 ∧ lf = .bool (decide (vs D 0 i ≠ 0)) ∧ Below W.heap.size W wv) (fun _ ix _ => b - (intOf ix).toNat)
            case atStart => exact ⟨0, rfl, Nat.zero_le _, Nat.zero_le _, rfl, KB.out⟩
            case round =>
              obtain ⟨j, rfl, hjb, hjm, rfl, hB⟩ := hrel
              replace KB := Lib.hid hB
              have RJ := Lib.hid (RA.out.keep hB)
              have KJ := Lib.hid (KL.out.keep hB)
              clear hB
              by_cases hj : j < b ∧ j < r3
              · obtain ⟨hj1, hj2⟩ := hj
                have j0 : (0 : Int) ≤ (j : Int) := by omega
                have j1 : (j : Int) < b := by omega
                have j2 : (j : Int) < r3 := by omega
                have j3 : decide ((j : Int) < b) = true := decide_eq_true j1
                have j4 : decide ((j : Int) < r3) = true := decide_eq_true j2
                obtain ⟨b2, off2, rfl, hlb2, hcell2⟩ := RJ.out.at hj2
                have d1 := hcell2 j hj2
                have VL := Lib.hid (vs_left DG.out j hj2)
                obtain ⟨y, hy⟩ : ∃ y, D j = y := ⟨_, rfl⟩
                rw [hy] at d1 VL
                obtain ⟨l, hl⟩ : ∃ l, decide (vs D 0 j ≠ 0) = l := ⟨_, rfl⟩
                rw [hl] at VL
                rw [hl]
                have p1 := KJ.out.cell (i := 1) rfl
                clear hcell2 hy hl
                cases l
                · go_wp2_with fail
                  go_roundw
                  case rel => exact ⟨j + 1, by go_num, hj1, hj2, by rw [VL.out]; congr 1; by_cases hy : y = 0 <;> simp [hy], KB.out⟩
                  case measure => simp [intOf]; omega
                · go_wp2_with fail
                  go_roundw
                  case rel => exact ⟨j + 1, by go_num, hj1, hj2, by rw [VL.out]; rfl, KB.out⟩
                  case measure => simp [intOf]; omega
              · have ej : j = min b r3 := by omega
                have LB : Hid (decide (vs D 0 j ≠ 0) = decide (((256 * valD DL % 10 ^ b : Nat) : Int) ≠ 0)) := Lib.hid (by rw [ej, HRR.out])
                have HX : (¬ (j : Int) < b) ∨ ((j : Int) < b ∧ ¬ (j : Int) < r3) := by omega
                obtain ⟨l, hl⟩ : ∃ l, decide (vs D 0 j ≠ 0) = l := ⟨_, rfl⟩
                rw [hl] at LB
                rw [hl]
                have p1 := KJ.out.cell (i := 1) rfl
                obtain ⟨W2, hW2⟩ : ∃ W2, W2 = wr := ⟨_, rfl⟩
                clear hl ej hj
                rcases HX with j1 | ⟨j1, j2⟩
                all_goals
                  go_wp2_with fail
                  go_loopw [12, 13] (fun nv ix wv => ∃ j : Nat, ix = .int .i64 ((j : Int) - 1) ∧ j ≤ r3 ∧ (b ≤ j ∨ j = r3) ∧ nv = .int .i64 (min (vs D j (r3 - j)) 2000000) ∧ Below W.heap.size W wv) (fun _ ix _ => (intOf ix + 1).toNat)
                  case atStart => exact ⟨r3, rfl, Nat.le_refl _, .inr rfl, by rw [Nat.sub_self]; rfl, KB.out⟩
                  case round =>
                    clear KJ RJ p1 KB hW2 j1
                    try clear j2
                    obtain ⟨h, rfl, hhm, hhb, rfl, hB⟩ := hrel
                    have KB := Lib.hid hB
                    have RJ := Lib.hid (RA.out.keep hB)
                    have KJ := Lib.hid (KL.out.keep hB)
                    clear hB
                    by_cases hj : b < h
                    · obtain ⟨t, rfl⟩ : ∃ t, h = t + 1 := ⟨h - 1, by omega⟩
                      rw [show ((t + 1 : Nat) : Int) - 1 = (t : Int) from by omega]
                      have ht : t < r3 := by omega
                      obtain ⟨b2, off2, rfl, hlb2, hcell2⟩ := RJ.out.at ht
                      have d1 := hcell2 t ht
                      have VC := vs_cap DG.out t (r3 - (t + 1)) ht (by omega)
                      rw [show r3 - (t + 1) + 1 = r3 - t from by omega] at VC
                      have hz0 := (vs_bd DG.out (r3 - (t + 1)) (t + 1) (by omega)).1
                      have hz : 0 ≤ min (vs D (t + 1) (r3 - (t + 1))) 2000000 ∧ min (vs D (t + 1) (r3 - (t + 1))) 2000000 ≤ 2000000 := by omega
                      have hy9 := DG.out t ht
                      clear hz0 hcell2
                      generalize min (vs D (t + 1) (r3 - (t + 1))) 2000000 = z at *
                      generalize D t = y at *
                      obtain ⟨z2, hz2⟩ : ∃ z2, min (vs D t (r3 - t)) 2000000 = z2 := ⟨_, rfl⟩
                      rw [hz2] at VC
                      have HZ2 := Lib.hid hz2
                      have p1 := KJ.out.cell (i := 1) rfl
                      have t0 : (0 : Int) ≤ (t : Int) := by omega
                      have t1 : (t : Int) < r3 := by omega
                      have t2 : (b : Int) ≤ (t : Int) := by omega
                      clear hz2
                      go_wp2_with fail
                      go_roundw
                      case rel => exact ⟨t, rfl, by omega, .inl (by omega), by rw [HZ2.out], KB.out⟩
                      case measure => simp [intOf]
                    · have e : min (vs D h (r3 - h)) 2000000 = min ((256 * valD DL / 10 ^ b : Nat) : Int) 2000000 := by
                        rw [← HQ.out]
                        rcases hhb with q | q
                        · rw [show h = b from by omega]
                        · rw [show r3 - h = 0 from by omega, show r3 - b = 0 from by omega]; rfl
                      have E2 := Lib.hid (end_steps bl (256 * valD DL) (10 ^ b))
                      rw [← LB.out, ← e, ← E.out] at E2
                      have hz0 := (vs_bd DG.out (r3 - h) h (by omega)).1
                      have hz : 0 ≤ min (vs D h (r3 - h)) 2000000 ∧ min (vs D h (r3 - h)) 2000000 ≤ 2000000 := by omega
                      clear e hz0 E
                      generalize min (vs D h (r3 - h)) 2000000 = z at *
                      have E : Hid (P = inR (endN bl l z)) := Lib.hid E2.out.symm
                      have t2 : ¬ (b : Int) ≤ (h : Int) - 1 := by omega
                      have w1 : IntKind.i64.wrap (-z) = -z := by rw [IntKind.wrap_i64]; omega
                      have w2 : IntKind.i64.wrap (-z - 1) = -z - 1 := by rw [IntKind.wrap_i64]; omega
                      clear E2 LB HQ HRR
                      cases bl
                      · by_cases r1 : z < -1048576
                        · have EE : Hid (P = (0, 5)) := Lib.hid (by rw [E.out]; unfold endN inR; simp; omega)
                          go_wp2_with fail
                          go_ret2
                          exact ⟨by rw [HP.out, EE.out]; rfl, HB.out.trans (KB.out.mono HB.out.size)⟩
                        · have r1' : decide (z < -1048576) = false := decide_eq_false r1
                          by_cases r2 : 1048576 < z
                          · have EE : Hid (P = (0, 5)) := Lib.hid (by rw [E.out]; unfold endN inR; simp; omega)
                            go_wp2_with fail
                            go_ret2
                            exact ⟨by rw [HP.out, EE.out]; rfl, HB.out.trans (KB.out.mono HB.out.size)⟩
                          · have EE : Hid (P = (z, 0)) := Lib.hid (by rw [E.out]; unfold endN inR; simp; omega)
                            go_wp2_with fail
                            go_ret2
                            exact ⟨by rw [HP.out, EE.out]; rfl, HB.out.trans (KB.out.mono HB.out.size)⟩
                      · cases l
                        · by_cases r1 : -z < -1048576
                          · have EE : Hid (P = (0, 5)) := Lib.hid (by rw [E.out]; unfold endN inR; simp; omega)
                            go_wp2_with fail
                            go_ret2
                            exact ⟨by rw [HP.out, EE.out]; rfl, HB.out.trans (KB.out.mono HB.out.size)⟩
                          · have r1' : decide (-z < -1048576) = false := decide_eq_false r1
                            by_cases r2 : 1048576 < -z
                            · have EE : Hid (P = (0, 5)) := Lib.hid (by rw [E.out]; unfold endN inR; simp; omega)
                              go_wp2_with fail
                              go_ret2
                              exact ⟨by rw [HP.out, EE.out]; rfl, HB.out.trans (KB.out.mono HB.out.size)⟩
                            · have EE : Hid (P = (-z, 0)) := Lib.hid (by rw [E.out]; unfold endN inR; simp; omega)
                              go_wp2_with fail
                              go_ret2
                              exact ⟨by rw [HP.out, EE.out]; rfl, HB.out.trans (KB.out.mono HB.out.size)⟩
                        · by_cases r1 : -z - 1 < -1048576
                          · have EE : Hid (P = (0, 5)) := Lib.hid (by rw [E.out]; unfold endN inR; simp; omega)
                            go_wp2_with fail
                            go_ret2
                            exact ⟨by rw [HP.out, EE.out]; rfl, HB.out.trans (KB.out.mono HB.out.size)⟩
                          · have r1' : decide (-z - 1 < -1048576) = false := decide_eq_false r1
                            by_cases r2 : 1048576 < -z - 1
                            · have EE : Hid (P = (0, 5)) := Lib.hid (by rw [E.out]; unfold endN inR; simp; omega)
                              go_wp2_with fail
                              go_ret2
                              exact ⟨by rw [HP.out, EE.out]; rfl, HB.out.trans (KB.out.mono HB.out.size)⟩
                            · have EE : Hid (P = (-z - 1, 0)) := Lib.hid (by rw [E.out]; unfold endN inR; simp; omega)
                              go_wp2_with fail
                              go_ret2
                              exact ⟨by rw [HP.out, EE.out]; rfl, HB.out.trans (KB.out.mono HB.out.size)⟩
end Go.Proofs.YtehfmapbodjppaaDoor
