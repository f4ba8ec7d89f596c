/-
  Fan, the program's and the reference's. (gen/FcH.py)
-/
import Derived.Test.YtlpfijdjkaijeaaDoorAppG
import Derived.Test.YtlpfijdjkaijeaaDoorRwS
import Derived.Test.YtlpfijdjkaijeaaDoorItS
namespace Go.Proofs.YtlpfijdjkaijeaaDoor
open Go.RowKit

theorem infoT : (Tryd.prog.info? 45).map (fun i => (i.zero, i.size, i.bytes)) = some (some (.agg #[.int .i64 0, .int .i64 0, .int .i64 0, .int .i64 0, .int .i64 0, .int .i64 0, .int .i64 0, .int .i64 0, .int .i64 0]), 9, 72) := by kernel_rfl
/-- A fan's triangles, as nine ints each. -/
def fanF (F : Nat → Nat → Int) : Nat → Nat → Int := fun i q => if q < 3 then F 0 q else if q < 6 then F (i + 1) (q - 3) else F (i + 2) (q - 6)
theorem fan_row (F : Nat → Nat → Int) (i : Nat) : (List.range 9).map (fun q => Value.int .i64 (fanF F i q)) = [.int .i64 (F 0 0), .int .i64 (F 0 1), .int .i64 (F 0 2), .int .i64 (F (i + 1) 0), .int .i64 (F (i + 1) 1), .int .i64 (F (i + 1) 2), .int .i64 (F (i + 2) 0), .int .i64 (F (i + 2) 1), .int .i64 (F (i + 2) 2)] := rfl
/-- A row of triangles of the call's own. -/
def RetTris (n : Nat) (G : Nat → Nat → Int) (w : World) (e : Ending) (w' : World) : Prop :=
  Below w.heap.size w w' ∧ ∃ a c, e = .returned (.slice a n c) ∧ RowK w' a n 9 G ∧ c ≤ 9223372036854775807

set_option maxRecDepth 100000 in
set_option maxHeartbeats 8000000 in
theorem fan_any (A : Option Addr) (n c : Nat) (F : Nat → Nat → Int) (w : World) (hr : RowK w A n 3 F) (hn : n ≤ 1000) :
    Calls Tryd.prog 19 #[.slice A n c] w (RetTris (n - 2) (fanF F) w) := by
  have HB := Lib.hid (Below.refl w.heap.size w)
  have R := Lib.hid hr
  clear hr
  go_enter Tryd.func19, Tryd.ntmps19
  go_wp2_with fail
  go_loopw [3, 4] (fun v x wr => ∃ k : Nat, x = .int .i64 ((k : Int) + 1) ∧ k ≤ n ∧ (k = 0 ∨ k + 2 ≤ n) ∧ wr.ownsRow w.heap.size 45 9 v k (valsK k 9 (fanF F)) ∧ Below w.heap.size w wr) (fun _ x _ => n - (intOf x).toNat)
  case atStart => exact ⟨0, rfl, Nat.zero_le _, .inl rfl, World.ownsRow_nil _ _ _ _, HB.out⟩
  case round =>
    clear HB
    obtain ⟨k, rfl, hk, hk', hO, hB⟩ := hrel
    have HB := Lib.hid hB
    have HO := Lib.hid hO
    clear hB hO
    obtain ⟨i, hi⟩ : ∃ i : Nat, k + 1 = i := ⟨_, rfl⟩
    obtain ⟨j, hj⟩ : ∃ j : Nat, k + 2 = j := ⟨_, rfl⟩
    have hi' : ((k : Int) + 1) = (i : Int) := by omega
    rw [hi']
    have q1 : IntKind.i64.wrap ((i : Int) + 1) = (j : Int) := by rw [IntKind.wrap_i64]; omega
    have hbound := HB.out.size
    by_cases hlt : j < n
    · have c0 : (j : Int) < n := by omega
      obtain ⟨b, off, rfl, hlb, hc⟩ := R.out.at hlt
      have x0 := hc 0 (by omega)
      have x1 := hc i (by omega)
      have x2 := hc j (by omega)
      have p0 : wr.cell? ⟨b, off, none⟩ = some (.int .i64 (F 0 0)) := (HB.out.cell (p := ⟨b, off, none⟩) hlb).trans (by have := x0 0 (by decide); rwa [Nat.zero_mul] at this)
      have p1 : wr.cell? ⟨b, off + 1, none⟩ = some (.int .i64 (F 0 1)) := (HB.out.cell (p := ⟨b, off + 1, none⟩) hlb).trans (by have := x0 1 (by decide); rwa [Nat.zero_mul] at this)
      have p2 : wr.cell? ⟨b, off + 2, none⟩ = some (.int .i64 (F 0 2)) := (HB.out.cell (p := ⟨b, off + 2, none⟩) hlb).trans (by have := x0 2 (by decide); rwa [Nat.zero_mul] at this)
      have p3 : wr.cell? ⟨b, off + i * 3, none⟩ = some (.int .i64 (F i 0)) := (HB.out.cell (p := ⟨b, off + i * 3, none⟩) hlb).trans (x1 0 (by decide))
      have p4 : wr.cell? ⟨b, off + i * 3 + 1, none⟩ = some (.int .i64 (F i 1)) := (HB.out.cell (p := ⟨b, off + i * 3 + 1, none⟩) hlb).trans (x1 1 (by decide))
      have p5 : wr.cell? ⟨b, off + i * 3 + 2, none⟩ = some (.int .i64 (F i 2)) := (HB.out.cell (p := ⟨b, off + i * 3 + 2, none⟩) hlb).trans (x1 2 (by decide))
      have p6 : wr.cell? ⟨b, off + j * 3, none⟩ = some (.int .i64 (F j 0)) := (HB.out.cell (p := ⟨b, off + j * 3, none⟩) hlb).trans (x2 0 (by decide))
      have p7 : wr.cell? ⟨b, off + j * 3 + 1, none⟩ = some (.int .i64 (F j 1)) := (HB.out.cell (p := ⟨b, off + j * 3 + 1, none⟩) hlb).trans (x2 1 (by decide))
      have p8 : wr.cell? ⟨b, off + j * 3 + 2, none⟩ = some (.int .i64 (F j 2)) := (HB.out.cell (p := ⟨b, off + j * 3 + 2, none⟩) hlb).trans (x2 2 (by decide))
      have X0 := Lib.hid p0
      have X1 := Lib.hid p1
      have X2 := Lib.hid p2
      have X3 := Lib.hid p3
      have X4 := Lib.hid p4
      have X5 := Lib.hid p5
      have X6 := Lib.hid p6
      have X7 := Lib.hid p7
      have X8 := Lib.hid p8
      have VS : Hid (valsK (k + 1) 9 (fanF F) = valsK k 9 (fanF F) ++ [.int .i64 (F 0 0), .int .i64 (F 0 1), .int .i64 (F 0 2), .int .i64 (F i 0), .int .i64 (F i 1), .int .i64 (F i 2), .int .i64 (F j 0), .int .i64 (F j 1), .int .i64 (F j 2)]) := Lib.hid (by rw [valsK_succ, fan_row, hi, hj])
      clear p0 p1 p2 p3 p4 p5 p6 p7 p8 x0 x1 x2 hc
      have i0 : (0 : Int) ≤ (i : Int) := by omega
      have j0 : (0 : Int) ≤ (j : Int) := by omega
      have i1 : (i : Int) < n := by omega
      have n0 : (0 : Int) < n := by omega
      have n00 : 0 < n := by omega
      have hO : OwnR wr w.heap.size 45 9 u3 k (valsK k 9 (fanF F)) := HO.out
      have HL := Lib.hid hlb
      have HKI := Lib.hid (And.intro hi hj)
      obtain ⟨a0, ha0⟩ : ∃ x, F 0 0 = x := ⟨_, rfl⟩
      obtain ⟨a1, ha1⟩ : ∃ x, F 0 1 = x := ⟨_, rfl⟩
      obtain ⟨a2, ha2⟩ : ∃ x, F 0 2 = x := ⟨_, rfl⟩
      obtain ⟨a3, ha3⟩ : ∃ x, F i 0 = x := ⟨_, rfl⟩
      obtain ⟨a4, ha4⟩ : ∃ x, F i 1 = x := ⟨_, rfl⟩
      obtain ⟨a5, ha5⟩ : ∃ x, F i 2 = x := ⟨_, rfl⟩
      obtain ⟨a6, ha6⟩ : ∃ x, F j 0 = x := ⟨_, rfl⟩
      obtain ⟨a7, ha7⟩ : ∃ x, F j 1 = x := ⟨_, rfl⟩
      obtain ⟨a8, ha8⟩ : ∃ x, F j 2 = x := ⟨_, rfl⟩
      rw [ha0, ha1, ha2, ha3, ha4, ha5, ha6, ha7, ha8] at VS
      rw [ha0] at X0
      rw [ha1] at X1
      rw [ha2] at X2
      rw [ha3] at X3
      rw [ha4] at X4
      rw [ha5] at X5
      rw [ha6] at X6
      rw [ha7] at X7
      rw [ha8] at X8
      clear ha0 ha1 ha2 ha3 ha4 ha5 ha6 ha7 ha8 hlb hi hj hi'
      go_upto_region 5 with fail
      refine wp_region_rel2 (by kernel_rfl) [3, 12, 13, 14, 15, 16, 17, 18, 19, 20, 21, 22, 23, 24, 25, 26, 27] ?Fr1 ?hFr1
        (fun L u W => Below w.heap.size wr W ∧ (L 0 = true → u 12 = u3) ∧ (L 1 = true → u 13 = .slice (some ⟨b, off, none⟩) n c) ∧ (L 2 = true → u 14 = .pointer (some ⟨b, off, none⟩)) ∧ (L 3 = true → u 15 = .agg #[.int .i64 a0, .int .i64 a1, .int .i64 a2]) ∧ (L 4 = true → u 16 = .slice (some ⟨b, off, none⟩) n c) ∧ (L 5 = true → u 17 = .int .i64 i) ∧ (L 6 = true → u 18 = .pointer (some ⟨b, off + i * 3, none⟩)) ∧ (L 7 = true → u 19 = .agg #[.int .i64 a3, .int .i64 a4, .int .i64 a5]) ∧ (L 8 = true → u 20 = .slice (some ⟨b, off, none⟩) n c) ∧ (L 9 = true → u 21 = .int .i64 i) ∧ (L 10 = true → u 22 = .int .i64 j) ∧ (L 11 = true → u 23 = .pointer (some ⟨b, off + j * 3, none⟩)) ∧ (L 12 = true → u 24 = .agg #[.int .i64 a6, .int .i64 a7, .int .i64 a8]) ∧ (L 13 = true → u 25 = .agg #[.int .i64 a0, .int .i64 a1, .int .i64 a2, .int .i64 a3, .int .i64 a4, .int .i64 a5, .int .i64 a6, .int .i64 a7, .int .i64 a8]) ∧ (L 14 = true → L 15 = false → RowAt W (u 26) 1 45 #[.int .i64 a0, .int .i64 a1, .int .i64 a2, .int .i64 a3, .int .i64 a4, .int .i64 a5, .int .i64 a6, .int .i64 a7, .int .i64 a8]) ∧ (L 15 = true → L 16 = false → OwnR W w.heap.size 45 9 (u 27) (k + 1) (valsK (k + 1) 9 (fanF F))) ∧ (L 16 = true → OwnR W w.heap.size 45 9 (u 3) (k + 1) (valsK (k + 1) 9 (fanF F))) ∧ (L 15 = false → OwnR W w.heap.size 45 9 u3 k (valsK k 9 (fanF F))) ∧ (L 16 = false → u 3 = u3) ∧ (L 16 = true → L 0 = true) ∧ (L 16 = false → True) ∧ (L 16 = true → L 15 = true)) (by kernel_rfl) (by kernel_rfl) 17 rfl ?h0r1 ?stepr1 ?finr1
      case hFr1 => intro u; simp only [putAll, Act.put, List.setIfInBounds_toArray, List.set]; exact rfl
      case h0r1 => intro L hL; exact ⟨(Below.refl _ _).drew, (fun h => by simp [hL] at h), (fun h => by simp [hL] at h), (fun h => by simp [hL] at h), (fun h => by simp [hL] at h), (fun h => by simp [hL] at h), (fun h => by simp [hL] at h), (fun h => by simp [hL] at h), (fun h => by simp [hL] at h), (fun h => by simp [hL] at h), (fun h => by simp [hL] at h), (fun h => by simp [hL] at h), (fun h => by simp [hL] at h), (fun h => by simp [hL] at h), (fun h => by simp [hL] at h), (fun h => by simp [hL] at h), (fun h => by simp [hL] at h), (fun h => by simp [hL] at h), (fun _ => by assumption), (fun _ => by first | rfl | trivial), (fun h => by simp [hL] at h), (fun _ => by first | rfl | trivial), (fun h => by simp [hL] at h)⟩
      case stepr1 =>
        refine ops_all (ops_cons ?s0r1 (ops_cons ?s1r1 (ops_cons ?s2r1 (ops_cons ?s3r1 (ops_cons ?s4r1 (ops_cons ?s5r1 (ops_cons ?s6r1 (ops_cons ?s7r1 (ops_cons ?s8r1 (ops_cons ?s9r1 (ops_cons ?s10r1 (ops_cons ?s11r1 (ops_cons ?s12r1 (ops_cons ?s13r1 (ops_cons ?s14r1 (ops_cons ?s15r1 (ops_cons ?s16r1 (ops_nil))))))))))))))))))
        case s0r1 =>
          rintro L u W ⟨hB, c0, c1, c2, c3, c4, c5, c6, c7, c8, c9, c10, c11, c12, c13, c14, c15, c16, pre0, ini0, id0, ini1, id1⟩ hf hd K hK
          dsimp only at hK
          have ei0 := ini0 (by cases h : L 16 with | false => rfl | true => rw [id0 h] at hf; cases hf)
          rw [ei0] at hK
          clear hd
          go_simp
          refine hK _ _ ?_ (fun h => by cases h)
          intro s hs
          cases hs
          exact ⟨hB, (fun _ => rfl), c1, c2, c3, c4, c5, c6, c7, c8, c9, c10, c11, c12, c13, c14, c15, c16, pre0, ini0, (fun _ => rfl), ini1, id1⟩
        case s1r1 =>
          rintro L u W ⟨hB, c0, c1, c2, c3, c4, c5, c6, c7, c8, c9, c10, c11, c12, c13, c14, c15, c16, pre0, ini0, id0, ini1, id1⟩ hf hd K hK
          dsimp only at hK
          clear hd
          go_simp
          refine hK _ _ ?_ (fun h => by cases h)
          intro s hs
          cases hs
          exact ⟨hB, c0, (fun _ => rfl), c2, c3, c4, c5, c6, c7, c8, c9, c10, c11, c12, c13, c14, c15, c16, pre0, ini0, id0, ini1, id1⟩
        case s2r1 =>
          rintro L u W ⟨hB, c0, c1, c2, c3, c4, c5, c6, c7, c8, c9, c10, c11, c12, c13, c14, c15, c16, pre0, ini0, id0, ini1, id1⟩ hf hd K hK
          dsimp only at hK
          have hd1 : L 1 = true := (by first | (refine hd ⟨1, .data⟩ ?_ rfl; simp; done) | (refine hd ⟨1, .guard⟩ ?_ rfl; simp; done) | (refine hd ⟨1, .phase⟩ ?_ rfl; simp; done) | (refine hd ⟨1, .chain⟩ ?_ rfl; simp; done))
          have e1 := c1 hd1
          rw [e1] at hK
          clear hd1
          clear hd
          go_simp
          refine hK _ _ ?_ (fun h => by cases h)
          intro s hs
          cases hs
          exact ⟨hB, c0, c1, (fun _ => rfl), c3, c4, c5, c6, c7, c8, c9, c10, c11, c12, c13, c14, c15, c16, pre0, ini0, id0, ini1, id1⟩
        case s3r1 =>
          rintro L u W ⟨hB, c0, c1, c2, c3, c4, c5, c6, c7, c8, c9, c10, c11, c12, c13, c14, c15, c16, pre0, ini0, id0, ini1, id1⟩ hf hd K hK
          dsimp only at hK
          have hd2 : L 2 = true := (by first | (refine hd ⟨2, .data⟩ ?_ rfl; simp; done) | (refine hd ⟨2, .guard⟩ ?_ rfl; simp; done) | (refine hd ⟨2, .phase⟩ ?_ rfl; simp; done) | (refine hd ⟨2, .chain⟩ ?_ rfl; simp; done))
          have e2 := c2 hd2
          rw [e2] at hK
          have t0 := (hB.cell (p := ⟨b, off, none⟩) HL.out).trans X0.out
          have t1 := (hB.cell (p := ⟨b, off + 1, none⟩) HL.out).trans X1.out
          have t2 := (hB.cell (p := ⟨b, off + 2, none⟩) HL.out).trans X2.out
          clear hd2
          clear hd
          go_simp
          refine hK _ _ ?_ (fun h => by cases h)
          intro s hs
          cases hs
          exact ⟨hB, c0, c1, c2, (fun _ => rfl), c4, c5, c6, c7, c8, c9, c10, c11, c12, c13, c14, c15, c16, pre0, ini0, id0, ini1, id1⟩
        case s4r1 =>
          rintro L u W ⟨hB, c0, c1, c2, c3, c4, c5, c6, c7, c8, c9, c10, c11, c12, c13, c14, c15, c16, pre0, ini0, id0, ini1, id1⟩ hf hd K hK
          dsimp only at hK
          clear hd
          go_simp
          refine hK _ _ ?_ (fun h => by cases h)
          intro s hs
          cases hs
          exact ⟨hB, c0, c1, c2, c3, (fun _ => rfl), c5, c6, c7, c8, c9, c10, c11, c12, c13, c14, c15, c16, pre0, ini0, id0, ini1, id1⟩
        case s5r1 =>
          rintro L u W ⟨hB, c0, c1, c2, c3, c4, c5, c6, c7, c8, c9, c10, c11, c12, c13, c14, c15, c16, pre0, ini0, id0, ini1, id1⟩ hf hd K hK
          dsimp only at hK
          clear hd
          go_simp
          refine hK _ _ ?_ (fun h => by cases h)
          intro s hs
          cases hs
          exact ⟨hB, c0, c1, c2, c3, c4, (fun _ => rfl), c6, c7, c8, c9, c10, c11, c12, c13, c14, c15, c16, pre0, ini0, id0, ini1, id1⟩
        case s6r1 =>
          rintro L u W ⟨hB, c0, c1, c2, c3, c4, c5, c6, c7, c8, c9, c10, c11, c12, c13, c14, c15, c16, pre0, ini0, id0, ini1, id1⟩ hf hd K hK
          dsimp only at hK
          have hd4 : L 4 = true := (by first | (refine hd ⟨4, .data⟩ ?_ rfl; simp; done) | (refine hd ⟨4, .guard⟩ ?_ rfl; simp; done) | (refine hd ⟨4, .phase⟩ ?_ rfl; simp; done) | (refine hd ⟨4, .chain⟩ ?_ rfl; simp; done))
          have hd5 : L 5 = true := (by first | (refine hd ⟨5, .data⟩ ?_ rfl; simp; done) | (refine hd ⟨5, .guard⟩ ?_ rfl; simp; done) | (refine hd ⟨5, .phase⟩ ?_ rfl; simp; done) | (refine hd ⟨5, .chain⟩ ?_ rfl; simp; done))
          have e4 := c4 hd4
          rw [e4] at hK
          have e5 := c5 hd5
          rw [e5] at hK
          clear hd4
          clear hd5
          clear hd
          go_simp
          refine hK _ _ ?_ (fun h => by cases h)
          intro s hs
          cases hs
          exact ⟨hB, c0, c1, c2, c3, c4, c5, (fun _ => rfl), c7, c8, c9, c10, c11, c12, c13, c14, c15, c16, pre0, ini0, id0, ini1, id1⟩
        case s7r1 =>
          rintro L u W ⟨hB, c0, c1, c2, c3, c4, c5, c6, c7, c8, c9, c10, c11, c12, c13, c14, c15, c16, pre0, ini0, id0, ini1, id1⟩ hf hd K hK
          dsimp only at hK
          have hd6 : L 6 = true := (by first | (refine hd ⟨6, .data⟩ ?_ rfl; simp; done) | (refine hd ⟨6, .guard⟩ ?_ rfl; simp; done) | (refine hd ⟨6, .phase⟩ ?_ rfl; simp; done) | (refine hd ⟨6, .chain⟩ ?_ rfl; simp; done))
          have e6 := c6 hd6
          rw [e6] at hK
          have t0 := (hB.cell (p := ⟨b, off + i * 3, none⟩) HL.out).trans X3.out
          have t1 := (hB.cell (p := ⟨b, off + i * 3 + 1, none⟩) HL.out).trans X4.out
          have t2 := (hB.cell (p := ⟨b, off + i * 3 + 2, none⟩) HL.out).trans X5.out
          clear hd6
          clear hd
          go_simp
          refine hK _ _ ?_ (fun h => by cases h)
          intro s hs
          cases hs
          exact ⟨hB, c0, c1, c2, c3, c4, c5, c6, (fun _ => rfl), c8, c9, c10, c11, c12, c13, c14, c15, c16, pre0, ini0, id0, ini1, id1⟩
        case s8r1 =>
          rintro L u W ⟨hB, c0, c1, c2, c3, c4, c5, c6, c7, c8, c9, c10, c11, c12, c13, c14, c15, c16, pre0, ini0, id0, ini1, id1⟩ hf hd K hK
          dsimp only at hK
          clear hd
          go_simp
          refine hK _ _ ?_ (fun h => by cases h)
          intro s hs
          cases hs
          exact ⟨hB, c0, c1, c2, c3, c4, c5, c6, c7, (fun _ => rfl), c9, c10, c11, c12, c13, c14, c15, c16, pre0, ini0, id0, ini1, id1⟩
        case s9r1 =>
          rintro L u W ⟨hB, c0, c1, c2, c3, c4, c5, c6, c7, c8, c9, c10, c11, c12, c13, c14, c15, c16, pre0, ini0, id0, ini1, id1⟩ hf hd K hK
          dsimp only at hK
          clear hd
          go_simp
          refine hK _ _ ?_ (fun h => by cases h)
          intro s hs
          cases hs
          exact ⟨hB, c0, c1, c2, c3, c4, c5, c6, c7, c8, (fun _ => rfl), c10, c11, c12, c13, c14, c15, c16, pre0, ini0, id0, ini1, id1⟩
        case s10r1 =>
          rintro L u W ⟨hB, c0, c1, c2, c3, c4, c5, c6, c7, c8, c9, c10, c11, c12, c13, c14, c15, c16, pre0, ini0, id0, ini1, id1⟩ hf hd K hK
          dsimp only at hK
          have hd9 : L 9 = true := (by first | (refine hd ⟨9, .data⟩ ?_ rfl; simp; done) | (refine hd ⟨9, .guard⟩ ?_ rfl; simp; done) | (refine hd ⟨9, .phase⟩ ?_ rfl; simp; done) | (refine hd ⟨9, .chain⟩ ?_ rfl; simp; done))
          have e9 := c9 hd9
          rw [e9] at hK
          clear hd9
          clear hd
          go_simp
          refine hK _ _ ?_ (fun h => by cases h)
          intro s hs
          cases hs
          exact ⟨hB, c0, c1, c2, c3, c4, c5, c6, c7, c8, c9, (fun _ => rfl), c11, c12, c13, c14, c15, c16, pre0, ini0, id0, ini1, id1⟩
        case s11r1 =>
          rintro L u W ⟨hB, c0, c1, c2, c3, c4, c5, c6, c7, c8, c9, c10, c11, c12, c13, c14, c15, c16, pre0, ini0, id0, ini1, id1⟩ hf hd K hK
          dsimp only at hK
          have hd8 : L 8 = true := (by first | (refine hd ⟨8, .data⟩ ?_ rfl; simp; done) | (refine hd ⟨8, .guard⟩ ?_ rfl; simp; done) | (refine hd ⟨8, .phase⟩ ?_ rfl; simp; done) | (refine hd ⟨8, .chain⟩ ?_ rfl; simp; done))
          have hd10 : L 10 = true := (by first | (refine hd ⟨10, .data⟩ ?_ rfl; simp; done) | (refine hd ⟨10, .guard⟩ ?_ rfl; simp; done) | (refine hd ⟨10, .phase⟩ ?_ rfl; simp; done) | (refine hd ⟨10, .chain⟩ ?_ rfl; simp; done))
          have e8 := c8 hd8
          rw [e8] at hK
          have e10 := c10 hd10
          rw [e10] at hK
          clear hd8
          clear hd10
          clear hd
          go_simp
          refine hK _ _ ?_ (fun h => by cases h)
          intro s hs
          cases hs
          exact ⟨hB, c0, c1, c2, c3, c4, c5, c6, c7, c8, c9, c10, (fun _ => rfl), c12, c13, c14, c15, c16, pre0, ini0, id0, ini1, id1⟩
        case s12r1 =>
          rintro L u W ⟨hB, c0, c1, c2, c3, c4, c5, c6, c7, c8, c9, c10, c11, c12, c13, c14, c15, c16, pre0, ini0, id0, ini1, id1⟩ hf hd K hK
          dsimp only at hK
          have hd11 : L 11 = true := (by first | (refine hd ⟨11, .data⟩ ?_ rfl; simp; done) | (refine hd ⟨11, .guard⟩ ?_ rfl; simp; done) | (refine hd ⟨11, .phase⟩ ?_ rfl; simp; done) | (refine hd ⟨11, .chain⟩ ?_ rfl; simp; done))
          have e11 := c11 hd11
          rw [e11] at hK
          have t0 := (hB.cell (p := ⟨b, off + j * 3, none⟩) HL.out).trans X6.out
          have t1 := (hB.cell (p := ⟨b, off + j * 3 + 1, none⟩) HL.out).trans X7.out
          have t2 := (hB.cell (p := ⟨b, off + j * 3 + 2, none⟩) HL.out).trans X8.out
          clear hd11
          clear hd
          go_simp
          refine hK _ _ ?_ (fun h => by cases h)
          intro s hs
          cases hs
          exact ⟨hB, c0, c1, c2, c3, c4, c5, c6, c7, c8, c9, c10, c11, (fun _ => rfl), c13, c14, c15, c16, pre0, ini0, id0, ini1, id1⟩
        case s13r1 =>
          rintro L u W ⟨hB, c0, c1, c2, c3, c4, c5, c6, c7, c8, c9, c10, c11, c12, c13, c14, c15, c16, pre0, ini0, id0, ini1, id1⟩ hf hd K hK
          dsimp only at hK
          have hd3 : L 3 = true := (by first | (refine hd ⟨3, .data⟩ ?_ rfl; simp; done) | (refine hd ⟨3, .guard⟩ ?_ rfl; simp; done) | (refine hd ⟨3, .phase⟩ ?_ rfl; simp; done) | (refine hd ⟨3, .chain⟩ ?_ rfl; simp; done))
          have hd7 : L 7 = true := (by first | (refine hd ⟨7, .data⟩ ?_ rfl; simp; done) | (refine hd ⟨7, .guard⟩ ?_ rfl; simp; done) | (refine hd ⟨7, .phase⟩ ?_ rfl; simp; done) | (refine hd ⟨7, .chain⟩ ?_ rfl; simp; done))
          have hd12 : L 12 = true := (by first | (refine hd ⟨12, .data⟩ ?_ rfl; simp; done) | (refine hd ⟨12, .guard⟩ ?_ rfl; simp; done) | (refine hd ⟨12, .phase⟩ ?_ rfl; simp; done) | (refine hd ⟨12, .chain⟩ ?_ rfl; simp; done))
          have e3 := c3 hd3
          rw [e3] at hK
          have e7 := c7 hd7
          rw [e7] at hK
          have e12 := c12 hd12
          rw [e12] at hK
          clear hd3
          clear hd7
          clear hd12
          clear hd
          go_simp
          refine hK _ _ ?_ (fun h => by cases h)
          intro s hs
          cases hs
          exact ⟨hB, c0, c1, c2, c3, c4, c5, c6, c7, c8, c9, c10, c11, c12, (fun _ => rfl), c14, c15, c16, pre0, ini0, id0, ini1, id1⟩
        case s14r1 =>
          rintro L u W ⟨hB, c0, c1, c2, c3, c4, c5, c6, c7, c8, c9, c10, c11, c12, c13, c14, c15, c16, pre0, ini0, id0, ini1, id1⟩ hf hd K hK
          dsimp only at hK
          have hd13 : L 13 = true := (by first | (refine hd ⟨13, .data⟩ ?_ rfl; simp; done) | (refine hd ⟨13, .guard⟩ ?_ rfl; simp; done) | (refine hd ⟨13, .phase⟩ ?_ rfl; simp; done) | (refine hd ⟨13, .chain⟩ ?_ rfl; simp; done))
          have e13 := c13 hd13
          rw [e13] at hK
          clear hd13
          clear hd
          go_simp
          have hb : Below W.heap.size W (W.alloc (.cells #[.int .i64 a0, .int .i64 a1, .int .i64 a2, .int .i64 a3, .int .i64 a4, .int .i64 a5, .int .i64 a6, .int .i64 a7, .int .i64 a8] 45)) := (Below.refl _ W).alloc (Nat.le_refl _) _
          refine hK _ _ ?_ (fun h => by cases h)
          intro s hs
          cases hs
          exact ⟨hB.trans (hb.mono (Nat.le_trans hbound hB.size)), c0, c1, c2, c3, c4, c5, c6, c7, c8, c9, c10, c11, c12, c13, (fun _ _ => ⟨_, rfl, Lok.new _ _ _⟩), (fun h k => (c15 h k).keep hb), (fun h => (c16 h).keep hb), (fun h => (pre0 h).keep hb), ini0, id0, ini1, id1⟩
        case s15r1 =>
          rintro L u W ⟨hB, c0, c1, c2, c3, c4, c5, c6, c7, c8, c9, c10, c11, c12, c13, c14, c15, c16, pre0, ini0, id0, ini1, id1⟩ hf hd K hK
          dsimp only at hK
          have hd0 : L 0 = true := (by first | (refine hd ⟨0, .data⟩ ?_ rfl; simp; done) | (refine hd ⟨0, .guard⟩ ?_ rfl; simp; done) | (refine hd ⟨0, .phase⟩ ?_ rfl; simp; done) | (refine hd ⟨0, .chain⟩ ?_ rfl; simp; done))
          have hd14 : L 14 = true := (by first | (refine hd ⟨14, .data⟩ ?_ rfl; simp; done) | (refine hd ⟨14, .guard⟩ ?_ rfl; simp; done) | (refine hd ⟨14, .phase⟩ ?_ rfl; simp; done) | (refine hd ⟨14, .chain⟩ ?_ rfl; simp; done))
          have e0 := c0 hd0
          have e14 := c14 hd14 (by first | exact hf | assumption)
          clear hd0
          clear hd14
          clear hd
          refine Eq.mpr (if_pos rfl) ?_
          obtain ⟨g5, eg, lg⟩ := e14
          refine app_act _ _ 34 45 _ 9 72 Tryd.underlying34 infoT rfl (by decide) rfl w.heap.size u3 k (valsK k 9 (fanF F)) _ rfl (fun u hu => by simp at hu; rcases hu with rfl | rfl | rfl | rfl | rfl | rfl | rfl | rfl | rfl <;> rfl) e0 (pre0 hf) g5 1 eg lg (by omega) (by omega) (Nat.le_trans hbound hB.size) ?_
          intro v5 W5 q hb
          rw [← VS.out] at q
          refine hK _ _ ?_ (fun h => by cases h)
          intro s hs
          cases hs
          exact ⟨hB.trans hb, c0, c1, c2, c3, c4, c5, c6, c7, c8, c9, c10, c11, c12, c13, (fun _ h => by cases h), (fun _ _ => q), (fun h => by have z := id1 h; rw [hf] at z; cases z), (fun h => by cases h), ini0, id0, ini1, (fun _ => rfl)⟩
        case s16r1 =>
          rintro L u W ⟨hB, c0, c1, c2, c3, c4, c5, c6, c7, c8, c9, c10, c11, c12, c13, c14, c15, c16, pre0, ini0, id0, ini1, id1⟩ hf hd K hK
          dsimp only at hK
          have hdi0 : L 0 = true := (by first | (refine hd ⟨0, .data⟩ ?_ rfl; simp; done) | (refine hd ⟨0, .phase⟩ ?_ rfl; simp; done) | (refine hd ⟨0, .chain⟩ ?_ rfl; simp; done))
          replace hdi0 := Lib.hid hdi0
          have hdi1 : L 15 = true := (by first | (refine hd ⟨15, .data⟩ ?_ rfl; simp; done) | (refine hd ⟨15, .phase⟩ ?_ rfl; simp; done) | (refine hd ⟨15, .chain⟩ ?_ rfl; simp; done))
          replace hdi1 := Lib.hid hdi1
          have hd15 : L 15 = true := (by first | (refine hd ⟨15, .data⟩ ?_ rfl; simp; done) | (refine hd ⟨15, .guard⟩ ?_ rfl; simp; done) | (refine hd ⟨15, .phase⟩ ?_ rfl; simp; done) | (refine hd ⟨15, .chain⟩ ?_ rfl; simp; done))
          have e15 := c15 hd15 (by first | exact hf | assumption)
          have q := e15
          clear hd15
          clear hd
          go_simp
          refine hK _ _ ?_ (fun h => by cases h)
          intro s hs
          cases hs
          exact ⟨hB, c0, c1, c2, c3, c4, c5, c6, c7, c8, c9, c10, c11, c12, c13, c14, (fun _ h => by cases h), (fun _ => q), pre0, (fun h => by cases h), (fun _ => hdi0.out), (fun h => by cases h), (fun _ => hdi1.out)⟩
      case finr1 =>
        rintro L u W hL ⟨hB, c0, c1, c2, c3, c4, c5, c6, c7, c8, c9, c10, c11, c12, c13, c14, c15, c16, pre0, ini0, id0, ini1, id1⟩
        have e0 := c0 (hL 0 (by decide))
        have e1 := c1 (hL 1 (by decide))
        have e2 := c2 (hL 2 (by decide))
        have e3 := c3 (hL 3 (by decide))
        have e4 := c4 (hL 4 (by decide))
        have e5 := c5 (hL 5 (by decide))
        have e6 := c6 (hL 6 (by decide))
        have e7 := c7 (hL 7 (by decide))
        have e8 := c8 (hL 8 (by decide))
        have e9 := c9 (hL 9 (by decide))
        have e10 := c10 (hL 10 (by decide))
        have e11 := c11 (hL 11 (by decide))
        have e12 := c12 (hL 12 (by decide))
        have e13 := c13 (hL 13 (by decide))
        have kq16 := c16 (hL 16 (by decide))
        clear hL c0 c1 c2 c3 c4 c5 c6 c7 c8 c9 c10 c11 c12 c13 c14 c15 c16 pre0 ini0 id0 ini1 id1
        try simp only [e0, e1, e2, e3, e4, e5, e6, e7, e8, e9, e10, e11, e12, e13]
        clear e0 e1 e2 e3 e4 e5 e6 e7 e8 e9 e10 e11 e12 e13
        replace HB := Lib.hid (HB.out.trans hB)
        have KQ := Lib.hid kq16
        clear hB kq16
        generalize u 3 = v5 at *
        obtain ⟨hi, hj⟩ := HKI.out
        have hj' : (j : Int) = (k : Int) + 1 + 1 := by omega
        have hm : n - (k + 1) < n - k := by omega
        go_wp2_with fail
        go_roundw
        case rel => exact ⟨k + 1, by go_num, by omega, .inr (by omega), KQ.out, HB.out⟩
        case measure => simp [intOf]; omega
    · have c0 : ¬ (j : Int) < n := by omega
      have hk2 : k = n - 2 := by omega
      subst hk2
      obtain ⟨a, c', rfl, -, hc1, hc2, hr⟩ := rowK_of_own2 HO.out
      have HR := Lib.hid hr
      clear HO hr
      go_wp2_with fail
      go_ret
      exact ⟨HB.out, a, c', rfl, HR.out, hc2⟩

set_option maxRecDepth 100000 in
set_option maxHeartbeats 8000000 in
theorem rfan_any (A : Option Addr) (n c : Nat) (F : Nat → Nat → Int) (w : World) (hr : RowK w A n 3 F) (hn : n ≤ 1000) :
    Calls Tryd.prog 20 #[.slice A n c] w (RetTris (n - 2) (fanF F) w) := by
  have HB := Lib.hid (Below.refl w.heap.size w)
  have R := Lib.hid hr
  clear hr
  go_enter Tryd.func20, Tryd.ntmps20
  go_wp2_with fail
  go_loopw [3, 4] (fun v x wr => ∃ k : Nat, x = .int .i64 ((k : Int) + 1) ∧ k ≤ n ∧ (k = 0 ∨ k + 2 ≤ n) ∧ wr.ownsRow w.heap.size 45 9 v k (valsK k 9 (fanF F)) ∧ Below w.heap.size w wr) (fun _ x _ => n - (intOf x).toNat)
  case atStart => exact ⟨0, rfl, Nat.zero_le _, .inl rfl, World.ownsRow_nil _ _ _ _, HB.out⟩
  case round =>
    clear HB
    obtain ⟨k, rfl, hk, hk', hO, hB⟩ := hrel
    have HB := Lib.hid hB
    have HO := Lib.hid hO
    clear hB hO
    obtain ⟨i, hi⟩ : ∃ i : Nat, k + 1 = i := ⟨_, rfl⟩
    obtain ⟨j, hj⟩ : ∃ j : Nat, k + 2 = j := ⟨_, rfl⟩
    have hi' : ((k : Int) + 1) = (i : Int) := by omega
    rw [hi']
    have q1 : IntKind.i64.wrap ((i : Int) + 1) = (j : Int) := by rw [IntKind.wrap_i64]; omega
    have hbound := HB.out.size
    by_cases hlt : j < n
    · have c0 : (j : Int) < n := by omega
      obtain ⟨b, off, rfl, hlb, hc⟩ := R.out.at hlt
      have x0 := hc 0 (by omega)
      have x1 := hc i (by omega)
      have x2 := hc j (by omega)
      have p0 : wr.cell? ⟨b, off, none⟩ = some (.int .i64 (F 0 0)) := (HB.out.cell (p := ⟨b, off, none⟩) hlb).trans (by have := x0 0 (by decide); rwa [Nat.zero_mul] at this)
      have p1 : wr.cell? ⟨b, off + 1, none⟩ = some (.int .i64 (F 0 1)) := (HB.out.cell (p := ⟨b, off + 1, none⟩) hlb).trans (by have := x0 1 (by decide); rwa [Nat.zero_mul] at this)
      have p2 : wr.cell? ⟨b, off + 2, none⟩ = some (.int .i64 (F 0 2)) := (HB.out.cell (p := ⟨b, off + 2, none⟩) hlb).trans (by have := x0 2 (by decide); rwa [Nat.zero_mul] at this)
      have p3 : wr.cell? ⟨b, off + i * 3, none⟩ = some (.int .i64 (F i 0)) := (HB.out.cell (p := ⟨b, off + i * 3, none⟩) hlb).trans (x1 0 (by decide))
      have p4 : wr.cell? ⟨b, off + i * 3 + 1, none⟩ = some (.int .i64 (F i 1)) := (HB.out.cell (p := ⟨b, off + i * 3 + 1, none⟩) hlb).trans (x1 1 (by decide))
      have p5 : wr.cell? ⟨b, off + i * 3 + 2, none⟩ = some (.int .i64 (F i 2)) := (HB.out.cell (p := ⟨b, off + i * 3 + 2, none⟩) hlb).trans (x1 2 (by decide))
      have p6 : wr.cell? ⟨b, off + j * 3, none⟩ = some (.int .i64 (F j 0)) := (HB.out.cell (p := ⟨b, off + j * 3, none⟩) hlb).trans (x2 0 (by decide))
      have p7 : wr.cell? ⟨b, off + j * 3 + 1, none⟩ = some (.int .i64 (F j 1)) := (HB.out.cell (p := ⟨b, off + j * 3 + 1, none⟩) hlb).trans (x2 1 (by decide))
      have p8 : wr.cell? ⟨b, off + j * 3 + 2, none⟩ = some (.int .i64 (F j 2)) := (HB.out.cell (p := ⟨b, off + j * 3 + 2, none⟩) hlb).trans (x2 2 (by decide))
      have X0 := Lib.hid p0
      have X1 := Lib.hid p1
      have X2 := Lib.hid p2
      have X3 := Lib.hid p3
      have X4 := Lib.hid p4
      have X5 := Lib.hid p5
      have X6 := Lib.hid p6
      have X7 := Lib.hid p7
      have X8 := Lib.hid p8
      have VS : Hid (valsK (k + 1) 9 (fanF F) = valsK k 9 (fanF F) ++ [.int .i64 (F 0 0), .int .i64 (F 0 1), .int .i64 (F 0 2), .int .i64 (F i 0), .int .i64 (F i 1), .int .i64 (F i 2), .int .i64 (F j 0), .int .i64 (F j 1), .int .i64 (F j 2)]) := Lib.hid (by rw [valsK_succ, fan_row, hi, hj])
      clear p0 p1 p2 p3 p4 p5 p6 p7 p8 x0 x1 x2 hc
      have i0 : (0 : Int) ≤ (i : Int) := by omega
      have j0 : (0 : Int) ≤ (j : Int) := by omega
      have i1 : (i : Int) < n := by omega
      have n0 : (0 : Int) < n := by omega
      have n00 : 0 < n := by omega
      have hO : OwnR wr w.heap.size 45 9 u3 k (valsK k 9 (fanF F)) := HO.out
      have HL := Lib.hid hlb
      have HKI := Lib.hid (And.intro hi hj)
      obtain ⟨a0, ha0⟩ : ∃ x, F 0 0 = x := ⟨_, rfl⟩
      obtain ⟨a1, ha1⟩ : ∃ x, F 0 1 = x := ⟨_, rfl⟩
      obtain ⟨a2, ha2⟩ : ∃ x, F 0 2 = x := ⟨_, rfl⟩
      obtain ⟨a3, ha3⟩ : ∃ x, F i 0 = x := ⟨_, rfl⟩
      obtain ⟨a4, ha4⟩ : ∃ x, F i 1 = x := ⟨_, rfl⟩
      obtain ⟨a5, ha5⟩ : ∃ x, F i 2 = x := ⟨_, rfl⟩
      obtain ⟨a6, ha6⟩ : ∃ x, F j 0 = x := ⟨_, rfl⟩
      obtain ⟨a7, ha7⟩ : ∃ x, F j 1 = x := ⟨_, rfl⟩
      obtain ⟨a8, ha8⟩ : ∃ x, F j 2 = x := ⟨_, rfl⟩
      rw [ha0, ha1, ha2, ha3, ha4, ha5, ha6, ha7, ha8] at VS
      rw [ha0] at X0
      rw [ha1] at X1
      rw [ha2] at X2
      rw [ha3] at X3
      rw [ha4] at X4
      rw [ha5] at X5
      rw [ha6] at X6
      rw [ha7] at X7
      rw [ha8] at X8
      clear ha0 ha1 ha2 ha3 ha4 ha5 ha6 ha7 ha8 hlb hi hj hi'
      go_upto_region 5 with fail
      refine wp_region_rel2 (by kernel_rfl) [3, 12, 13, 14, 15, 16, 17, 18, 19, 20, 21, 22, 23, 24, 25, 26, 27] ?Fr2 ?hFr2
        (fun L u W => Below w.heap.size wr W ∧ (L 0 = true → u 12 = u3) ∧ (L 1 = true → u 13 = .slice (some ⟨b, off, none⟩) n c) ∧ (L 2 = true → u 14 = .pointer (some ⟨b, off, none⟩)) ∧ (L 3 = true → u 15 = .agg #[.int .i64 a0, .int .i64 a1, .int .i64 a2]) ∧ (L 4 = true → u 16 = .slice (some ⟨b, off, none⟩) n c) ∧ (L 5 = true → u 17 = .int .i64 i) ∧ (L 6 = true → u 18 = .pointer (some ⟨b, off + i * 3, none⟩)) ∧ (L 7 = true → u 19 = .agg #[.int .i64 a3, .int .i64 a4, .int .i64 a5]) ∧ (L 8 = true → u 20 = .slice (some ⟨b, off, none⟩) n c) ∧ (L 9 = true → u 21 = .int .i64 i) ∧ (L 10 = true → u 22 = .int .i64 j) ∧ (L 11 = true → u 23 = .pointer (some ⟨b, off + j * 3, none⟩)) ∧ (L 12 = true → u 24 = .agg #[.int .i64 a6, .int .i64 a7, .int .i64 a8]) ∧ (L 13 = true → u 25 = .agg #[.int .i64 a0, .int .i64 a1, .int .i64 a2, .int .i64 a3, .int .i64 a4, .int .i64 a5, .int .i64 a6, .int .i64 a7, .int .i64 a8]) ∧ (L 14 = true → L 15 = false → RowAt W (u 26) 1 45 #[.int .i64 a0, .int .i64 a1, .int .i64 a2, .int .i64 a3, .int .i64 a4, .int .i64 a5, .int .i64 a6, .int .i64 a7, .int .i64 a8]) ∧ (L 15 = true → L 16 = false → OwnR W w.heap.size 45 9 (u 27) (k + 1) (valsK (k + 1) 9 (fanF F))) ∧ (L 16 = true → OwnR W w.heap.size 45 9 (u 3) (k + 1) (valsK (k + 1) 9 (fanF F))) ∧ (L 15 = false → OwnR W w.heap.size 45 9 u3 k (valsK k 9 (fanF F))) ∧ (L 16 = false → u 3 = u3) ∧ (L 16 = true → L 0 = true) ∧ (L 16 = false → True) ∧ (L 16 = true → L 15 = true)) (by kernel_rfl) (by kernel_rfl) 17 rfl ?h0r2 ?stepr2 ?finr2
      case hFr2 => intro u; simp only [putAll, Act.put, List.setIfInBounds_toArray, List.set]; exact rfl
      case h0r2 => intro L hL; exact ⟨(Below.refl _ _).drew, (fun h => by simp [hL] at h), (fun h => by simp [hL] at h), (fun h => by simp [hL] at h), (fun h => by simp [hL] at h), (fun h => by simp [hL] at h), (fun h => by simp [hL] at h), (fun h => by simp [hL] at h), (fun h => by simp [hL] at h), (fun h => by simp [hL] at h), (fun h => by simp [hL] at h), (fun h => by simp [hL] at h), (fun h => by simp [hL] at h), (fun h => by simp [hL] at h), (fun h => by simp [hL] at h), (fun h => by simp [hL] at h), (fun h => by simp [hL] at h), (fun h => by simp [hL] at h), (fun _ => by assumption), (fun _ => by first | rfl | trivial), (fun h => by simp [hL] at h), (fun _ => by first | rfl | trivial), (fun h => by simp [hL] at h)⟩
      case stepr2 =>
        refine ops_all (ops_cons ?s0r2 (ops_cons ?s1r2 (ops_cons ?s2r2 (ops_cons ?s3r2 (ops_cons ?s4r2 (ops_cons ?s5r2 (ops_cons ?s6r2 (ops_cons ?s7r2 (ops_cons ?s8r2 (ops_cons ?s9r2 (ops_cons ?s10r2 (ops_cons ?s11r2 (ops_cons ?s12r2 (ops_cons ?s13r2 (ops_cons ?s14r2 (ops_cons ?s15r2 (ops_cons ?s16r2 (ops_nil))))))))))))))))))
        case s0r2 =>
          rintro L u W ⟨hB, c0, c1, c2, c3, c4, c5, c6, c7, c8, c9, c10, c11, c12, c13, c14, c15, c16, pre0, ini0, id0, ini1, id1⟩ hf hd K hK
          dsimp only at hK
          have ei0 := ini0 (by cases h : L 16 with | false => rfl | true => rw [id0 h] at hf; cases hf)
          rw [ei0] at hK
          clear hd
          go_simp
          refine hK _ _ ?_ (fun h => by cases h)
          intro s hs
          cases hs
          exact ⟨hB, (fun _ => rfl), c1, c2, c3, c4, c5, c6, c7, c8, c9, c10, c11, c12, c13, c14, c15, c16, pre0, ini0, (fun _ => rfl), ini1, id1⟩
        case s1r2 =>
          rintro L u W ⟨hB, c0, c1, c2, c3, c4, c5, c6, c7, c8, c9, c10, c11, c12, c13, c14, c15, c16, pre0, ini0, id0, ini1, id1⟩ hf hd K hK
          dsimp only at hK
          clear hd
          go_simp
          refine hK _ _ ?_ (fun h => by cases h)
          intro s hs
          cases hs
          exact ⟨hB, c0, (fun _ => rfl), c2, c3, c4, c5, c6, c7, c8, c9, c10, c11, c12, c13, c14, c15, c16, pre0, ini0, id0, ini1, id1⟩
        case s2r2 =>
          rintro L u W ⟨hB, c0, c1, c2, c3, c4, c5, c6, c7, c8, c9, c10, c11, c12, c13, c14, c15, c16, pre0, ini0, id0, ini1, id1⟩ hf hd K hK
          dsimp only at hK
          have hd1 : L 1 = true := (by first | (refine hd ⟨1, .data⟩ ?_ rfl; simp; done) | (refine hd ⟨1, .guard⟩ ?_ rfl; simp; done) | (refine hd ⟨1, .phase⟩ ?_ rfl; simp; done) | (refine hd ⟨1, .chain⟩ ?_ rfl; simp; done))
          have e1 := c1 hd1
          rw [e1] at hK
          clear hd1
          clear hd
          go_simp
          refine hK _ _ ?_ (fun h => by cases h)
          intro s hs
          cases hs
          exact ⟨hB, c0, c1, (fun _ => rfl), c3, c4, c5, c6, c7, c8, c9, c10, c11, c12, c13, c14, c15, c16, pre0, ini0, id0, ini1, id1⟩
        case s3r2 =>
          rintro L u W ⟨hB, c0, c1, c2, c3, c4, c5, c6, c7, c8, c9, c10, c11, c12, c13, c14, c15, c16, pre0, ini0, id0, ini1, id1⟩ hf hd K hK
          dsimp only at hK
          have hd2 : L 2 = true := (by first | (refine hd ⟨2, .data⟩ ?_ rfl; simp; done) | (refine hd ⟨2, .guard⟩ ?_ rfl; simp; done) | (refine hd ⟨2, .phase⟩ ?_ rfl; simp; done) | (refine hd ⟨2, .chain⟩ ?_ rfl; simp; done))
          have e2 := c2 hd2
          rw [e2] at hK
          have t0 := (hB.cell (p := ⟨b, off, none⟩) HL.out).trans X0.out
          have t1 := (hB.cell (p := ⟨b, off + 1, none⟩) HL.out).trans X1.out
          have t2 := (hB.cell (p := ⟨b, off + 2, none⟩) HL.out).trans X2.out
          clear hd2
          clear hd
          go_simp
          refine hK _ _ ?_ (fun h => by cases h)
          intro s hs
          cases hs
          exact ⟨hB, c0, c1, c2, (fun _ => rfl), c4, c5, c6, c7, c8, c9, c10, c11, c12, c13, c14, c15, c16, pre0, ini0, id0, ini1, id1⟩
        case s4r2 =>
          rintro L u W ⟨hB, c0, c1, c2, c3, c4, c5, c6, c7, c8, c9, c10, c11, c12, c13, c14, c15, c16, pre0, ini0, id0, ini1, id1⟩ hf hd K hK
          dsimp only at hK
          clear hd
          go_simp
          refine hK _ _ ?_ (fun h => by cases h)
          intro s hs
          cases hs
          exact ⟨hB, c0, c1, c2, c3, (fun _ => rfl), c5, c6, c7, c8, c9, c10, c11, c12, c13, c14, c15, c16, pre0, ini0, id0, ini1, id1⟩
        case s5r2 =>
          rintro L u W ⟨hB, c0, c1, c2, c3, c4, c5, c6, c7, c8, c9, c10, c11, c12, c13, c14, c15, c16, pre0, ini0, id0, ini1, id1⟩ hf hd K hK
          dsimp only at hK
          clear hd
          go_simp
          refine hK _ _ ?_ (fun h => by cases h)
          intro s hs
          cases hs
          exact ⟨hB, c0, c1, c2, c3, c4, (fun _ => rfl), c6, c7, c8, c9, c10, c11, c12, c13, c14, c15, c16, pre0, ini0, id0, ini1, id1⟩
        case s6r2 =>
          rintro L u W ⟨hB, c0, c1, c2, c3, c4, c5, c6, c7, c8, c9, c10, c11, c12, c13, c14, c15, c16, pre0, ini0, id0, ini1, id1⟩ hf hd K hK
          dsimp only at hK
          have hd4 : L 4 = true := (by first | (refine hd ⟨4, .data⟩ ?_ rfl; simp; done) | (refine hd ⟨4, .guard⟩ ?_ rfl; simp; done) | (refine hd ⟨4, .phase⟩ ?_ rfl; simp; done) | (refine hd ⟨4, .chain⟩ ?_ rfl; simp; done))
          have hd5 : L 5 = true := (by first | (refine hd ⟨5, .data⟩ ?_ rfl; simp; done) | (refine hd ⟨5, .guard⟩ ?_ rfl; simp; done) | (refine hd ⟨5, .phase⟩ ?_ rfl; simp; done) | (refine hd ⟨5, .chain⟩ ?_ rfl; simp; done))
          have e4 := c4 hd4
          rw [e4] at hK
          have e5 := c5 hd5
          rw [e5] at hK
          clear hd4
          clear hd5
          clear hd
          go_simp
          refine hK _ _ ?_ (fun h => by cases h)
          intro s hs
          cases hs
          exact ⟨hB, c0, c1, c2, c3, c4, c5, (fun _ => rfl), c7, c8, c9, c10, c11, c12, c13, c14, c15, c16, pre0, ini0, id0, ini1, id1⟩
        case s7r2 =>
          rintro L u W ⟨hB, c0, c1, c2, c3, c4, c5, c6, c7, c8, c9, c10, c11, c12, c13, c14, c15, c16, pre0, ini0, id0, ini1, id1⟩ hf hd K hK
          dsimp only at hK
          have hd6 : L 6 = true := (by first | (refine hd ⟨6, .data⟩ ?_ rfl; simp; done) | (refine hd ⟨6, .guard⟩ ?_ rfl; simp; done) | (refine hd ⟨6, .phase⟩ ?_ rfl; simp; done) | (refine hd ⟨6, .chain⟩ ?_ rfl; simp; done))
          have e6 := c6 hd6
          rw [e6] at hK
          have t0 := (hB.cell (p := ⟨b, off + i * 3, none⟩) HL.out).trans X3.out
          have t1 := (hB.cell (p := ⟨b, off + i * 3 + 1, none⟩) HL.out).trans X4.out
          have t2 := (hB.cell (p := ⟨b, off + i * 3 + 2, none⟩) HL.out).trans X5.out
          clear hd6
          clear hd
          go_simp
          refine hK _ _ ?_ (fun h => by cases h)
          intro s hs
          cases hs
          exact ⟨hB, c0, c1, c2, c3, c4, c5, c6, (fun _ => rfl), c8, c9, c10, c11, c12, c13, c14, c15, c16, pre0, ini0, id0, ini1, id1⟩
        case s8r2 =>
          rintro L u W ⟨hB, c0, c1, c2, c3, c4, c5, c6, c7, c8, c9, c10, c11, c12, c13, c14, c15, c16, pre0, ini0, id0, ini1, id1⟩ hf hd K hK
          dsimp only at hK
          clear hd
          go_simp
          refine hK _ _ ?_ (fun h => by cases h)
          intro s hs
          cases hs
          exact ⟨hB, c0, c1, c2, c3, c4, c5, c6, c7, (fun _ => rfl), c9, c10, c11, c12, c13, c14, c15, c16, pre0, ini0, id0, ini1, id1⟩
        case s9r2 =>
          rintro L u W ⟨hB, c0, c1, c2, c3, c4, c5, c6, c7, c8, c9, c10, c11, c12, c13, c14, c15, c16, pre0, ini0, id0, ini1, id1⟩ hf hd K hK
          dsimp only at hK
          clear hd
          go_simp
          refine hK _ _ ?_ (fun h => by cases h)
          intro s hs
          cases hs
          exact ⟨hB, c0, c1, c2, c3, c4, c5, c6, c7, c8, (fun _ => rfl), c10, c11, c12, c13, c14, c15, c16, pre0, ini0, id0, ini1, id1⟩
        case s10r2 =>
          rintro L u W ⟨hB, c0, c1, c2, c3, c4, c5, c6, c7, c8, c9, c10, c11, c12, c13, c14, c15, c16, pre0, ini0, id0, ini1, id1⟩ hf hd K hK
          dsimp only at hK
          have hd9 : L 9 = true := (by first | (refine hd ⟨9, .data⟩ ?_ rfl; simp; done) | (refine hd ⟨9, .guard⟩ ?_ rfl; simp; done) | (refine hd ⟨9, .phase⟩ ?_ rfl; simp; done) | (refine hd ⟨9, .chain⟩ ?_ rfl; simp; done))
          have e9 := c9 hd9
          rw [e9] at hK
          clear hd9
          clear hd
          go_simp
          refine hK _ _ ?_ (fun h => by cases h)
          intro s hs
          cases hs
          exact ⟨hB, c0, c1, c2, c3, c4, c5, c6, c7, c8, c9, (fun _ => rfl), c11, c12, c13, c14, c15, c16, pre0, ini0, id0, ini1, id1⟩
        case s11r2 =>
          rintro L u W ⟨hB, c0, c1, c2, c3, c4, c5, c6, c7, c8, c9, c10, c11, c12, c13, c14, c15, c16, pre0, ini0, id0, ini1, id1⟩ hf hd K hK
          dsimp only at hK
          have hd8 : L 8 = true := (by first | (refine hd ⟨8, .data⟩ ?_ rfl; simp; done) | (refine hd ⟨8, .guard⟩ ?_ rfl; simp; done) | (refine hd ⟨8, .phase⟩ ?_ rfl; simp; done) | (refine hd ⟨8, .chain⟩ ?_ rfl; simp; done))
          have hd10 : L 10 = true := (by first | (refine hd ⟨10, .data⟩ ?_ rfl; simp; done) | (refine hd ⟨10, .guard⟩ ?_ rfl; simp; done) | (refine hd ⟨10, .phase⟩ ?_ rfl; simp; done) | (refine hd ⟨10, .chain⟩ ?_ rfl; simp; done))
          have e8 := c8 hd8
          rw [e8] at hK
          have e10 := c10 hd10
          rw [e10] at hK
          clear hd8
          clear hd10
          clear hd
          go_simp
          refine hK _ _ ?_ (fun h => by cases h)
          intro s hs
          cases hs
          exact ⟨hB, c0, c1, c2, c3, c4, c5, c6, c7, c8, c9, c10, (fun _ => rfl), c12, c13, c14, c15, c16, pre0, ini0, id0, ini1, id1⟩
        case s12r2 =>
          rintro L u W ⟨hB, c0, c1, c2, c3, c4, c5, c6, c7, c8, c9, c10, c11, c12, c13, c14, c15, c16, pre0, ini0, id0, ini1, id1⟩ hf hd K hK
          dsimp only at hK
          have hd11 : L 11 = true := (by first | (refine hd ⟨11, .data⟩ ?_ rfl; simp; done) | (refine hd ⟨11, .guard⟩ ?_ rfl; simp; done) | (refine hd ⟨11, .phase⟩ ?_ rfl; simp; done) | (refine hd ⟨11, .chain⟩ ?_ rfl; simp; done))
          have e11 := c11 hd11
          rw [e11] at hK
          have t0 := (hB.cell (p := ⟨b, off + j * 3, none⟩) HL.out).trans X6.out
          have t1 := (hB.cell (p := ⟨b, off + j * 3 + 1, none⟩) HL.out).trans X7.out
          have t2 := (hB.cell (p := ⟨b, off + j * 3 + 2, none⟩) HL.out).trans X8.out
          clear hd11
          clear hd
          go_simp
          refine hK _ _ ?_ (fun h => by cases h)
          intro s hs
          cases hs
          exact ⟨hB, c0, c1, c2, c3, c4, c5, c6, c7, c8, c9, c10, c11, (fun _ => rfl), c13, c14, c15, c16, pre0, ini0, id0, ini1, id1⟩
        case s13r2 =>
          rintro L u W ⟨hB, c0, c1, c2, c3, c4, c5, c6, c7, c8, c9, c10, c11, c12, c13, c14, c15, c16, pre0, ini0, id0, ini1, id1⟩ hf hd K hK
          dsimp only at hK
          have hd3 : L 3 = true := (by first | (refine hd ⟨3, .data⟩ ?_ rfl; simp; done) | (refine hd ⟨3, .guard⟩ ?_ rfl; simp; done) | (refine hd ⟨3, .phase⟩ ?_ rfl; simp; done) | (refine hd ⟨3, .chain⟩ ?_ rfl; simp; done))
          have hd7 : L 7 = true := (by first | (refine hd ⟨7, .data⟩ ?_ rfl; simp; done) | (refine hd ⟨7, .guard⟩ ?_ rfl; simp; done) | (refine hd ⟨7, .phase⟩ ?_ rfl; simp; done) | (refine hd ⟨7, .chain⟩ ?_ rfl; simp; done))
          have hd12 : L 12 = true := (by first | (refine hd ⟨12, .data⟩ ?_ rfl; simp; done) | (refine hd ⟨12, .guard⟩ ?_ rfl; simp; done) | (refine hd ⟨12, .phase⟩ ?_ rfl; simp; done) | (refine hd ⟨12, .chain⟩ ?_ rfl; simp; done))
          have e3 := c3 hd3
          rw [e3] at hK
          have e7 := c7 hd7
          rw [e7] at hK
          have e12 := c12 hd12
          rw [e12] at hK
          clear hd3
          clear hd7
          clear hd12
          clear hd
          go_simp
          refine hK _ _ ?_ (fun h => by cases h)
          intro s hs
          cases hs
          exact ⟨hB, c0, c1, c2, c3, c4, c5, c6, c7, c8, c9, c10, c11, c12, (fun _ => rfl), c14, c15, c16, pre0, ini0, id0, ini1, id1⟩
        case s14r2 =>
          rintro L u W ⟨hB, c0, c1, c2, c3, c4, c5, c6, c7, c8, c9, c10, c11, c12, c13, c14, c15, c16, pre0, ini0, id0, ini1, id1⟩ hf hd K hK
          dsimp only at hK
          have hd13 : L 13 = true := (by first | (refine hd ⟨13, .data⟩ ?_ rfl; simp; done) | (refine hd ⟨13, .guard⟩ ?_ rfl; simp; done) | (refine hd ⟨13, .phase⟩ ?_ rfl; simp; done) | (refine hd ⟨13, .chain⟩ ?_ rfl; simp; done))
          have e13 := c13 hd13
          rw [e13] at hK
          clear hd13
          clear hd
          go_simp
          have hb : Below W.heap.size W (W.alloc (.cells #[.int .i64 a0, .int .i64 a1, .int .i64 a2, .int .i64 a3, .int .i64 a4, .int .i64 a5, .int .i64 a6, .int .i64 a7, .int .i64 a8] 45)) := (Below.refl _ W).alloc (Nat.le_refl _) _
          refine hK _ _ ?_ (fun h => by cases h)
          intro s hs
          cases hs
          exact ⟨hB.trans (hb.mono (Nat.le_trans hbound hB.size)), c0, c1, c2, c3, c4, c5, c6, c7, c8, c9, c10, c11, c12, c13, (fun _ _ => ⟨_, rfl, Lok.new _ _ _⟩), (fun h k => (c15 h k).keep hb), (fun h => (c16 h).keep hb), (fun h => (pre0 h).keep hb), ini0, id0, ini1, id1⟩
        case s15r2 =>
          rintro L u W ⟨hB, c0, c1, c2, c3, c4, c5, c6, c7, c8, c9, c10, c11, c12, c13, c14, c15, c16, pre0, ini0, id0, ini1, id1⟩ hf hd K hK
          dsimp only at hK
          have hd0 : L 0 = true := (by first | (refine hd ⟨0, .data⟩ ?_ rfl; simp; done) | (refine hd ⟨0, .guard⟩ ?_ rfl; simp; done) | (refine hd ⟨0, .phase⟩ ?_ rfl; simp; done) | (refine hd ⟨0, .chain⟩ ?_ rfl; simp; done))
          have hd14 : L 14 = true := (by first | (refine hd ⟨14, .data⟩ ?_ rfl; simp; done) | (refine hd ⟨14, .guard⟩ ?_ rfl; simp; done) | (refine hd ⟨14, .phase⟩ ?_ rfl; simp; done) | (refine hd ⟨14, .chain⟩ ?_ rfl; simp; done))
          have e0 := c0 hd0
          have e14 := c14 hd14 (by first | exact hf | assumption)
          clear hd0
          clear hd14
          clear hd
          refine Eq.mpr (if_pos rfl) ?_
          obtain ⟨g5, eg, lg⟩ := e14
          refine app_act _ _ 34 45 _ 9 72 Tryd.underlying34 infoT rfl (by decide) rfl w.heap.size u3 k (valsK k 9 (fanF F)) _ rfl (fun u hu => by simp at hu; rcases hu with rfl | rfl | rfl | rfl | rfl | rfl | rfl | rfl | rfl <;> rfl) e0 (pre0 hf) g5 1 eg lg (by omega) (by omega) (Nat.le_trans hbound hB.size) ?_
          intro v5 W5 q hb
          rw [← VS.out] at q
          refine hK _ _ ?_ (fun h => by cases h)
          intro s hs
          cases hs
          exact ⟨hB.trans hb, c0, c1, c2, c3, c4, c5, c6, c7, c8, c9, c10, c11, c12, c13, (fun _ h => by cases h), (fun _ _ => q), (fun h => by have z := id1 h; rw [hf] at z; cases z), (fun h => by cases h), ini0, id0, ini1, (fun _ => rfl)⟩
        case s16r2 =>
          rintro L u W ⟨hB, c0, c1, c2, c3, c4, c5, c6, c7, c8, c9, c10, c11, c12, c13, c14, c15, c16, pre0, ini0, id0, ini1, id1⟩ hf hd K hK
          dsimp only at hK
          have hdi0 : L 0 = true := (by first | (refine hd ⟨0, .data⟩ ?_ rfl; simp; done) | (refine hd ⟨0, .phase⟩ ?_ rfl; simp; done) | (refine hd ⟨0, .chain⟩ ?_ rfl; simp; done))
          replace hdi0 := Lib.hid hdi0
          have hdi1 : L 15 = true := (by first | (refine hd ⟨15, .data⟩ ?_ rfl; simp; done) | (refine hd ⟨15, .phase⟩ ?_ rfl; simp; done) | (refine hd ⟨15, .chain⟩ ?_ rfl; simp; done))
          replace hdi1 := Lib.hid hdi1
          have hd15 : L 15 = true := (by first | (refine hd ⟨15, .data⟩ ?_ rfl; simp; done) | (refine hd ⟨15, .guard⟩ ?_ rfl; simp; done) | (refine hd ⟨15, .phase⟩ ?_ rfl; simp; done) | (refine hd ⟨15, .chain⟩ ?_ rfl; simp; done))
          have e15 := c15 hd15 (by first | exact hf | assumption)
          have q := e15
          clear hd15
          clear hd
          go_simp
          refine hK _ _ ?_ (fun h => by cases h)
          intro s hs
          cases hs
          exact ⟨hB, c0, c1, c2, c3, c4, c5, c6, c7, c8, c9, c10, c11, c12, c13, c14, (fun _ h => by cases h), (fun _ => q), pre0, (fun h => by cases h), (fun _ => hdi0.out), (fun h => by cases h), (fun _ => hdi1.out)⟩
      case finr2 =>
        rintro L u W hL ⟨hB, c0, c1, c2, c3, c4, c5, c6, c7, c8, c9, c10, c11, c12, c13, c14, c15, c16, pre0, ini0, id0, ini1, id1⟩
        have e0 := c0 (hL 0 (by decide))
        have e1 := c1 (hL 1 (by decide))
        have e2 := c2 (hL 2 (by decide))
        have e3 := c3 (hL 3 (by decide))
        have e4 := c4 (hL 4 (by decide))
        have e5 := c5 (hL 5 (by decide))
        have e6 := c6 (hL 6 (by decide))
        have e7 := c7 (hL 7 (by decide))
        have e8 := c8 (hL 8 (by decide))
        have e9 := c9 (hL 9 (by decide))
        have e10 := c10 (hL 10 (by decide))
        have e11 := c11 (hL 11 (by decide))
        have e12 := c12 (hL 12 (by decide))
        have e13 := c13 (hL 13 (by decide))
        have kq16 := c16 (hL 16 (by decide))
        clear hL c0 c1 c2 c3 c4 c5 c6 c7 c8 c9 c10 c11 c12 c13 c14 c15 c16 pre0 ini0 id0 ini1 id1
        try simp only [e0, e1, e2, e3, e4, e5, e6, e7, e8, e9, e10, e11, e12, e13]
        clear e0 e1 e2 e3 e4 e5 e6 e7 e8 e9 e10 e11 e12 e13
        replace HB := Lib.hid (HB.out.trans hB)
        have KQ := Lib.hid kq16
        clear hB kq16
        generalize u 3 = v5 at *
        obtain ⟨hi, hj⟩ := HKI.out
        have hj' : (j : Int) = (k : Int) + 1 + 1 := by omega
        have hm : n - (k + 1) < n - k := by omega
        go_wp2_with fail
        go_roundw
        case rel => exact ⟨k + 1, by go_num, by omega, .inr (by omega), KQ.out, HB.out⟩
        case measure => simp [intOf]; omega
    · have c0 : ¬ (j : Int) < n := by omega
      have hk2 : k = n - 2 := by omega
      subst hk2
      obtain ⟨a, c', rfl, -, hc1, hc2, hr⟩ := rowK_of_own2 HO.out
      have HR := Lib.hid hr
      clear HO hr
      go_wp2_with fail
      go_ret
      exact ⟨HB.out, a, c', rfl, HR.out, hc2⟩

end Go.Proofs.YtlpfijdjkaijeaaDoor
