/-
  Package face: row.
-/
import Derived.Test.YtlpfijdjkaijeaaDoorFcI
namespace Go.Proofs.YtlpfijdjkaijeaaDoor
open Go.RowKit

def pick4 (p : Int × Int × Int × Int) (j : Nat) : Int := if j = 0 then p.1 else if j = 1 then p.2.1 else p.2.2.1
/-- What the texts tell, as rows of three ints; the first error of k of them. -/
def cornF (F : Nat → ByteArray) (v t n : Int) : Nat → Nat → Int := fun i j => pick4 (cornerS (F i).data.toList v t n) j
def erC (F : Nat → ByteArray) (v t n : Int) : Nat → Int
  | 0 => 0
  | k + 1 => if erC F v t n k ≠ 0 then erC F v t n k else (cornerS (F k).data.toList v t n).2.2.2
theorem erC_stop (F : Nat → ByteArray) (v t n : Int) {k : Nat} (h : erC F v t n k ≠ 0) : ∀ m, erC F v t n (k + m) = erC F v t n k := by
  intro m
  induction m with
  | zero => rfl
  | succ m ih =>
    show (if erC F v t n (k + m) ≠ 0 then erC F v t n (k + m) else _) = _
    rw [ih, if_pos h]
theorem infoC : (Tryd.prog.info? 23).map (fun i => (i.zero, i.size, i.bytes)) = some (some (.agg #[.int .i64 0, .int .i64 0, .int .i64 0]), 3, 24) := by kernel_rfl
def RetRow3 (F : Nat → ByteArray) (v t n : Int) (N : Nat) (w : World) (e : Ending) (w' : World) : Prop :=
  Below w.heap.size w w' ∧ ((erC F v t n N ≠ 0 ∧ e = .returned (.tuple #[.slice none 0 0, .int .i64 (erC F v t n N)])) ∨
    (erC F v t n N = 0 ∧ ∃ a c, e = .returned (.tuple #[.slice a N c, .int .i64 0]) ∧ RowK w' a N 3 (cornF F v t n) ∧ c ≤ 9223372036854775807))
theorem ownK_set {w : World} {base : Nat} {e : TypeId} {k : Nat} {v : Value} {n : Nat} {xs : List Value} (h : w.ownsRow base e k v n xs) {g i : Nat} {x : Value} (hg : g < base) : (w.setCell ⟨g, i, none⟩ x).ownsRow base e k v n xs := by
  obtain ⟨h1, h | ⟨g', cap, cur, e1, hb, hh, r⟩⟩ := h
  · exact ⟨h1, .inl h⟩
  · exact ⟨h1, .inr ⟨g', cap, cur, e1, hb, (Below.heap_setCell w ⟨g, i, none⟩ x g' (by show g' ≠ g; omega)).trans hh, r⟩⟩
set_option maxRecDepth 100000 in
set_option maxHeartbeats 8000000 in
theorem row3_any (v t n : Int) (A : Option Addr) (N c : Nat) (F : Nat → ByteArray) (w : World) (hr : RowS w A N c F) (hN : N ≤ 1000) (hs : ∀ i, i < N → (F i).size ≤ 1000)
    (bv : -9223372036854775808 ≤ v ∧ v ≤ 9223372036854775807) (bt : -9223372036854775808 ≤ t ∧ t ≤ 9223372036854775807) (bn : -9223372036854775808 ≤ n ∧ n ≤ 9223372036854775807) :
    Calls Tryd.prog 29 #[.int .i64 v, .int .i64 t, .int .i64 n, .slice A N c] w (RetRow3 F v t n N w) := by
  have R := Lib.hid hr
  have HS := Lib.hid hs
  have BV := Lib.hid bv
  have BT := Lib.hid bt
  have BN := Lib.hid bn
  clear hr hs bv bt bn
  have hmf : ∀ (fn : Fn) (first cap : Array Value) (w : World), (Instr.makeFunc fn first cap).run Tryd.prog w = .ok (.func fn first cap) w := fun _ _ _ _ => rfl
  go_enter_defers Tryd.func29, Tryd.ntmps29
  go_upto_region 2 with fail
  have hbg := below_new1 w (.cells #[.slice none 0 0] 25)
  have zg : (w.alloc (.cells #[.slice none 0 0] 25)).heap.size = w.heap.size + 1 := by simp
  have HB := Lib.hid hbg
  have kg := Lib.hid (Lok.new w 25 #[.slice none 0 0])
  clear hbg
  generalize w.alloc (.cells #[.slice none 0 0] 25) = Vg at *
  have hbh := below_new1 Vg (.cells #[.int .i64 0] 27)
  replace kg := Lib.hid (kg.out.keep hbh)
  have zh : (Vg.alloc (.cells #[.int .i64 0] 27)).heap.size = Vg.heap.size + 1 := by simp
  replace HB := Lib.hid (HB.out.trans (hbh.mono HB.out.size))
  have kh := Lib.hid (Lok.new Vg 27 #[.int .i64 0])
  clear hbh
  generalize Vg.alloc (.cells #[.int .i64 0] 27) = Vh at *
  rw [zg] at kh zh
  have h2 : w.heap.size + 2 ≤ Vh.heap.size := by omega
  clear zg zh
  go_wp2_with fail
  go_loopw [15] (fun x wr => ∃ (k : Nat) (vv : Value), x = .int .i64 k ∧ k ≤ N ∧ erC F v t n k = 0 ∧ Lok wr w.heap.size 25 #[vv] ∧ Lok wr (w.heap.size + 1) 27 #[.int .i64 0] ∧ wr.ownsRow (w.heap.size + 2) 23 3 vv k (valsK k 3 (cornF F v t n)) ∧ Below w.heap.size w wr) (fun x _ => N - (intOf x).toNat)
  case atStart => exact ⟨0, _, rfl, Nat.zero_le _, rfl, kg.out, kh.out, World.ownsRow_nil _ _ _ _, HB.out⟩
  case round =>
    clear HB kg kh h2
    obtain ⟨k, vv, rfl, hk, hE, hG, hH, hO, hB⟩ := hrel
    have HB := Lib.hid hB
    have KG := Lib.hid hG
    have KH := Lib.hid hH
    have HO := Lib.hid hO
    have HE := Lib.hid hE
    clear hB hG hH hO hE
    have hbound := HB.out.size
    have h2 : w.heap.size + 2 ≤ wr.heap.size := KH.out.lt
    by_cases hlt : k < N
    · obtain ⟨b, off, rfl, hl, hc⟩ := (R.out.keep HB.out).at hlt
      have c1 := hc k hlt
      have i0 : (0 : Int) ≤ (k : Int) := by omega
      have i1 : (k : Int) < N := by omega
      have C := Lib.hid (fun W => corner_any (F k) v t n W (HS.out k hlt) BV.out BT.out BN.out)
      have VS : Hid (valsK (k + 1) 3 (cornF F v t n) = valsK k 3 (cornF F v t n) ++ [.int .i64 (cornerS (F k).data.toList v t n).1, .int .i64 (cornerS (F k).data.toList v t n).2.1, .int .i64 (cornerS (F k).data.toList v t n).2.2.1]) := Lib.hid (by rw [valsK_succ]; rfl)
      have E1 : Hid (erC F v t n (k + 1) = (cornerS (F k).data.toList v t n).2.2.2) := Lib.hid (by show (if erC F v t n k ≠ 0 then _ else _) = _; rw [if_neg (fun q => q HE.out)])
      unfold retC at C
      obtain ⟨p, hp⟩ : ∃ p, (cornerS (F k).data.toList v t n).1 = p := ⟨_, rfl⟩
      obtain ⟨q, hq⟩ : ∃ p, (cornerS (F k).data.toList v t n).2.1 = p := ⟨_, rfl⟩
      obtain ⟨r, hr⟩ : ∃ p, (cornerS (F k).data.toList v t n).2.2.1 = p := ⟨_, rfl⟩
      obtain ⟨x, hx⟩ : ∃ p, (cornerS (F k).data.toList v t n).2.2.2 = p := ⟨_, rfl⟩
      obtain ⟨S, hS⟩ : ∃ S, F k = S := ⟨_, rfl⟩
      rw [hp, hq, hr, hx] at C
      rw [hp, hq, hr] at VS
      rw [hx] at E1
      rw [hS] at C c1
      clear hp hq hr hx hS hc
      go_upto_region 5 with fail
      clear c1
      by_cases h0 : x = 0
      · subst h0
        have SO := Lib.hid (sure_ok p q r)
        have hG := KG.out
        have hH := KH.out
        have hO : OwnR wr (w.heap.size + 2) 23 3 vv k (valsK k 3 (cornF F v t n)) := HO.out
        refine wp_region_rel2 (by kernel_rfl) [19, 20, 21, 22, 23, 24, 25, 26, 27, 28, 29] ?Fr1 ?hFr1
          (fun L u W => Below w.heap.size wr W ∧ (L 0 = true → u 19 = vv) ∧ (L 1 = true → u 20 = .string S) ∧ (L 2 = true → u 21 = .int .i64 v) ∧ (L 3 = true → u 22 = .int .i64 t) ∧ (L 4 = true → u 23 = .int .i64 n) ∧ (L 5 = true → u 24 = .tuple #[.agg #[.int .i64 p, .int .i64 q, .int .i64 r], .int .i64 0]) ∧ (L 6 = true → u 25 = .agg #[.int .i64 p, .int .i64 q, .int .i64 r]) ∧ (L 7 = true → u 26 = .int .i64 0) ∧ (L 8 = true → u 27 = .agg #[.int .i64 p, .int .i64 q, .int .i64 r]) ∧ (L 9 = true → L 10 = false → RowAt W (u 28) 1 23 #[.int .i64 p, .int .i64 q, .int .i64 r]) ∧ (L 10 = true → L 11 = false → OwnR W (w.heap.size + 2) 23 3 (u 29) (k + 1) (valsK (k + 1) 3 (cornF F v t n))) ∧ (L 11 = true → (Lok W w.heap.size 25 #[u 29] ∧ Lok W (w.heap.size + 1) 27 #[.int .i64 0] ∧ OwnR W (w.heap.size + 2) 23 3 (u 29) (k + 1) (valsK (k + 1) 3 (cornF F v t n)))) ∧ (L 11 = false → Lok W w.heap.size 25 #[vv]) ∧ (L 11 = false → Lok W (w.heap.size + 1) 27 #[.int .i64 0]) ∧ (L 10 = false → OwnR W (w.heap.size + 2) 23 3 vv k (valsK k 3 (cornF F v t n))) ∧ (L 11 = false → True) ∧ (L 11 = true → L 0 = true) ∧ (L 11 = false → True) ∧ (L 11 = true → L 5 = true) ∧ (L 11 = false → True) ∧ (L 11 = true → L 8 = true) ∧ (L 11 = false → True) ∧ (L 11 = true → L 9 = true) ∧ (L 11 = false → True) ∧ (L 11 = true → L 10 = true)) (by kernel_rfl) (by kernel_rfl) 12 rfl ?h0r1 ?stepr1 ?finr1
        case hFr1 => intro u; simp only [putAll, Act.put, List.setIfInBounds_toArray, List.set]; exact rfl
        case h0r1 => intro L hL; exact ⟨(Below.refl _ _).drew, (fun h => by simp [hL] at h), (fun h => by simp [hL] at h), (fun h => by simp [hL] at h), (fun h => by simp [hL] at h), (fun h => by simp [hL] at h), (fun h => by simp [hL] at h), (fun h => by simp [hL] at h), (fun h => by simp [hL] at h), (fun h => by simp [hL] at h), (fun h => by simp [hL] at h), (fun h => by simp [hL] at h), (fun h => by simp [hL] at h), (fun _ => by assumption), (fun _ => by assumption), (fun _ => by assumption), (fun _ => by first | rfl | trivial), (fun h => by simp [hL] at h), (fun _ => by first | rfl | trivial), (fun h => by simp [hL] at h), (fun _ => by first | rfl | trivial), (fun h => by simp [hL] at h), (fun _ => by first | rfl | trivial), (fun h => by simp [hL] at h), (fun _ => by first | rfl | trivial), (fun h => by simp [hL] at h)⟩
        case stepr1 =>
          refine ops_all (ops_cons ?s0r1 (ops_cons ?s1r1 (ops_cons ?s2r1 (ops_cons ?s3r1 (ops_cons ?s4r1 (ops_cons ?s5r1 (ops_cons ?s6r1 (ops_cons ?s7r1 (ops_cons ?s8r1 (ops_cons ?s9r1 (ops_cons ?s10r1 (ops_cons ?s11r1 (ops_nil)))))))))))))
          case s0r1 =>
            rintro L u W ⟨hB, c0, c1, c2, c3, c4, c5, c6, c7, c8, c9, c10, c11, pre0, pre1, pre2, ini0, id0, ini1, id1, ini2, id2, ini3, id3, ini4, id4⟩ hf hd K hK
            dsimp only at hK
            have hL : L 11 = false := (by cases h : L 11 with | false => rfl | true => rw [id0 h] at hf; cases hf)
            have t0 := (pre0 hL).cell (i := 0) rfl
            clear hd
            go_simp
            refine hK _ _ ?_ (fun h => by cases h)
            intro s hs
            cases hs
            exact ⟨hB, (fun _ => rfl), c1, c2, c3, c4, c5, c6, c7, c8, c9, c10, c11, pre0, pre1, pre2, ini0, (fun _ => rfl), ini1, id1, ini2, id2, ini3, id3, ini4, id4⟩
          case s1r1 =>
            rintro L u W ⟨hB, c0, c1, c2, c3, c4, c5, c6, c7, c8, c9, c10, c11, pre0, pre1, pre2, ini0, id0, ini1, id1, ini2, id2, ini3, id3, ini4, id4⟩ hf hd K hK
            dsimp only at hK
            clear hd
            go_simp
            refine hK _ _ ?_ (fun h => by cases h)
            intro s hs
            cases hs
            exact ⟨hB, c0, (fun _ => rfl), c2, c3, c4, c5, c6, c7, c8, c9, c10, c11, pre0, pre1, pre2, ini0, id0, ini1, id1, ini2, id2, ini3, id3, ini4, id4⟩
          case s2r1 =>
            rintro L u W ⟨hB, c0, c1, c2, c3, c4, c5, c6, c7, c8, c9, c10, c11, pre0, pre1, pre2, ini0, id0, ini1, id1, ini2, id2, ini3, id3, ini4, id4⟩ hf hd K hK
            dsimp only at hK
            clear hd
            go_simp
            refine hK _ _ ?_ (fun h => by cases h)
            intro s hs
            cases hs
            exact ⟨hB, c0, c1, (fun _ => rfl), c3, c4, c5, c6, c7, c8, c9, c10, c11, pre0, pre1, pre2, ini0, id0, ini1, id1, ini2, id2, ini3, id3, ini4, id4⟩
          case s3r1 =>
            rintro L u W ⟨hB, c0, c1, c2, c3, c4, c5, c6, c7, c8, c9, c10, c11, pre0, pre1, pre2, ini0, id0, ini1, id1, ini2, id2, ini3, id3, ini4, id4⟩ hf hd K hK
            dsimp only at hK
            clear hd
            go_simp
            refine hK _ _ ?_ (fun h => by cases h)
            intro s hs
            cases hs
            exact ⟨hB, c0, c1, c2, (fun _ => rfl), c4, c5, c6, c7, c8, c9, c10, c11, pre0, pre1, pre2, ini0, id0, ini1, id1, ini2, id2, ini3, id3, ini4, id4⟩
          case s4r1 =>
            rintro L u W ⟨hB, c0, c1, c2, c3, c4, c5, c6, c7, c8, c9, c10, c11, pre0, pre1, pre2, ini0, id0, ini1, id1, ini2, id2, ini3, id3, ini4, id4⟩ hf hd K hK
            dsimp only at hK
            clear hd
            go_simp
            refine hK _ _ ?_ (fun h => by cases h)
            intro s hs
            cases hs
            exact ⟨hB, c0, c1, c2, c3, (fun _ => rfl), c5, c6, c7, c8, c9, c10, c11, pre0, pre1, pre2, ini0, id0, ini1, id1, ini2, id2, ini3, id3, ini4, id4⟩
          case s5r1 =>
            rintro L u W ⟨hB, c0, c1, c2, c3, c4, c5, c6, c7, c8, c9, c10, c11, pre0, pre1, pre2, ini0, id0, ini1, id1, ini2, id2, ini3, id3, ini4, id4⟩ hf hd K hK
            dsimp only at hK
            have hd1 : L 1 = true := (by first | (refine hd ⟨1, .data⟩ ?_ rfl; simp; done) | (refine hd ⟨1, .guard⟩ ?_ rfl; simp; done) | (refine hd ⟨1, .phase⟩ ?_ rfl; simp; done) | (refine hd ⟨1, .chain⟩ ?_ rfl; simp; done))
            have hd2 : L 2 = true := (by first | (refine hd ⟨2, .data⟩ ?_ rfl; simp; done) | (refine hd ⟨2, .guard⟩ ?_ rfl; simp; done) | (refine hd ⟨2, .phase⟩ ?_ rfl; simp; done) | (refine hd ⟨2, .chain⟩ ?_ rfl; simp; done))
            have hd3 : L 3 = true := (by first | (refine hd ⟨3, .data⟩ ?_ rfl; simp; done) | (refine hd ⟨3, .guard⟩ ?_ rfl; simp; done) | (refine hd ⟨3, .phase⟩ ?_ rfl; simp; done) | (refine hd ⟨3, .chain⟩ ?_ rfl; simp; done))
            have hd4 : L 4 = true := (by first | (refine hd ⟨4, .data⟩ ?_ rfl; simp; done) | (refine hd ⟨4, .guard⟩ ?_ rfl; simp; done) | (refine hd ⟨4, .phase⟩ ?_ rfl; simp; done) | (refine hd ⟨4, .chain⟩ ?_ rfl; simp; done))
            have e1 := c1 hd1
            rw [e1] at hK
            have e2 := c2 hd2
            rw [e2] at hK
            have e3 := c3 hd3
            rw [e3] at hK
            have e4 := c4 hd4
            rw [e4] at hK
            clear hd1
            clear hd2
            clear hd3
            clear hd4
            clear hd
            go_simp
            go_wp2_with (go_at_call 9; ((with_reducible refine (C.out _).mono ?_); rintro e w5 ⟨rfl, hb⟩))
            refine hK _ _ ?_ (fun h => by cases h)
            intro s hs
            cases hs
            exact ⟨hB.trans (hb.mono (Nat.le_trans hbound hB.size)), c0, c1, c2, c3, c4, (fun _ => rfl), c6, c7, c8, (fun h k => (c9 h k).keep hb), (fun h k => (c10 h k).keep hb), (fun h => by have z := id1 h; rw [hf] at z; cases z), (fun h => (pre0 h).keep hb), (fun h => (pre1 h).keep hb), (fun h => (pre2 h).keep hb), ini0, id0, ini1, (fun _ => rfl), ini2, id2, ini3, id3, ini4, id4⟩
          case s6r1 =>
            rintro L u W ⟨hB, c0, c1, c2, c3, c4, c5, c6, c7, c8, c9, c10, c11, pre0, pre1, pre2, ini0, id0, ini1, id1, ini2, id2, ini3, id3, ini4, id4⟩ hf hd K hK
            dsimp only at hK
            have hd5 : L 5 = true := (by first | (refine hd ⟨5, .data⟩ ?_ rfl; simp; done) | (refine hd ⟨5, .guard⟩ ?_ rfl; simp; done) | (refine hd ⟨5, .phase⟩ ?_ rfl; simp; done) | (refine hd ⟨5, .chain⟩ ?_ rfl; simp; done))
            have e5 := c5 hd5
            rw [e5] at hK
            clear hd5
            clear hd
            go_simp
            refine hK _ _ ?_ (fun h => by cases h)
            intro s hs
            cases hs
            exact ⟨hB, c0, c1, c2, c3, c4, c5, (fun _ => rfl), c7, c8, c9, c10, c11, pre0, pre1, pre2, ini0, id0, ini1, id1, ini2, id2, ini3, id3, ini4, id4⟩
          case s7r1 =>
            rintro L u W ⟨hB, c0, c1, c2, c3, c4, c5, c6, c7, c8, c9, c10, c11, pre0, pre1, pre2, ini0, id0, ini1, id1, ini2, id2, ini3, id3, ini4, id4⟩ hf hd K hK
            dsimp only at hK
            have hd5 : L 5 = true := (by first | (refine hd ⟨5, .data⟩ ?_ rfl; simp; done) | (refine hd ⟨5, .guard⟩ ?_ rfl; simp; done) | (refine hd ⟨5, .phase⟩ ?_ rfl; simp; done) | (refine hd ⟨5, .chain⟩ ?_ rfl; simp; done))
            have e5 := c5 hd5
            rw [e5] at hK
            clear hd5
            clear hd
            go_simp
            refine hK _ _ ?_ (fun h => by cases h)
            intro s hs
            cases hs
            exact ⟨hB, c0, c1, c2, c3, c4, c5, c6, (fun _ => rfl), c8, c9, c10, c11, pre0, pre1, pre2, ini0, id0, ini1, id1, ini2, id2, ini3, id3, ini4, id4⟩
          case s8r1 =>
            rintro L u W ⟨hB, c0, c1, c2, c3, c4, c5, c6, c7, c8, c9, c10, c11, pre0, pre1, pre2, ini0, id0, ini1, id1, ini2, id2, ini3, id3, ini4, id4⟩ hf hd K hK
            dsimp only at hK
            have hd6 : L 6 = true := (by first | (refine hd ⟨6, .data⟩ ?_ rfl; simp; done) | (refine hd ⟨6, .guard⟩ ?_ rfl; simp; done) | (refine hd ⟨6, .phase⟩ ?_ rfl; simp; done) | (refine hd ⟨6, .chain⟩ ?_ rfl; simp; done))
            have hd7 : L 7 = true := (by first | (refine hd ⟨7, .data⟩ ?_ rfl; simp; done) | (refine hd ⟨7, .guard⟩ ?_ rfl; simp; done) | (refine hd ⟨7, .phase⟩ ?_ rfl; simp; done) | (refine hd ⟨7, .chain⟩ ?_ rfl; simp; done))
            have e6 := c6 hd6
            rw [e6] at hK
            have e7 := c7 hd7
            rw [e7] at hK
            clear hd6
            clear hd7
            clear hd
            go_simp
            go_wp2_with (go_at_call 37; ((with_reducible refine (SO.out _).mono ?_); rintro e w5 ⟨rfl, hb⟩))
            refine hK _ _ ?_ (fun h => by cases h)
            intro s hs
            cases hs
            exact ⟨hB.trans (hb.mono (Nat.le_trans hbound hB.size)), c0, c1, c2, c3, c4, c5, c6, c7, (fun _ => rfl), (fun h k => (c9 h k).keep hb), (fun h k => (c10 h k).keep hb), (fun h => by have z := id2 h; rw [hf] at z; cases z), (fun h => (pre0 h).keep hb), (fun h => (pre1 h).keep hb), (fun h => (pre2 h).keep hb), ini0, id0, ini1, id1, ini2, (fun _ => rfl), ini3, id3, ini4, id4⟩
          case s9r1 =>
            rintro L u W ⟨hB, c0, c1, c2, c3, c4, c5, c6, c7, c8, c9, c10, c11, pre0, pre1, pre2, ini0, id0, ini1, id1, ini2, id2, ini3, id3, ini4, id4⟩ hf hd K hK
            dsimp only at hK
            have hd8 : L 8 = true := (by first | (refine hd ⟨8, .data⟩ ?_ rfl; simp; done) | (refine hd ⟨8, .guard⟩ ?_ rfl; simp; done) | (refine hd ⟨8, .phase⟩ ?_ rfl; simp; done) | (refine hd ⟨8, .chain⟩ ?_ rfl; simp; done))
            have e8 := c8 hd8
            rw [e8] at hK
            clear hd8
            clear hd
            go_simp
            have hb : Below W.heap.size W (W.alloc (.cells #[.int .i64 p, .int .i64 q, .int .i64 r] 23)) := (Below.refl _ W).alloc (Nat.le_refl _) _
            refine hK _ _ ?_ (fun h => by cases h)
            intro s hs
            cases hs
            exact ⟨hB.trans (hb.mono (Nat.le_trans hbound hB.size)), c0, c1, c2, c3, c4, c5, c6, c7, c8, (fun _ _ => ⟨_, rfl, Lok.new _ _ _⟩), (fun h k => (c10 h k).keep hb), (fun h => by have z := id3 h; rw [hf] at z; cases z), (fun h => (pre0 h).keep hb), (fun h => (pre1 h).keep hb), (fun h => (pre2 h).keep hb), ini0, id0, ini1, id1, ini2, id2, ini3, (fun _ => rfl), ini4, id4⟩
          case s10r1 =>
            rintro L u W ⟨hB, c0, c1, c2, c3, c4, c5, c6, c7, c8, c9, c10, c11, pre0, pre1, pre2, ini0, id0, ini1, id1, ini2, id2, ini3, id3, ini4, id4⟩ hf hd K hK
            dsimp only at hK
            have hd0 : L 0 = true := (by first | (refine hd ⟨0, .data⟩ ?_ rfl; simp; done) | (refine hd ⟨0, .guard⟩ ?_ rfl; simp; done) | (refine hd ⟨0, .phase⟩ ?_ rfl; simp; done) | (refine hd ⟨0, .chain⟩ ?_ rfl; simp; done))
            have hd9 : L 9 = true := (by first | (refine hd ⟨9, .data⟩ ?_ rfl; simp; done) | (refine hd ⟨9, .guard⟩ ?_ rfl; simp; done) | (refine hd ⟨9, .phase⟩ ?_ rfl; simp; done) | (refine hd ⟨9, .chain⟩ ?_ rfl; simp; done))
            have e0 := c0 hd0
            have e9 := c9 hd9 (by first | exact hf | assumption)
            clear hd0
            clear hd9
            clear hd
            refine Eq.mpr (if_pos rfl) ?_
            obtain ⟨g5, eg, lg⟩ := e9
            have hz : w.heap.size + 2 ≤ W.heap.size := (pre1 (by cases h : L 11 with | false => rfl | true => rw [id4 h] at hf; cases hf)).lt
            refine app_act _ _ 25 23 _ 3 24 Tryd.underlying25 infoC rfl (by decide) rfl (w.heap.size + 2) vv k (valsK k 3 (cornF F v t n)) _ rfl (fun u hu => by simp at hu; rcases hu with rfl | rfl | rfl <;> rfl) e0 (pre2 hf) g5 1 eg lg (by omega) (by omega) hz ?_
            intro v5 W5 q hbx
            rw [← VS.out] at q
            have hb := hbx.mono (show w.heap.size ≤ w.heap.size + 2 by omega)
            have hk0 : Lok W w.heap.size 25 #[vv] → Lok W5 w.heap.size 25 #[vv] := fun h => h.keepB hbx (by omega)
            have hk1 : Lok W (w.heap.size + 1) 27 #[.int .i64 0] → Lok W5 (w.heap.size + 1) 27 #[.int .i64 0] := fun h => h.keepB hbx (by omega)
            refine hK _ _ ?_ (fun h => by cases h)
            intro s hs
            cases hs
            exact ⟨hB.trans hb, c0, c1, c2, c3, c4, c5, c6, c7, c8, (fun _ h => by cases h), (fun _ _ => q), (fun h => by have z := id4 h; rw [hf] at z; cases z), (fun h => hk0 (pre0 h)), (fun h => hk1 (pre1 h)), (fun h => by cases h), ini0, id0, ini1, id1, ini2, id2, ini3, id3, ini4, (fun _ => rfl)⟩
          case s11r1 =>
            rintro L u W ⟨hB, c0, c1, c2, c3, c4, c5, c6, c7, c8, c9, c10, c11, pre0, pre1, pre2, ini0, id0, ini1, id1, ini2, id2, ini3, id3, ini4, id4⟩ hf hd K hK
            dsimp only at hK
            have hdi0 : L 0 = true := (by first | (refine hd ⟨0, .data⟩ ?_ rfl; simp; done) | (refine hd ⟨0, .phase⟩ ?_ rfl; simp; done) | (refine hd ⟨0, .chain⟩ ?_ rfl; simp; done))
            replace hdi0 := Lib.hid hdi0
            have hdi1 : L 5 = true := (by first | (refine hd ⟨5, .data⟩ ?_ rfl; simp; done) | (refine hd ⟨5, .phase⟩ ?_ rfl; simp; done) | (refine hd ⟨5, .chain⟩ ?_ rfl; simp; done))
            replace hdi1 := Lib.hid hdi1
            have hdi2 : L 8 = true := (by first | (refine hd ⟨8, .data⟩ ?_ rfl; simp; done) | (refine hd ⟨8, .phase⟩ ?_ rfl; simp; done) | (refine hd ⟨8, .chain⟩ ?_ rfl; simp; done))
            replace hdi2 := Lib.hid hdi2
            have hdi3 : L 9 = true := (by first | (refine hd ⟨9, .data⟩ ?_ rfl; simp; done) | (refine hd ⟨9, .phase⟩ ?_ rfl; simp; done) | (refine hd ⟨9, .chain⟩ ?_ rfl; simp; done))
            replace hdi3 := Lib.hid hdi3
            have hdi4 : L 10 = true := (by first | (refine hd ⟨10, .data⟩ ?_ rfl; simp; done) | (refine hd ⟨10, .phase⟩ ?_ rfl; simp; done) | (refine hd ⟨10, .chain⟩ ?_ rfl; simp; done))
            replace hdi4 := Lib.hid hdi4
            have hd10 : L 10 = true := (by first | (refine hd ⟨10, .data⟩ ?_ rfl; simp; done) | (refine hd ⟨10, .guard⟩ ?_ rfl; simp; done) | (refine hd ⟨10, .phase⟩ ?_ rfl; simp; done) | (refine hd ⟨10, .chain⟩ ?_ rfl; simp; done))
            have e10 := c10 hd10 (by first | exact hf | assumption)
            have hdx10 := Lib.hid hd10
            clear hd10
            clear hd
            have k0 := pre0 hf
            have k1 := pre1 hf
            have t0 := k0.cell (i := 0) rfl
            have f0 := k0.frozen 0
            obtain ⟨aQ, cQ, e29, -, -, -, -⟩ := rowK_of_own2 e10
            rw [e29] at hK e10
            replace e10 := Lib.hid e10
            replace k0 := Lib.hid k0
            replace k1 := Lib.hid k1
            go_simp
            have hb : Below w.heap.size W (W.setCell ⟨w.heap.size, 0, none⟩ (.slice aQ (k + 1) cQ)) := (Below.refl w.heap.size W).setCell (p := ⟨w.heap.size, 0, none⟩) (Nat.le_refl _) _
            have hk2 : OwnR W (w.heap.size + 2) 23 3 vv k (valsK k 3 (cornF F v t n)) → OwnR (W.setCell ⟨w.heap.size, 0, none⟩ (.slice aQ (k + 1) cQ)) (w.heap.size + 2) 23 3 vv k (valsK k 3 (cornF F v t n)) := fun h => ownK_set h (show w.heap.size < w.heap.size + 2 by omega)
            have q := And.intro (k0.out.set (i := 0) (v := .slice aQ (k + 1) cQ)) (And.intro (k1.out.far (i := 0) (v := .slice aQ (k + 1) cQ) (show w.heap.size + 1 ≠ w.heap.size by omega)) (ownK_set e10.out (i := 0) (x := .slice aQ (k + 1) cQ) (show w.heap.size < w.heap.size + 2 by omega)))
            refine hK undef _ (fun s h => by cases h) (fun _ => ?_)
            exact ⟨hB.trans hb, c0, c1, c2, c3, c4, c5, c6, c7, c8, (fun _ h => by have z := hdx10.out; rw [show L 10 = false from h] at z; cases z), (fun _ h => by cases h), (fun _ => q), (fun h => by cases h), (fun h => by cases h), (fun h => hk2 (pre2 h)), (fun h => by cases h), (fun _ => hdi0.out), (fun h => by cases h), (fun _ => hdi1.out), (fun h => by cases h), (fun _ => hdi2.out), (fun h => by cases h), (fun _ => hdi3.out), (fun h => by cases h), (fun _ => hdi4.out)⟩
        case finr1 =>
          rintro L u W hL ⟨hB, c0, c1, c2, c3, c4, c5, c6, c7, c8, c9, c10, c11, pre0, pre1, pre2, ini0, id0, ini1, id1, ini2, id2, ini3, id3, ini4, id4⟩
          have e0 := c0 (hL 0 (by decide))
          have e1 := c1 (hL 1 (by decide))
          have e2 := c2 (hL 2 (by decide))
          have e3 := c3 (hL 3 (by decide))
          have e4 := c4 (hL 4 (by decide))
          have e5 := c5 (hL 5 (by decide))
          have e6 := c6 (hL 6 (by decide))
          have e7 := c7 (hL 7 (by decide))
          have e8 := c8 (hL 8 (by decide))
          have kq11 := c11 (hL 11 (by decide))
          clear hL c0 c1 c2 c3 c4 c5 c6 c7 c8 c9 c10 c11 pre0 pre1 pre2 ini0 id0 ini1 id1 ini2 id2 ini3 id3 ini4 id4
          try simp only [e0, e1, e2, e3, e4, e5, e6, e7, e8]
          clear e0 e1 e2 e3 e4 e5 e6 e7 e8
          replace HB := Lib.hid (HB.out.trans hB)
          obtain ⟨g1, g2, g3⟩ := kq11
          have KG := Lib.hid g1
          have KH := Lib.hid g2
          have HO := Lib.hid g3
          clear hB g1 g2 g3 hG hH hO
          generalize u 29 = v5 at *
          go_wp2_with fail
          go_roundw
          case rel => exact ⟨k + 1, v5, by go_num, hlt, E1.out, KG.out, KH.out, HO.out, HB.out⟩
          case measure => simp [intOf]; omega
      · have EN : Hid (erC F v t n N = x) := Lib.hid (by
          have := erC_stop F v t n (k := k + 1) (by rw [E1.out]; exact h0) (N - (k + 1))
          rw [show k + 1 + (N - (k + 1)) = N from by omega, E1.out] at this; exact this)
        have SB := Lib.hid (sure_bad p q r x h0)
        have HX := Lib.hid h0
        have hG := KG.out
        have hH := KH.out
        clear h0
        refine wp_region_rel2 (by kernel_rfl) [19, 20, 21, 22, 23, 24, 25, 26, 27, 28, 29] ?Fr2 ?hFr2
          (fun L u W => Below w.heap.size wr W ∧ (L 0 = true → u 19 = vv) ∧ (L 1 = true → u 20 = .string S) ∧ (L 2 = true → u 21 = .int .i64 v) ∧ (L 3 = true → u 22 = .int .i64 t) ∧ (L 4 = true → u 23 = .int .i64 n) ∧ (L 5 = true → u 24 = .tuple #[.agg #[.int .i64 p, .int .i64 q, .int .i64 r], .int .i64 x]) ∧ (L 6 = true → u 25 = .agg #[.int .i64 p, .int .i64 q, .int .i64 r]) ∧ (L 7 = true → u 26 = .int .i64 x) ∧ (L 8 = true → False) ∧ (L 11 = false → Lok W w.heap.size 25 #[vv]) ∧ (L 11 = false → Lok W (w.heap.size + 1) 27 #[.int .i64 0]) ∧ (L 11 = false → True) ∧ (L 11 = true → L 0 = true) ∧ (L 11 = false → True) ∧ (L 11 = true → L 8 = true)) (by kernel_rfl) (by kernel_rfl) 12 rfl ?h0r2 ?stepr2 ?finr2
        case hFr2 => intro u; simp only [putAll, Act.put, List.setIfInBounds_toArray, List.set]; exact rfl
        case h0r2 => intro L hL; exact ⟨(Below.refl _ _).drew, (fun h => by simp [hL] at h), (fun h => by simp [hL] at h), (fun h => by simp [hL] at h), (fun h => by simp [hL] at h), (fun h => by simp [hL] at h), (fun h => by simp [hL] at h), (fun h => by simp [hL] at h), (fun h => by simp [hL] at h), (fun h => by simp [hL] at h), (fun _ => by assumption), (fun _ => by assumption), (fun _ => by first | rfl | trivial), (fun h => by simp [hL] at h), (fun _ => by first | rfl | trivial), (fun h => by simp [hL] at h)⟩
        case stepr2 =>
          refine ops_all (ops_cons ?s0r2 (ops_cons ?s1r2 (ops_cons ?s2r2 (ops_cons ?s3r2 (ops_cons ?s4r2 (ops_cons ?s5r2 (ops_cons ?s6r2 (ops_cons ?s7r2 (ops_cons ?s8r2 (ops_cons ?s9r2 (ops_cons ?s10r2 (ops_cons ?s11r2 (ops_nil)))))))))))))
          case s0r2 =>
            rintro L u W ⟨hB, c0, c1, c2, c3, c4, c5, c6, c7, c8, pre0, pre1, ini0, id0, ini1, id1⟩ hf hd K hK
            dsimp only at hK
            have hL : L 11 = false := (by cases h : L 11 with | false => rfl | true => rw [id0 h] at hf; cases hf)
            have t0 := (pre0 hL).cell (i := 0) rfl
            clear hd
            go_simp
            refine hK _ _ ?_ (fun h => by cases h)
            intro s hs
            cases hs
            exact ⟨hB, (fun _ => rfl), c1, c2, c3, c4, c5, c6, c7, c8, pre0, pre1, ini0, (fun _ => rfl), ini1, id1⟩
          case s1r2 =>
            rintro L u W ⟨hB, c0, c1, c2, c3, c4, c5, c6, c7, c8, pre0, pre1, ini0, id0, ini1, id1⟩ hf hd K hK
            dsimp only at hK
            clear hd
            go_simp
            refine hK _ _ ?_ (fun h => by cases h)
            intro s hs
            cases hs
            exact ⟨hB, c0, (fun _ => rfl), c2, c3, c4, c5, c6, c7, c8, pre0, pre1, ini0, id0, ini1, id1⟩
          case s2r2 =>
            rintro L u W ⟨hB, c0, c1, c2, c3, c4, c5, c6, c7, c8, pre0, pre1, ini0, id0, ini1, id1⟩ hf hd K hK
            dsimp only at hK
            clear hd
            go_simp
            refine hK _ _ ?_ (fun h => by cases h)
            intro s hs
            cases hs
            exact ⟨hB, c0, c1, (fun _ => rfl), c3, c4, c5, c6, c7, c8, pre0, pre1, ini0, id0, ini1, id1⟩
          case s3r2 =>
            rintro L u W ⟨hB, c0, c1, c2, c3, c4, c5, c6, c7, c8, pre0, pre1, ini0, id0, ini1, id1⟩ hf hd K hK
            dsimp only at hK
            clear hd
            go_simp
            refine hK _ _ ?_ (fun h => by cases h)
            intro s hs
            cases hs
            exact ⟨hB, c0, c1, c2, (fun _ => rfl), c4, c5, c6, c7, c8, pre0, pre1, ini0, id0, ini1, id1⟩
          case s4r2 =>
            rintro L u W ⟨hB, c0, c1, c2, c3, c4, c5, c6, c7, c8, pre0, pre1, ini0, id0, ini1, id1⟩ hf hd K hK
            dsimp only at hK
            clear hd
            go_simp
            refine hK _ _ ?_ (fun h => by cases h)
            intro s hs
            cases hs
            exact ⟨hB, c0, c1, c2, c3, (fun _ => rfl), c5, c6, c7, c8, pre0, pre1, ini0, id0, ini1, id1⟩
          case s5r2 =>
            rintro L u W ⟨hB, c0, c1, c2, c3, c4, c5, c6, c7, c8, pre0, pre1, ini0, id0, ini1, id1⟩ hf hd K hK
            dsimp only at hK
            have hd1 : L 1 = true := (by first | (refine hd ⟨1, .data⟩ ?_ rfl; simp; done) | (refine hd ⟨1, .guard⟩ ?_ rfl; simp; done) | (refine hd ⟨1, .phase⟩ ?_ rfl; simp; done) | (refine hd ⟨1, .chain⟩ ?_ rfl; simp; done))
            have hd2 : L 2 = true := (by first | (refine hd ⟨2, .data⟩ ?_ rfl; simp; done) | (refine hd ⟨2, .guard⟩ ?_ rfl; simp; done) | (refine hd ⟨2, .phase⟩ ?_ rfl; simp; done) | (refine hd ⟨2, .chain⟩ ?_ rfl; simp; done))
            have hd3 : L 3 = true := (by first | (refine hd ⟨3, .data⟩ ?_ rfl; simp; done) | (refine hd ⟨3, .guard⟩ ?_ rfl; simp; done) | (refine hd ⟨3, .phase⟩ ?_ rfl; simp; done) | (refine hd ⟨3, .chain⟩ ?_ rfl; simp; done))
            have hd4 : L 4 = true := (by first | (refine hd ⟨4, .data⟩ ?_ rfl; simp; done) | (refine hd ⟨4, .guard⟩ ?_ rfl; simp; done) | (refine hd ⟨4, .phase⟩ ?_ rfl; simp; done) | (refine hd ⟨4, .chain⟩ ?_ rfl; simp; done))
            have e1 := c1 hd1
            rw [e1] at hK
            have e2 := c2 hd2
            rw [e2] at hK
            have e3 := c3 hd3
            rw [e3] at hK
            have e4 := c4 hd4
            rw [e4] at hK
            clear hd1
            clear hd2
            clear hd3
            clear hd4
            clear hd
            go_simp
            go_wp2_with (go_at_call 9; ((with_reducible refine (C.out _).mono ?_); rintro e w5 ⟨rfl, hb⟩))
            refine hK _ _ ?_ (fun h => by cases h)
            intro s hs
            cases hs
            exact ⟨hB.trans (hb.mono (Nat.le_trans hbound hB.size)), c0, c1, c2, c3, c4, (fun _ => rfl), c6, c7, c8, (fun h => (pre0 h).keep hb), (fun h => (pre1 h).keep hb), ini0, id0, ini1, id1⟩
          case s6r2 =>
            rintro L u W ⟨hB, c0, c1, c2, c3, c4, c5, c6, c7, c8, pre0, pre1, ini0, id0, ini1, id1⟩ hf hd K hK
            dsimp only at hK
            have hd5 : L 5 = true := (by first | (refine hd ⟨5, .data⟩ ?_ rfl; simp; done) | (refine hd ⟨5, .guard⟩ ?_ rfl; simp; done) | (refine hd ⟨5, .phase⟩ ?_ rfl; simp; done) | (refine hd ⟨5, .chain⟩ ?_ rfl; simp; done))
            have e5 := c5 hd5
            rw [e5] at hK
            clear hd5
            clear hd
            go_simp
            refine hK _ _ ?_ (fun h => by cases h)
            intro s hs
            cases hs
            exact ⟨hB, c0, c1, c2, c3, c4, c5, (fun _ => rfl), c7, c8, pre0, pre1, ini0, id0, ini1, id1⟩
          case s7r2 =>
            rintro L u W ⟨hB, c0, c1, c2, c3, c4, c5, c6, c7, c8, pre0, pre1, ini0, id0, ini1, id1⟩ hf hd K hK
            dsimp only at hK
            have hd5 : L 5 = true := (by first | (refine hd ⟨5, .data⟩ ?_ rfl; simp; done) | (refine hd ⟨5, .guard⟩ ?_ rfl; simp; done) | (refine hd ⟨5, .phase⟩ ?_ rfl; simp; done) | (refine hd ⟨5, .chain⟩ ?_ rfl; simp; done))
            have e5 := c5 hd5
            rw [e5] at hK
            clear hd5
            clear hd
            go_simp
            refine hK _ _ ?_ (fun h => by cases h)
            intro s hs
            cases hs
            exact ⟨hB, c0, c1, c2, c3, c4, c5, c6, (fun _ => rfl), c8, pre0, pre1, ini0, id0, ini1, id1⟩
          case s8r2 =>
            rintro L u W ⟨hB, c0, c1, c2, c3, c4, c5, c6, c7, c8, pre0, pre1, ini0, id0, ini1, id1⟩ hf hd K hK
            dsimp only at hK
            have hd6 : L 6 = true := (by first | (refine hd ⟨6, .data⟩ ?_ rfl; simp; done) | (refine hd ⟨6, .guard⟩ ?_ rfl; simp; done) | (refine hd ⟨6, .phase⟩ ?_ rfl; simp; done) | (refine hd ⟨6, .chain⟩ ?_ rfl; simp; done))
            have hd7 : L 7 = true := (by first | (refine hd ⟨7, .data⟩ ?_ rfl; simp; done) | (refine hd ⟨7, .guard⟩ ?_ rfl; simp; done) | (refine hd ⟨7, .phase⟩ ?_ rfl; simp; done) | (refine hd ⟨7, .chain⟩ ?_ rfl; simp; done))
            have e6 := c6 hd6
            rw [e6] at hK
            have e7 := c7 hd7
            rw [e7] at hK
            clear hd6
            clear hd7
            clear hd
            have hL : L 11 = false := (by cases h : L 11 with | false => rfl | true => rw [id1 h] at hf; cases hf)
            have k0 := Lib.hid (pre0 hL)
            have k1 := Lib.hid (pre1 hL)
            go_simp
            go_wp2_with (go_at_call 37; ((with_reducible refine (SB.out _).mono ?_); rintro e w5 ⟨rfl, hb⟩))
            have z0 := (((k0.out.keep hb).set (i := 0) (v := .slice none 0 0)).far (g' := w.heap.size + 1) (i := 0) (v := .int .i64 x) (by omega)).cell (i := 0) rfl
            have z1 := (((k1.out.keep hb).far (g' := w.heap.size) (i := 0) (v := .slice none 0 0) (by omega)).set (i := 0) (v := .int .i64 x)).cell (i := 0) rfl
            refine leaves_cons (f := 36) (args := #[.pointer (some ⟨w.heap.size, 0, none⟩), .pointer (some ⟨w.heap.size + 1, 0, none⟩)]) (by simp) (by simp [go_sem]) ?_
            refine (catch_thrown w.heap.size (w.heap.size + 1) vv 0 x [] w5 (k0.out.keep hb) (k1.out.keep hb) (by omega)).mono ?_
            rintro e u' w'' ⟨rfl, rfl, rfl⟩
            have HBB : Below w.heap.size w ((w5.setCell ⟨w.heap.size, 0, none⟩ (.slice none 0 0)).setCell ⟨w.heap.size + 1, 0, none⟩ (.int .i64 x)) := ((HB.out.trans (hB.trans (hb.mono (Nat.le_trans hbound hB.size)))).setCell (p := ⟨w.heap.size, 0, none⟩) (Nat.le_refl _) _).setCell (p := ⟨w.heap.size + 1, 0, none⟩) (Nat.le_succ _) _
            replace HBB := Lib.hid HBB
            simp [Leaves, settle, results, Tryd.results29, go_sem, z0, z1]
            exact ⟨HBB.out, .inl ⟨by rw [EN.out]; exact HX.out, by rw [EN.out]⟩⟩
          case s9r2 =>
            rintro L u W ⟨hB, c0, c1, c2, c3, c4, c5, c6, c7, c8, pre0, pre1, ini0, id0, ini1, id1⟩ hf hd K hK
            dsimp only at hK
            have hd8 : L 8 = true := (by first | (refine hd ⟨8, .data⟩ ?_ rfl; simp; done) | (refine hd ⟨8, .guard⟩ ?_ rfl; simp; done) | (refine hd ⟨8, .phase⟩ ?_ rfl; simp; done) | (refine hd ⟨8, .chain⟩ ?_ rfl; simp; done))
            have e8 := c8 hd8
            clear hd8
            exact e8.elim
          case s10r2 =>
            rintro L u W ⟨hB, c0, c1, c2, c3, c4, c5, c6, c7, c8, pre0, pre1, ini0, id0, ini1, id1⟩ hf hd K hK
            dsimp only at hK
            have hd8 : L 8 = true := (by first | (refine hd ⟨8, .data⟩ ?_ rfl; simp; done) | (refine hd ⟨8, .guard⟩ ?_ rfl; simp; done) | (refine hd ⟨8, .phase⟩ ?_ rfl; simp; done) | (refine hd ⟨8, .chain⟩ ?_ rfl; simp; done))
            have e8 := c8 hd8
            clear hd8
            exact e8.elim
          case s11r2 =>
            rintro L u W ⟨hB, c0, c1, c2, c3, c4, c5, c6, c7, c8, pre0, pre1, ini0, id0, ini1, id1⟩ hf hd K hK
            dsimp only at hK
            have hdi0 : L 0 = true := (by first | (refine hd ⟨0, .data⟩ ?_ rfl; simp; done) | (refine hd ⟨0, .phase⟩ ?_ rfl; simp; done) | (refine hd ⟨0, .chain⟩ ?_ rfl; simp; done))
            replace hdi0 := Lib.hid hdi0
            have hdi1 : L 8 = true := (by first | (refine hd ⟨8, .data⟩ ?_ rfl; simp; done) | (refine hd ⟨8, .phase⟩ ?_ rfl; simp; done) | (refine hd ⟨8, .chain⟩ ?_ rfl; simp; done))
            replace hdi1 := Lib.hid hdi1
            have hd8 : L 8 = true := (by first | (refine hd ⟨8, .data⟩ ?_ rfl; simp; done) | (refine hd ⟨8, .guard⟩ ?_ rfl; simp; done) | (refine hd ⟨8, .phase⟩ ?_ rfl; simp; done) | (refine hd ⟨8, .chain⟩ ?_ rfl; simp; done))
            have e8 := c8 hd8
            clear hd8
            exact e8.elim
        case finr2 =>
          rintro L u W hL ⟨hB, c0, c1, c2, c3, c4, c5, c6, c7, c8, pre0, pre1, ini0, id0, ini1, id1⟩
          have e0 := c0 (hL 0 (by decide))
          have e1 := c1 (hL 1 (by decide))
          have e2 := c2 (hL 2 (by decide))
          have e3 := c3 (hL 3 (by decide))
          have e4 := c4 (hL 4 (by decide))
          have e5 := c5 (hL 5 (by decide))
          have e6 := c6 (hL 6 (by decide))
          have e7 := c7 (hL 7 (by decide))
          have kq8 := c8 (hL 8 (by decide))
          clear hL c0 c1 c2 c3 c4 c5 c6 c7 c8 pre0 pre1 ini0 id0 ini1 id1
          try simp only [e0, e1, e2, e3, e4, e5, e6, e7]
          clear e0 e1 e2 e3 e4 e5 e6 e7
          exact kq8.elim
    · obtain rfl : k = N := by omega
      obtain ⟨a, c', rfl, -, -, hc', -⟩ := rowK_of_own2 HO.out
      have HO2 := Lib.hid (ownK_set (ownK_set HO.out (g := w.heap.size) (i := 0) (x := .slice a k c') (by omega)) (g := w.heap.size + 1) (i := 0) (x := .int .i64 0) (by omega))
      have t0 := KG.out.cell (i := 0) rfl
      have f0 := KG.out.frozen 0
      have t1 := KH.out.cell (i := 0) rfl
      have f1 := KH.out.frozen 0
      clear HO
      go_wp2_with fail
      have z0 := ((KG.out.set (i := 0) (v := .slice a k c')).far (g' := w.heap.size + 1) (i := 0) (v := .int .i64 0) (by omega)).cell (i := 0) rfl
      have z1 := ((KH.out.far (g' := w.heap.size) (i := 0) (v := .slice a k c') (by omega)).set (i := 0) (v := .int .i64 0)).cell (i := 0) rfl
      refine leaves_cons (f := 36) (args := #[.pointer (some ⟨w.heap.size, 0, none⟩), .pointer (some ⟨w.heap.size + 1, 0, none⟩)]) (by simp) (by simp [go_sem]) ?_
      refine (catch_idle w.heap.size (w.heap.size + 1) _).mono ?_
      rintro e u' w'' ⟨rfl, rfl, rfl⟩
      have HBB := Lib.hid ((HB.out.setCell (p := ⟨w.heap.size, 0, none⟩) (Nat.le_refl _) (.slice a k c')).setCell (p := ⟨w.heap.size + 1, 0, none⟩) (Nat.le_succ _) (.int .i64 0))
      obtain ⟨a2, c2, e2, -, -, -, hr2⟩ := rowK_of_own2 HO2.out
      cases e2
      have HR2 := Lib.hid hr2
      clear hr2
      simp [Leaves, settle, results, Tryd.results29, go_sem, z0, z1]
      exact ⟨HBB.out, .inr ⟨HE.out, a, c', rfl, HR2.out, hc'⟩⟩
end Go.Proofs.YtlpfijdjkaijeaaDoor
