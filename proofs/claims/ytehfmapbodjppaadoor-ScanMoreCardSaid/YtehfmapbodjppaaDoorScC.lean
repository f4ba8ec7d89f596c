/-
  Package scan: read.
-/
import Derived.Test.YtehfmapbodjppaaDoorScB
import Derived.Lib.OthersKept
import Derived.BigRegion
import Derived.RegionTactic
import Derived.Deep.Cut
namespace Go.Proofs.YtehfmapbodjppaaDoor
open Go.RowKit

/-- A text's iterator, and where it stands. -/
def ItAt (W : World) (k : Nat) (s : ByteArray) (i : Nat) : Prop := W.heap[k]? = some (.stringIter s i)
theorem ItAt.lt {W : World} {k : Nat} {s : ByteArray} {i : Nat} (h : ItAt W k s i) : k < W.heap.size := (Array.getElem?_eq_some_iff.1 h).1
theorem ItAt.keep {W W' : World} {k : Nat} {s : ByteArray} {i : Nat} (h : ItAt W k s i) (hb : Below W.heap.size W W') : ItAt W' k s i := (hb.block k h.lt).trans h
theorem ItAt.set {W : World} {k g o : Nat} {s : ByteArray} {i : Nat} {v : Value} (h : ItAt W k s i) (hn : k ≠ g) : ItAt (W.setCell ⟨g, o, none⟩ v) k s i := (Below.heap_setCell W ⟨g, o, none⟩ v k hn).trans h
theorem ItAt.next {W : World} {k : Nat} {s : ByteArray} {i : Nat} (h : ItAt W k s i) (j : Nat) : ItAt (W.iterAt k s j) k s j := Lib.iterAt_heap W k s i j h
theorem ItAt.new (W : World) (s : ByteArray) : ItAt (W.iter s 0) W.heap.size s 0 := World.iter_heap W s 0
theorem ItAt.pos {W : World} {k : Nat} {s : ByteArray} {i : Nat} (h : ItAt W k s i) : W.iterPos k = i := iterPos_of h
theorem Lok.iterAt {W : World} {g k : Nat} {t : TypeId} {cs : Array Value} {s : ByteArray} {j : Nat} (h : Lok W g t cs) (hn : g ≠ k) : Lok (W.iterAt k s j) g t cs := (Lib.iterAt_other W k g s j hn).trans h
theorem Lok.iter {W : World} {g : Nat} {t : TypeId} {cs : Array Value} {s : ByteArray} (h : Lok W g t cs) : Lok (W.iter s 0) g t cs := Lok.keep h ((Below.refl _ W).alloc (Nat.le_refl _) _)
theorem Lok.setsP {W : World} {g : Nat} {t : TypeId} {a b c d e f : Value} {n p q : Int} (h : Lok W g t #[a, b, c, d, e, f]) : Lok (stP W g n p q) g t #[a, b, .int .i64 n, d, .int .u64 p, .int .u64 q] := ((h.set (i := 2) (v := .int .i64 n)).set (i := 4) (v := .int .u64 p)).set (i := 5) (v := .int .u64 q)
theorem Lok.setsW {W : World} {g : Nat} {t : TypeId} {a b c d e f : Value} {n p : Int} (h : Lok W g t #[a, b, c, d, e, f]) : Lok (stW W g n p) g t #[a, b, .int .i64 n, .int .u64 p, e, f] := (h.set (i := 2) (v := .int .i64 n)).set (i := 3) (v := .int .u64 p)
theorem below_setP {B : Nat} {w W : World} {g : Nat} {n p q : Int} (h : Below B w W) (hg : B ≤ g) : Below B w (stP W g n p q) := ((h.setCell hg _).setCell hg _).setCell hg _
theorem below_setW {B : Nat} {w W : World} {g : Nat} {n p : Int} (h : Below B w W) (hg : B ≤ g) : Below B w (stW W g n p) := (h.setCell hg _).setCell hg _
theorem Lok.farP {W : World} {g g' : Nat} {t : TypeId} {cs : Array Value} {n p q : Int} (h : Lok W g t cs) (hn : g ≠ g') : Lok (stP W g' n p q) g t cs := ((h.far hn).far hn).far hn
theorem Lok.farW {W : World} {g g' : Nat} {t : TypeId} {cs : Array Value} {n p : Int} (h : Lok W g t cs) (hn : g ≠ g') : Lok (stW W g' n p) g t cs := (h.far hn).far hn
theorem ItAt.setsP {W : World} {k g : Nat} {s : ByteArray} {i : Nat} {n p q : Int} (h : ItAt W k s i) (hn : k ≠ g) : ItAt (stP W g n p q) k s i := ((h.set hn).set hn).set hn
theorem ItAt.setsW {W : World} {k g : Nat} {s : ByteArray} {i : Nat} {n p : Int} (h : ItAt W k s i) (hn : k ≠ g) : ItAt (stW W g n p) k s i := (h.set hn).set hn

def zeroD : Array Value := #[.bool false, .bool false, .int .i64 0, .int .u64 0, .int .u64 0, .int .u64 0]
theorem rest_at (s : ByteArray) (i : Nat) (h : i < s.size) : s.data.toList.drop i = s[i] :: s.data.toList.drop (i + 1) := by
  have h' : i < s.data.toList.length := by simpa using h
  rw [List.drop_eq_getElem_cons h']
  rfl
/-- What the loop has read when i bytes are gone. -/
def Rd (s : ByteArray) (i : Nat) (bl pt : Bool) (A B : List UInt8) : Prop :=
  goS i bl pt A B (s.data.toList.drop i) = startS s.data.toList ∧ i ≤ s.size ∧ A.length + B.length + (if pt = true then 1 else 0) ≤ i ∧ (∀ b ∈ A, isD b = true) ∧ (∀ b ∈ B, isD b = true) ∧ (pt = false → B = []) ∧ (i = 0 → bl = false ∧ pt = false ∧ A = [] ∧ B = [])
def RetRead (s : ByteArray) (e : Ending) : Prop :=
  (startS s.data.toList = none ∧ e = .returned (.tuple #[.agg zeroD, .bool false])) ∨
  ∃ bl pt A B, startS s.data.toList = some (bl, (A, B)) ∧ A.length + B.length ≤ 20 ∧ B.length ≤ 19 ∧ (∀ b ∈ B, isD b = true) ∧ e = .returned (.tuple #[.agg (decC bl pt A B), .bool (decide (0 < A.length + B.length))])

theorem cells_0 : (#[.bool false, .bool false, .int .i64 0, .int .u64 0, .int .u64 0, .int .u64 0] : Array Value) = zeroD := rfl
theorem rune_of (s : ByteArray) (i : Nat) (h : i < s.size) : ∃ r wd : Nat, Utf8.decode s i = (r, wd) ∧ ((s[i]'h).toNat < 128 → r = (s[i]'h).toNat ∧ wd = 1) ∧ (128 ≤ (s[i]'h).toNat → 128 ≤ r) ∧ r ≤ 2147483647 := by
  refine ⟨(Utf8.decode s i).1, (Utf8.decode s i).2, rfl, fun ha => ?_, fun ha => (decode_high s i h ha).1, decode_le s i⟩
  have e := decode_ascii s i h ha
  exact ⟨congrArg Prod.fst e, congrArg Prod.snd e⟩
theorem next_at {W : World} {k : Nat} {s : ByteArray} {i r wd : Nat} (h : ItAt W k s i) (hi : i < s.size) (hd : Utf8.decode s i = (r, wd)) :
    ∀ ty, (Instr.next (.pointer (some ⟨k, 0, none⟩)) true ty).run Tryd.prog W = .ok (.tuple #[.bool true, .int .i64 i, .int .i32 r]) (W.iterAt k s (i + wd)) := fun ty => by
  rw [Lib.run_next_any_at W k s i ty h hi, hd]
theorem next_end {W : World} {k : Nat} {s : ByteArray} {i : Nat} (h : ItAt W k s i) (hi : ¬ i < s.size) :
    ∀ ty, (Instr.next (.pointer (some ⟨k, 0, none⟩)) true ty).run Tryd.prog W = .ok (.tuple #[.bool false]) W := fun ty => Lib.run_next_end_at W k s i ty h hi

theorem rd_zero (s : ByteArray) : Rd s 0 false false [] [] := ⟨rfl, Nat.zero_le _, Nat.le_refl _, fun _ h => (by simp at h), fun _ h => (by simp at h), fun _ => rfl, fun _ => ⟨rfl, rfl, rfl, rfl⟩⟩
theorem rd_dig0 {s : ByteArray} {i : Nat} {bl : Bool} {A B : List UInt8} (h : Rd s i bl false A B) (hi : i < s.size) (hb : isD (s[i]'hi) = true) : Rd s (i + 1) bl false (A ++ [s[i]'hi]) B := by
  obtain ⟨h1, h2, h3, h4, h5, h6, h7⟩ := h
  rw [rest_at s i hi, goS_dig0 _ _ _ _ _ _ (fun z => ⟨(h7 z).1, rfl, (h7 z).2.2⟩) hb] at h1
  refine ⟨h1, hi, by simp at h3 ⊢; omega, fun b hx => ?_, h5, h6, fun z => absurd z (by omega)⟩
  rcases List.mem_append.1 hx with hx | hx
  · exact h4 b hx
  · rw [List.mem_singleton] at hx; subst hx; exact hb
theorem rd_dig1 {s : ByteArray} {i : Nat} {bl : Bool} {A B : List UInt8} (h : Rd s i bl true A B) (hi : i < s.size) (hb : isD (s[i]'hi) = true) : Rd s (i + 1) bl true A (B ++ [s[i]'hi]) := by
  obtain ⟨h1, h2, h3, h4, h5, h6, h7⟩ := h
  rw [rest_at s i hi, goS_dig1 _ _ _ _ _ _ (fun z => absurd (h7 z).2.1 (by decide)) hb] at h1
  refine ⟨h1, hi, by simp at h3 ⊢; omega, h4, fun b hx => ?_, fun z => absurd z (by decide), fun z => absurd z (by omega)⟩
  rcases List.mem_append.1 hx with hx | hx
  · exact h5 b hx
  · rw [List.mem_singleton] at hx; subst hx; exact hb
theorem rd_point {s : ByteArray} {i : Nat} {bl : Bool} {A B : List UInt8} (h : Rd s i bl false A B) (hi : i < s.size) (hb : (s[i]'hi).toNat = 46) : Rd s (i + 1) bl true A B := by
  obtain ⟨h1, h2, h3, h4, h5, h6, h7⟩ := h
  rw [rest_at s i hi, goS_point _ _ _ _ _ _ (fun z => ⟨(h7 z).1, rfl, (h7 z).2.2⟩) hb] at h1
  exact ⟨h1, hi, by simp at h3 ⊢; omega, h4, h5, fun z => absurd z (by decide), fun z => absurd z (by omega)⟩
theorem rd_sign {s : ByteArray} {bl pt : Bool} {A B : List UInt8} (h : Rd s 0 bl pt A B) (hi : 0 < s.size) (hb : (s[0]'hi).toNat = 45 ∨ (s[0]'hi).toNat = 43) : Rd s (0 + 1) (decide ((s[0]'hi).toNat = 45)) pt A B := by
  obtain ⟨h1, h2, h3, h4, h5, h6, h7⟩ := h
  obtain ⟨rfl, rfl, rfl, rfl⟩ := h7 rfl
  rw [rest_at s 0 hi, goS_sign _ _ _ _ hb] at h1
  exact ⟨h1, hi, by simp, h4, h5, h6, fun z => absurd z (by omega)⟩
theorem rd_stop {s : ByteArray} {i : Nat} {bl pt : Bool} {A B : List UInt8} (h : Rd s i bl pt A B) (hi : i < s.size) (n1 : ¬ (48 ≤ (s[i]'hi).toNat ∧ (s[i]'hi).toNat ≤ 57)) (n2 : ¬ ((s[i]'hi).toNat = 46 ∧ pt = false)) (n3 : ¬ (i = 0 ∧ ((s[i]'hi).toNat = 45 ∨ (s[i]'hi).toNat = 43))) :
    startS s.data.toList = none := by
  obtain ⟨h1, h2, h3, h4, h5, h6, h7⟩ := h
  rw [rest_at s i hi, goS_stop _ _ _ _ _ _ _ h7 n1 n2 n3] at h1
  exact h1.symm
theorem rd_end {s : ByteArray} {i : Nat} {bl pt : Bool} {A B : List UInt8} (h : Rd s i bl pt A B) (hi : ¬ i < s.size) : startS s.data.toList = some (bl, (A, B)) := by
  obtain ⟨h1, h2, h3, h4, h5, h6, h7⟩ := h
  rw [List.drop_eq_nil_of_le (by simp; omega), goS_end _ _ _ _ _ (fun z => ⟨(h7 z).1, (h7 z).2.2⟩)] at h1
  exact h1.symm
theorem pow_le18 {n : Nat} (h : n ≤ 18) : 10 ^ n ≤ 1000000000000000000 := Nat.pow_le_pow_right (n := 10) (by decide) h
theorem decC_dig0 (bl pt : Bool) (A B : List UInt8) (b : UInt8) (hb : 48 ≤ b.toNat) (m : Int) (hm : min (10 * (capD A : Int) + ((b.toNat : Int) - 48)) 1048576 = m) :
    (#[.bool bl, .bool pt, .int .i64 (((A.length + B.length : Nat) : Int) + 1), .int .u64 m, .int .u64 (valD B : Nat), .int .u64 ((10 ^ B.length : Nat) : Int)] : Array Value) = decC bl pt (A ++ [b]) B := by
  unfold decC
  rw [capD_snoc, List.length_append, List.length_singleton]
  have e1 : ((A.length + 1 + B.length : Nat) : Int) = ((A.length + B.length : Nat) : Int) + 1 := by omega
  have e2 : ((min (10 * capD A + (b.toNat - 48)) 1048576 : Nat) : Int) = m := by rw [← hm]; omega
  rw [e1, e2]
theorem decC_dig1 (bl pt : Bool) (A B : List UInt8) (b : UInt8) (hb : 48 ≤ b.toNat) :
    (#[.bool bl, .bool pt, .int .i64 (((A.length + B.length : Nat) : Int) + 1), .int .u64 (capD A : Nat), .int .u64 (10 * (valD B : Nat) + ((b.toNat : Int) - 48)), .int .u64 (((10 ^ B.length : Nat) : Int) * 10)] : Array Value) = decC bl pt A (B ++ [b]) := by
  unfold decC
  rw [valD_snoc, List.length_append, List.length_singleton, Nat.pow_succ]
  have e1 : ((A.length + (B.length + 1) : Nat) : Int) = ((A.length + B.length : Nat) : Int) + 1 := by omega
  have e2 : ((10 * valD B + (b.toNat - 48) : Nat) : Int) = 10 * (valD B : Nat) + ((b.toNat : Int) - 48) := by omega
  have e3 : ((10 ^ B.length * 10 : Nat) : Int) = ((10 ^ B.length : Nat) : Int) * 10 := Int.natCast_mul _ _
  rw [e1, e2, e3]

theorem read_long (s : ByteArray) (w : World) (h : 20 < s.size) :
    Calls Tryd.prog 19 #[.string s] w fun e W' => e = .returned (.tuple #[.agg zeroD, .bool false]) ∧ Below w.heap.size w W' := by
  have hs : (20 : Int) < s.size := by omega
  go_enter Tryd.func19, Tryd.ntmps19
  go_wp2_with fail
  exact bodyPost_ret (v := .tuple #[.agg zeroD, .bool false]) (by simp [results, Tryd.results19, go_sem, zeroD]) rfl ⟨rfl, by (repeat (first | exact Below.refl _ _ | assumption | refine Below.drew ?_ | refine below_drewN ?_ _ | refine Below.setCell ?_ (by first | omega | (simp; done) | (simp; omega)) _ | refine Below.alloc ?_ (by first | omega | (simp; done) | (simp; omega)) _))⟩
set_option maxRecDepth 100000 in
set_option maxHeartbeats 4000000 in
theorem read_any (s : ByteArray) (w : World) (h : s.size ≤ 20) :
    Calls Tryd.prog 19 #[.string s] w fun e W' => RetRead s e ∧ Below w.heap.size w W' := by
  have hs : ¬ (20 : Int) < s.size := by omega
  go_enter Tryd.func19, Tryd.ntmps19
  go_wp2_with fail
  have hba := below_new1 w (.cells #[.bool false, .bool false, .int .i64 0, .int .u64 0, .int .u64 0, .int .u64 0] 42)
  have za : (w.alloc (.cells #[.bool false, .bool false, .int .i64 0, .int .u64 0, .int .u64 0, .int .u64 0] 42)).heap.size = w.heap.size + 1 := by simp
  have HB := Lib.hid hba
  have ka := Lib.hid (Lok.new w 42 #[.bool false, .bool false, .int .i64 0, .int .u64 0, .int .u64 0, .int .u64 0])
  clear hba
  generalize w.alloc (.cells #[.bool false, .bool false, .int .i64 0, .int .u64 0, .int .u64 0, .int .u64 0] 42) = Va at *
  have hbd := below_new1 Va (.cells #[.bool false, .bool false, .int .i64 0, .int .u64 0, .int .u64 0, .int .u64 1] 42)
  replace ka := Lib.hid (ka.out.keep hbd)
  have zd : (Va.alloc (.cells #[.bool false, .bool false, .int .i64 0, .int .u64 0, .int .u64 0, .int .u64 1] 42)).heap.size = Va.heap.size + 1 := by simp
  replace HB := Lib.hid (HB.out.trans (hbd.mono HB.out.size))
  have kd := Lib.hid (Lok.new Va 42 #[.bool false, .bool false, .int .i64 0, .int .u64 0, .int .u64 0, .int .u64 1])
  clear hbd
  generalize Va.alloc (.cells #[.bool false, .bool false, .int .i64 0, .int .u64 0, .int .u64 0, .int .u64 1] 42) = Vd at *
  rw [za] at kd zd
  have ki := Lib.hid (ItAt.new Vd s)
  rw [zd] at ki
  have zi : (Vd.iter s 0).heap.size = w.heap.size + 1 + 1 + 1 := by simp [World.iter, zd]
  replace ka := Lib.hid (Lok.iter (s := s) ka.out)
  replace kd := Lib.hid (Lok.iter (s := s) kd.out)
  replace HB := Lib.hid (HB.out.trans (((Below.refl Vd.heap.size Vd).alloc (Nat.le_refl _) (.stringIter s 0)).mono HB.out.size))
  change Hid (Below w.heap.size w (Vd.iter s 0)) at HB
  generalize Vd.iter s 0 = Vi at *
  clear za zd zi
  go_loopw [6] (fun _ wr => ∃ (i : Nat) (bl pt : Bool) (A B : List UInt8), Rd s i bl pt A B ∧ Lok wr w.heap.size 42 zeroD ∧ Lok wr (w.heap.size + 1) 42 (decC bl pt A B) ∧ ItAt wr (w.heap.size + 1 + 1) s i ∧ Below w.heap.size w wr) (fun _ wr => s.size - wr.iterPos (w.heap.size + 1 + 1))
  case atStart => exact ⟨0, false, false, [], [], rd_zero s, ka.out, kd.out, ki.out, HB.out⟩
  case round =>
    obtain ⟨i, bl, pt, A, B, hR, k1, k2, k3, hB⟩ := hrel
    clear ka kd ki HB
    by_cases hi : i < s.size
    · obtain ⟨r, wd, hd, r1, r2, r3⟩ := rune_of s i hi
      have hnx := next_at k3 hi hd
      obtain ⟨j, hj⟩ : ∃ j, i + wd = j := ⟨_, rfl⟩
      have HJ : Hid (wd = 1 → i + 1 = j) := Lib.hid (fun z => by omega)
      obtain ⟨z, hz⟩ : ∃ z : Int, (r : Int) = z := ⟨_, rfl⟩
      rw [hj, hz] at hnx
      clear hj hd
      have C := Lib.hid (fun W => isDigit_any z W)
      have HB := Lib.hid (Lib.below_iterAt hB (show w.heap.size ≤ w.heap.size + 1 + 1 by omega) s j)
      have K1 := Lib.hid (k1.iterAt (k := w.heap.size + 1 + 1) (s := s) (j := j) (by omega))
      have K2 := Lib.hid (k2.iterAt (k := w.heap.size + 1 + 1) (s := s) (j := j) (by omega))
      have K3 := Lib.hid (k3.next j)
      have HI := Lib.hid k3.pos
      have R := Lib.hid hR
      clear hB k1 k2 k3 hR
      have hn := (s[i]'hi).toNat_lt
      obtain ⟨b, hb⟩ : ∃ b, s[i]'hi = b := ⟨_, rfl⟩
      rw [hb] at r1 r2 hn
      have hz1 : b.toNat < 128 → z = (b.toNat : Int) ∧ wd = 1 := fun q => ⟨by have := (r1 q).1; omega, (r1 q).2⟩
      have hz2 : 128 ≤ b.toNat → 128 ≤ z := fun q => by have := r2 q; omega
      have hz3 : 0 ≤ z ∧ z ≤ 2147483647 := by omega
      clear r1 r2 r3 hz
      by_cases hD : 48 ≤ b.toNat ∧ b.toNat ≤ 57
      · obtain ⟨hzz, hwd⟩ := hz1 (by omega)
        have dg : decide ((48 : Int) ≤ z ∧ z ≤ 57) = true := decide_eq_true (by omega)
        rw [dg] at C
        obtain ⟨d, hd⟩ : ∃ d : Int, z - 48 = d := ⟨_, rfl⟩
        have hd2 : (b.toNat : Int) - 48 = d := by omega
        have d1 : IntKind.i32.wrap d = d := by rw [IntKind.wrap_i32]; omega
        have d2 : IntKind.u64.wrap d = d := by rw [IntKind.wrap_u64]; omega
        have d3 : 0 ≤ d ∧ d ≤ 9 := by omega
        replace hd2 := Lib.hid hd2
        replace hwd := hwd
        clear hzz hz1 hz2 hz3 dg
        cases pt with
        | false =>
          obtain ⟨m, hm⟩ : ∃ m : Int, min (10 * (capD A : Int) + d) 1048576 = m := ⟨_, rfl⟩
          have hc : capD A ≤ 1048576 := by rw [capD_eq]; exact Nat.min_le_right _ _
          have hln := R.out.2.2.1
          go_wp2_with fail
          (((with_reducible refine (C.out _).mono ?_); rintro e w1 ⟨rfl, hb1⟩); replace HB := Lib.hid (HB.out.trans (hb1.mono HB.out.size)); replace K1 := Lib.hid (K1.out.keep hb1); replace K2 := Lib.hid (K2.out.keep hb1); replace K3 := Lib.hid (K3.out.keep hb1); clear hb1)
          go_wp2_with fail
          have c := add_whole w1 (w.heap.size + 1) bl _ _ _ _ d m K2.out (by omega) (by omega) (by omega) hm
          (with_reducible refine c.mono ?_)
          rintro e W2 ⟨rfl, rfl⟩
          clear c
          go_wp2_with fail
          go_roundw
          case rel => exact ⟨i + 1, bl, false, _, _, (by have q := rd_dig0 R.out hi (by rw [hb, isD_iff]; exact hD); rw [hb] at q; exact q), K1.out.farW (by omega), (by rw [← decC_dig0 bl false A B b hD.1 m (by rw [hd2.out]; exact hm)]; exact K2.out.setsW), (by rw [HJ.out hwd]; exact K3.out.setsW (by omega)), below_setW HB.out (by omega)⟩
          case measure =>
            have e : ∀ n p, (stW w1 (w.heap.size + 1) n p).iterPos (w.heap.size + 1 + 1) = j := fun n p => (K3.out.setsW (show w.heap.size + 1 + 1 ≠ w.heap.size + 1 by omega)).pos
            rw [HI.out, e, ← HJ.out hwd]; omega
        | true =>
          have hv := valD_lt B R.out.2.2.2.2.1
          have hl : B.length ≤ 18 := by have := R.out.2.2.1; simp at this; omega
          have hp := pow_le18 hl
          have hln := R.out.2.2.1
          go_wp2_with fail
          (((with_reducible refine (C.out _).mono ?_); rintro e w1 ⟨rfl, hb1⟩); replace HB := Lib.hid (HB.out.trans (hb1.mono HB.out.size)); replace K1 := Lib.hid (K1.out.keep hb1); replace K2 := Lib.hid (K2.out.keep hb1); replace K3 := Lib.hid (K3.out.keep hb1); clear hb1)
          go_wp2_with fail
          have c := add_point w1 (w.heap.size + 1) bl _ _ _ _ d K2.out (by omega) (by omega) (by omega) (by omega)
          (with_reducible refine c.mono ?_)
          rintro e W2 ⟨rfl, rfl⟩
          clear c
          go_wp2_with fail
          go_roundw
          case rel => exact ⟨i + 1, bl, true, _, _, (by have q := rd_dig1 R.out hi (by rw [hb, isD_iff]; exact hD); rw [hb] at q; exact q), K1.out.farP (by omega), (by rw [← decC_dig1 bl true A B b hD.1, hd2.out]; exact K2.out.setsP), (by rw [HJ.out hwd]; exact K3.out.setsP (by omega)), below_setP HB.out (by omega)⟩
          case measure =>
            have e : ∀ n p q, (stP w1 (w.heap.size + 1) n p q).iterPos (w.heap.size + 1 + 1) = j := fun n p q => (K3.out.setsP (show w.heap.size + 1 + 1 ≠ w.heap.size + 1 by omega)).pos
            rw [HI.out, e, ← HJ.out hwd]; omega
      · have dg : decide ((48 : Int) ≤ z ∧ z ≤ 57) = false := decide_eq_false (by omega)
        rw [dg] at C
        clear dg
        by_cases hP : b.toNat = 46 ∧ pt = false
        · obtain ⟨hP, rfl⟩ := hP
          obtain ⟨hzz, hwd⟩ := hz1 (by omega)
          obtain rfl : z = 46 := by omega
          have P := Lib.hid (rd_point R.out hi (by rw [hb]; exact hP))
          clear hP hzz hz1 hz2 hz3 hD
          go_wp2_with fail
          (((with_reducible refine (C.out _).mono ?_); rintro e w1 ⟨rfl, hb1⟩); replace HB := Lib.hid (HB.out.trans (hb1.mono HB.out.size)); replace K1 := Lib.hid (K1.out.keep hb1); replace K2 := Lib.hid (K2.out.keep hb1); replace K3 := Lib.hid (K3.out.keep hb1); clear hb1)
          have y1 : w1.cell? ⟨w.heap.size + 1, 1, none⟩ = some (.bool false) := K2.out.cell (i := 1) rfl
          have f1 := K2.out.frozen 1
          go_wp2_with fail
          go_roundw
          case rel => exact ⟨i + 1, bl, true, A, B, P.out, K1.out.far (by omega), K2.out.set (i := 1) (v := .bool true), (by rw [HJ.out hwd]; exact K3.out.set (by omega)), HB.out.setCell (by simp) _⟩
          case measure =>
            have e := (K3.out.set (o := 1) (v := .bool true) (show w.heap.size + 1 + 1 ≠ w.heap.size + 1 by omega)).pos
            rw [HI.out, e, ← HJ.out hwd]; omega
        · by_cases hS : i = 0 ∧ (b.toNat = 45 ∨ b.toNat = 43)
          · obtain ⟨rfl, hS⟩ := hS
            obtain ⟨hzz, hwd⟩ := hz1 (by omega)
            rcases hS with hS | hS
            · obtain rfl : z = 45 := by omega
              have P : Hid (Rd s (0 + 1) true pt A B) := Lib.hid (by have q := rd_sign R.out hi (by rw [hb]; exact .inl hS); rw [hb, decide_eq_true hS] at q; exact q)
              clear hS hzz hz1 hz2 hz3 hD hP
              go_wp2_with fail
              (((with_reducible refine (C.out _).mono ?_); rintro e w1 ⟨rfl, hb1⟩); replace HB := Lib.hid (HB.out.trans (hb1.mono HB.out.size)); replace K1 := Lib.hid (K1.out.keep hb1); replace K2 := Lib.hid (K2.out.keep hb1); replace K3 := Lib.hid (K3.out.keep hb1); clear hb1)
              have y0 := K2.out.cell (i := 0) rfl
              have f0 := K2.out.frozen 0
              go_wp2_with fail
              go_roundw
              case rel => exact ⟨0 + 1, true, pt, A, B, P.out, K1.out.far (by omega), K2.out.set (i := 0) (v := .bool true), (by rw [HJ.out hwd]; exact K3.out.set (by omega)), HB.out.setCell (by simp) _⟩
              case measure =>
                have e := (K3.out.set (o := 0) (v := .bool true) (show w.heap.size + 1 + 1 ≠ w.heap.size + 1 by omega)).pos
                rw [HI.out, e, ← HJ.out hwd]; omega
            · obtain rfl : z = 43 := by omega
              have P : Hid (Rd s (0 + 1) false pt A B) := Lib.hid (by have q := rd_sign R.out hi (by rw [hb]; exact .inr hS); rw [hb, decide_eq_false (by omega)] at q; exact q)
              clear hS hzz hz1 hz2 hz3 hD hP
              go_wp2_with fail
              (((with_reducible refine (C.out _).mono ?_); rintro e w1 ⟨rfl, hb1⟩); replace HB := Lib.hid (HB.out.trans (hb1.mono HB.out.size)); replace K1 := Lib.hid (K1.out.keep hb1); replace K2 := Lib.hid (K2.out.keep hb1); replace K3 := Lib.hid (K3.out.keep hb1); clear hb1)
              have y0 := K2.out.cell (i := 0) rfl
              have f0 := K2.out.frozen 0
              go_wp2_with fail
              go_roundw
              case rel => exact ⟨0 + 1, false, pt, A, B, P.out, K1.out.far (by omega), K2.out.set (i := 0) (v := .bool false), (by rw [HJ.out hwd]; exact K3.out.set (by omega)), HB.out.setCell (by simp) _⟩
              case measure =>
                have e := (K3.out.set (o := 0) (v := .bool false) (show w.heap.size + 1 + 1 ≠ w.heap.size + 1 by omega)).pos
                rw [HI.out, e, ← HJ.out hwd]; omega
          · have N := Lib.hid (rd_stop R.out hi (by rw [hb]; exact hD) (by rw [hb]; exact hP) (by rw [hb]; exact hS))
            by_cases h46 : z = 46
            · have hpt : pt = true := by
                cases pt with
                | true => rfl
                | false => exact absurd ⟨by omega, rfl⟩ hP
              subst hpt
              have hi0 : ¬ i = 0 := fun z => absurd (R.out.2.2.2.2.2.2 z).2.1 (by decide)
              have q2 : ((i : Int) == 0) = false := by simp; omega
              subst h46
              clear hP hS hD hz1 hz2 hz3
              go_wp2_with fail
              (((with_reducible refine (C.out _).mono ?_); rintro e w1 ⟨rfl, hb1⟩); replace HB := Lib.hid (HB.out.trans (hb1.mono HB.out.size)); replace K1 := Lib.hid (K1.out.keep hb1); replace K2 := Lib.hid (K2.out.keep hb1); replace K3 := Lib.hid (K3.out.keep hb1); clear hb1)
              have z0 := K1.out.cell (i := 0) rfl
              have z1 := K1.out.cell (i := 1) rfl
              have z2 := K1.out.cell (i := 2) rfl
              have z3 := K1.out.cell (i := 3) rfl
              have z4 := K1.out.cell (i := 4) rfl
              have z5 := K1.out.cell (i := 5) rfl
              have f0 := K1.out.frozen 0
              have f1 := K1.out.frozen 1
              have f2 := K1.out.frozen 2
              have f3 := K1.out.frozen 3
              have f4 := K1.out.frozen 4
              have f5 := K1.out.frozen 5
              have y1 : w1.cell? ⟨w.heap.size + 1, 1, none⟩ = some (.bool true) := K2.out.cell (i := 1) rfl
              go_wp2_with fail
              exact bodyPost_ret (v := .tuple #[.agg zeroD, .bool false]) (by simp [results, Tryd.results19, go_sem, zeroD, z0, z1, z2, z3, z4, z5]) rfl ⟨.inl ⟨N.out, rfl⟩, (((((HB.out.setCell (Nat.le_refl _) _).setCell (Nat.le_refl _) _).setCell (Nat.le_refl _) _).setCell (Nat.le_refl _) _).setCell (Nat.le_refl _) _).setCell (Nat.le_refl _) _⟩
            · have q1 : (z == 46) = false := by simp; omega
              by_cases hi0 : i = 0
              · have q3 : (z == 43) = false := by simp; omega
                have q4 : (z == 45) = false := by simp; omega
                subst hi0
                clear h46 hP hS hD hz1 hz2 hz3
                go_wp2_with fail
                (((with_reducible refine (C.out _).mono ?_); rintro e w1 ⟨rfl, hb1⟩); replace HB := Lib.hid (HB.out.trans (hb1.mono HB.out.size)); replace K1 := Lib.hid (K1.out.keep hb1); replace K2 := Lib.hid (K2.out.keep hb1); replace K3 := Lib.hid (K3.out.keep hb1); clear hb1)
                have z0 := K1.out.cell (i := 0) rfl
                have z1 := K1.out.cell (i := 1) rfl
                have z2 := K1.out.cell (i := 2) rfl
                have z3 := K1.out.cell (i := 3) rfl
                have z4 := K1.out.cell (i := 4) rfl
                have z5 := K1.out.cell (i := 5) rfl
                have f0 := K1.out.frozen 0
                have f1 := K1.out.frozen 1
                have f2 := K1.out.frozen 2
                have f3 := K1.out.frozen 3
                have f4 := K1.out.frozen 4
                have f5 := K1.out.frozen 5
                have y1 := K2.out.cell (i := 1) rfl
                go_wp2_with fail
                exact bodyPost_ret (v := .tuple #[.agg zeroD, .bool false]) (by simp [results, Tryd.results19, go_sem, zeroD, z0, z1, z2, z3, z4, z5]) rfl ⟨.inl ⟨N.out, rfl⟩, (((((HB.out.setCell (Nat.le_refl _) _).setCell (Nat.le_refl _) _).setCell (Nat.le_refl _) _).setCell (Nat.le_refl _) _).setCell (Nat.le_refl _) _).setCell (Nat.le_refl _) _⟩
              · have q2 : ((i : Int) == 0) = false := by simp; omega
                clear h46 hP hS hD hz1 hz2 hz3
                go_wp2_with fail
                (((with_reducible refine (C.out _).mono ?_); rintro e w1 ⟨rfl, hb1⟩); replace HB := Lib.hid (HB.out.trans (hb1.mono HB.out.size)); replace K1 := Lib.hid (K1.out.keep hb1); replace K2 := Lib.hid (K2.out.keep hb1); replace K3 := Lib.hid (K3.out.keep hb1); clear hb1)
                have z0 := K1.out.cell (i := 0) rfl
                have z1 := K1.out.cell (i := 1) rfl
                have z2 := K1.out.cell (i := 2) rfl
                have z3 := K1.out.cell (i := 3) rfl
                have z4 := K1.out.cell (i := 4) rfl
                have z5 := K1.out.cell (i := 5) rfl
                have f0 := K1.out.frozen 0
                have f1 := K1.out.frozen 1
                have f2 := K1.out.frozen 2
                have f3 := K1.out.frozen 3
                have f4 := K1.out.frozen 4
                have f5 := K1.out.frozen 5
                have y1 := K2.out.cell (i := 1) rfl
                go_wp2_with fail
                exact bodyPost_ret (v := .tuple #[.agg zeroD, .bool false]) (by simp [results, Tryd.results19, go_sem, zeroD, z0, z1, z2, z3, z4, z5]) rfl ⟨.inl ⟨N.out, rfl⟩, (((((HB.out.setCell (Nat.le_refl _) _).setCell (Nat.le_refl _) _).setCell (Nat.le_refl _) _).setCell (Nat.le_refl _) _).setCell (Nat.le_refl _) _).setCell (Nat.le_refl _) _⟩
    · have hnx := next_end k3 hi
      have HB := Lib.hid hB
      have K1 := Lib.hid k1
      have K2 := Lib.hid k2
      have R := Lib.hid hR
      clear hB k1 k2 k3 hR
      have E := Lib.hid (rd_end R.out hi)
      obtain ⟨n, hn⟩ : ∃ n : Int, ((A.length + B.length : Nat) : Int) = n := ⟨_, rfl⟩
      obtain ⟨c, hc⟩ : ∃ c : Int, ((capD A : Nat) : Int) = c := ⟨_, rfl⟩
      obtain ⟨v, hv⟩ : ∃ v : Int, ((valD B : Nat) : Int) = v := ⟨_, rfl⟩
      obtain ⟨t, ht⟩ : ∃ t : Int, ((10 ^ B.length : Nat) : Int) = t := ⟨_, rfl⟩
      have eD : decC bl pt A B = #[.bool bl, .bool pt, .int .i64 n, .int .u64 c, .int .u64 v, .int .u64 t] := by unfold decC; rw [hn, hc, hv, ht]
      have F : Hid (decide (0 < n) = decide (0 < A.length + B.length)) := Lib.hid (by rw [← hn]; congr 1; simp only [eq_iff_iff]; omega)
      rw [eD] at K2
      replace eD := Lib.hid eD
      clear hn hc hv ht
      have z0 := K1.out.cell (i := 0) rfl
      have z1 := K1.out.cell (i := 1) rfl
      have z2 := K1.out.cell (i := 2) rfl
      have z3 := K1.out.cell (i := 3) rfl
      have z4 := K1.out.cell (i := 4) rfl
      have z5 := K1.out.cell (i := 5) rfl
      have f0 := K1.out.frozen 0
      have f1 := K1.out.frozen 1
      have f2 := K1.out.frozen 2
      have f3 := K1.out.frozen 3
      have f4 := K1.out.frozen 4
      have f5 := K1.out.frozen 5
      have y0 : wr.cell? ⟨w.heap.size + 1, 0, none⟩ = some (.bool bl) := K2.out.cell (i := 0) rfl
      have y1 : wr.cell? ⟨w.heap.size + 1, 1, none⟩ = some (.bool pt) := K2.out.cell (i := 1) rfl
      have y2 : wr.cell? ⟨w.heap.size + 1, 2, none⟩ = some (.int .i64 n) := K2.out.cell (i := 2) rfl
      have y3 : wr.cell? ⟨w.heap.size + 1, 3, none⟩ = some (.int .u64 c) := K2.out.cell (i := 3) rfl
      have y4 : wr.cell? ⟨w.heap.size + 1, 4, none⟩ = some (.int .u64 v) := K2.out.cell (i := 4) rfl
      have y5 : wr.cell? ⟨w.heap.size + 1, 5, none⟩ = some (.int .u64 t) := K2.out.cell (i := 5) rfl
      have l1 : A.length + B.length ≤ 20 := by
        have := R.out.2.2.1
        have := R.out.2.1
        omega
      have l2 : B.length ≤ 19 := by
        have q := R.out.2.2.1
        have := R.out.2.1
        cases pt with
        | true => simp at q; omega
        | false => have z := R.out.2.2.2.2.2.1 rfl; subst z; simp
      have e1 : Ending.returned (.tuple #[.agg #[.bool bl, .bool pt, .int .i64 n, .int .u64 c, .int .u64 v, .int .u64 t], .bool (decide (0 < n))]) = .returned (.tuple #[.agg (decC bl pt A B), .bool (decide (0 < A.length + B.length))]) := by rw [eD.out, F.out]
      have RR : RetRead s (.returned (.tuple #[.agg #[.bool bl, .bool pt, .int .i64 n, .int .u64 c, .int .u64 v, .int .u64 t], .bool (decide (0 < n))])) := .inr ⟨bl, pt, A, B, E.out, l1, l2, R.out.2.2.2.2.1, e1⟩
      replace RR := Lib.hid RR
      clear hi l1 l2 e1
      go_wp2_with fail
      go_region
      go_wp2_with fail
      refine bodyPost_ret (v := .tuple #[.agg #[.bool bl, .bool pt, .int .i64 n, .int .u64 c, .int .u64 v, .int .u64 t], .bool (decide (0 < n))]) (by simp [results, Tryd.results19, go_sem, z0, z1, z2, z3, z4, z5]) rfl ?_
      refine ⟨RR.out, ?_⟩
      exact Below.drew ((((((HB.out.setCell (Nat.le_refl _) _).setCell (Nat.le_refl _) _).setCell (Nat.le_refl _) _).setCell (Nat.le_refl _) _).setCell (Nat.le_refl _) _).setCell (Nat.le_refl _) _)
end Go.Proofs.YtehfmapbodjppaaDoor
