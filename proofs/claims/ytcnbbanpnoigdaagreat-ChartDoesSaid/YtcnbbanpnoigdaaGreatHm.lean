import Derived.Test.YtcnbbanpnoigdaaGreatHh
import Derived.Test.YtcnbbanpnoigdaaGreatHl
import Derived.Test.YtcnbbanpnoigdaaGreatHd
import Derived.HandedShaped
import Derived.Lib.SlicesCompact
namespace Go.Proofs.YtcnbbanpnoigdaaGreat
open Go.RowKit

def upL : Nat → List Int
 | 0 => []
 | k + 1 => upL k ++ [(k : Int)]
theorem upL_len : ∀ n, (upL n).length = n
 | 0 => rfl
 | k + 1 => by show (upL k ++ [(k : Int)]).length = _; rw [List.length_append, upL_len k]; rfl
def ptS (F : Nat → Nat → Int) (i k : Nat) (L : List Int) : List Int := if L.getD k 0 < L.getD i 0 ∧ nxB F i k = true then L.set i (L.getD k 0) else L
def ptK (F : Nat → Nat → Int) (i : Nat) (L : List Int) : Nat → List Int
 | 0 => L
 | k + 1 => ptS F i k (ptK F i L k)
def ptI (F : Nat → Nat → Int) (n : Nat) (L : List Int) : Nat → List Int
 | 0 => L
 | i + 1 => ptK F i (ptI F n L i) n
def ptR (F : Nat → Nat → Int) (n : Nat) : Nat → List Int
 | 0 => upL n
 | r + 1 => ptI F n (ptR F n r) n
def ptA (t : Bool) (F : Nat → Nat → Int) (n : Nat) : List Int := if t then ptR F n n else []
end Go.Proofs.YtcnbbanpnoigdaaGreat
namespace Go.Proofs.YtcnbbanpnoigdaaGreat

def spP (x y u v : Int) : Prop := ¬ x = y ∧ ¬ u = v ∧ (u = x ∧ v = y ∨ u = y ∧ v = x)

def cntB (P : Nat → Bool) : Nat → Nat
 | 0 => 0
 | n + 1 => cntB P n + if P n then 1 else 0
theorem cntB_mono {P Q : Nat → Bool} : ∀ n, (∀ j, j < n → P j = true → Q j = true) → cntB P n ≤ cntB Q n
 | 0, _ => Nat.le_refl 0
 | n + 1, h => by
  have p := cntB_mono n (fun j hj => h j (by omega));have q := h n (by omega)
  show cntB P n + _ ≤ cntB Q n + _
  by_cases e : P n = true
  ·rw [if_pos e, if_pos (q e)]; omega
  ·rw [if_neg e]; omega
theorem cntB_lt {P Q : Nat → Bool} : ∀ n, (∀ j, j < n → P j = true → Q j = true) → (∃ j, j < n ∧ Q j = true ∧ ¬ P j = true) → cntB P n < cntB Q n
 | 0, _, ⟨j, h, _⟩ => absurd h (by omega)
 | n + 1, h, ⟨j, hj, hq, hp⟩ => by
  show cntB P n + _ < cntB Q n + _
  by_cases e : j = n
  ·subst e
   have p := cntB_mono (P := P) (Q := Q) j (fun i hi => h i (by omega))
   rw [if_neg hp, if_pos hq]; omega
  ·have p := cntB_lt n (fun i hi => h i (by omega)) ⟨j, by omega, hq, hp⟩
   have q := h n (by omega)
   by_cases s : P n = true
   ·rw [if_pos s, if_pos (q s)]; omega
   ·rw [if_neg s]; omega

def wtP (F : Nat → Nat → Int) (n i : Nat) : Nat → Nat → Bool
 | 0, j => i == j
 | r + 1, j => wtP F n i r j || (List.range n).any (fun k => wtP F n i r k && nxB F k j)
def cnP (F : Nat → Nat → Int) (n i j : Nat) : Prop := wtP F n i n j = true
end Go.Proofs.YtcnbbanpnoigdaaGreat
namespace Go.Proofs.YtcnbbanpnoigdaaGreat

def ptG (F : Nat → Nat → Int) (n : Nat) (L : List Int) : Prop := L.length = n ∧ ∀ j, j < n → ∃ m : Nat, L.getD j 0 = (m : Int) ∧ m ≤ j ∧ cnP F n m j
def ptD (n : Nat) (M L : List Int) : Prop := ∀ j, j < n → M.getD j 0 ≤ L.getD j 0
end Go.Proofs.YtcnbbanpnoigdaaGreat
namespace Go.Proofs.YtcnbbanpnoigdaaGreat
open Go.RowKit

theorem ownI_slice {w : World} {base : Nat} {v : Value} {L : List Int} (h : OwnI w base v L) : ∃ a n c, v = .slice a n c := by
 obtain ⟨a, c, e, _⟩ := rowI_of_own h
 exact ⟨a, _, c, e⟩
def lsL (L : List (Int × Int × List Int)) : List (Int × Int × List Int) := L.filter fun e => decide (e.2.2.length = 1)
end Go.Proofs.YtcnbbanpnoigdaaGreat
namespace Go.Proofs.YtcnbbanpnoigdaaGreat
open Go.RowKit

def fdB (a b : Int) (e : Int × Int × List Int) : Bool := decide (e.1 = a ∧ e.2.1 = b ∨ e.1 = b ∧ e.2.1 = a)
def fdV (o : Option (Int × Int × List Int)) : Int × Int × List Int := o.getD (0, 0, [])
def bigB (L : List (Int × Int × List Int)) : Bool := decide (60 < L.length ∨ ∃ e ∈ L, 60 < e.2.2.length)
end Go.Proofs.YtcnbbanpnoigdaaGreat
namespace Go.Proofs.YtcnbbanpnoigdaaGreat
open Go.RowKit

def fwB (n1 n2 n3 n4 : Nat) : Bool := decide (n1 ≤ 20 ∧ n2 ≤ 60 ∧ n3 ≤ 60 ∧ n4 ≤ 20)
theorem fw_yes {n1 n2 n3 n4 : Nat} (h : fwB n1 n2 n3 n4 = true) : n1 ≤ 20 ∧ n2 ≤ 60 ∧ n3 ≤ 60 ∧ n4 ≤ 20 := of_decide_eq_true h
set_option maxRecDepth 100000 in
set_option maxHeartbeats 4000000 in
theorem rfew_any (pa1 pa2 pa3 pa4 : Option Addr) (n1 n2 n3 n4 c1 c2 c3 c4 : Nat) (w : World) :
  Calls Tryz.prog 21 #[.agg #[.slice pa1 n1 c1, .slice pa2 n2 c2, .slice pa3 n3 c3, .slice pa4 n4 c4]] w fun e' w' => e' = .returned (.bool (fwB n1 n2 n3 n4)) ∧ Below w.heap.size w w' := by
 have HB := Lib.hid (Below.refl w.heap.size w)
 by_cases p1 : n1 ≤ 20
 case neg =>
  have E : Hid (fwB n1 n2 n3 n4 = false) := Lib.hid (decide_eq_false (by omega))
  have q1 : ¬ (n1 : Int) ≤ 20 := by omega
  go_enter Tryz.func21, Tryz.ntmps21
  go_upto_region 1 with fail
  have hbm := below_new1 w (.cells #[.slice pa1 n1 c1, .slice pa2 n2 c2, .slice pa3 n3 c3, .slice pa4 n4 c4] 26)
  have zm : (w.alloc (.cells #[.slice pa1 n1 c1, .slice pa2 n2 c2, .slice pa3 n3 c3, .slice pa4 n4 c4] 26)).heap.size = w.heap.size + 1 := by simp
  have HB := Lib.hid hbm;have km := Lib.hid (Lok.new w 26 #[.slice pa1 n1 c1, .slice pa2 n2 c2, .slice pa3 n3 c3, .slice pa4 n4 c4]);clear hbm;generalize w.alloc (.cells #[.slice pa1 n1 c1, .slice pa2 n2 c2, .slice pa3 n3 c3, .slice pa4 n4 c4] 26) = Vm at *;clear zm;have m0 := km.out.cell (i := 0) rfl;have m1 := km.out.cell (i := 1) rfl;have m2 := km.out.cell (i := 2) rfl;have m3 := km.out.cell (i := 3) rfl
  go_wp2
  go_ret
  exact ⟨by rw [E.out]; rfl, HB.out⟩
 have q1 : (n1 : Int) ≤ 20 := by omega
 by_cases p2 : n2 ≤ 60
 case neg =>
  have E : Hid (fwB n1 n2 n3 n4 = false) := Lib.hid (decide_eq_false (by omega))
  have q2 : ¬ (n2 : Int) ≤ 60 := by omega
  go_enter Tryz.func21, Tryz.ntmps21
  go_upto_region 1 with fail
  have hbm := below_new1 w (.cells #[.slice pa1 n1 c1, .slice pa2 n2 c2, .slice pa3 n3 c3, .slice pa4 n4 c4] 26)
  have zm : (w.alloc (.cells #[.slice pa1 n1 c1, .slice pa2 n2 c2, .slice pa3 n3 c3, .slice pa4 n4 c4] 26)).heap.size = w.heap.size + 1 := by simp
  have HB := Lib.hid hbm;have km := Lib.hid (Lok.new w 26 #[.slice pa1 n1 c1, .slice pa2 n2 c2, .slice pa3 n3 c3, .slice pa4 n4 c4]);clear hbm;generalize w.alloc (.cells #[.slice pa1 n1 c1, .slice pa2 n2 c2, .slice pa3 n3 c3, .slice pa4 n4 c4] 26) = Vm at *;clear zm;have m0 := km.out.cell (i := 0) rfl;have m1 := km.out.cell (i := 1) rfl;have m2 := km.out.cell (i := 2) rfl;have m3 := km.out.cell (i := 3) rfl
  go_wp2
  go_ret
  exact ⟨by rw [E.out]; rfl, HB.out⟩
 have q2 : (n2 : Int) ≤ 60 := by omega
 by_cases p3 : n3 ≤ 60
 case neg =>
  have E : Hid (fwB n1 n2 n3 n4 = false) := Lib.hid (decide_eq_false (by omega))
  have q3 : ¬ (n3 : Int) ≤ 60 := by omega
  go_enter Tryz.func21, Tryz.ntmps21
  go_upto_region 1 with fail
  have hbm := below_new1 w (.cells #[.slice pa1 n1 c1, .slice pa2 n2 c2, .slice pa3 n3 c3, .slice pa4 n4 c4] 26)
  have zm : (w.alloc (.cells #[.slice pa1 n1 c1, .slice pa2 n2 c2, .slice pa3 n3 c3, .slice pa4 n4 c4] 26)).heap.size = w.heap.size + 1 := by simp
  have HB := Lib.hid hbm;have km := Lib.hid (Lok.new w 26 #[.slice pa1 n1 c1, .slice pa2 n2 c2, .slice pa3 n3 c3, .slice pa4 n4 c4]);clear hbm;generalize w.alloc (.cells #[.slice pa1 n1 c1, .slice pa2 n2 c2, .slice pa3 n3 c3, .slice pa4 n4 c4] 26) = Vm at *;clear zm;have m0 := km.out.cell (i := 0) rfl;have m1 := km.out.cell (i := 1) rfl;have m2 := km.out.cell (i := 2) rfl;have m3 := km.out.cell (i := 3) rfl
  go_wp2
  go_ret
  exact ⟨by rw [E.out]; rfl, HB.out⟩
 have q3 : (n3 : Int) ≤ 60 := by omega
 by_cases p4 : n4 ≤ 20
 ·have E : Hid (fwB n1 n2 n3 n4 = true) := Lib.hid (decide_eq_true (by omega))
  have q4 : (n4 : Int) ≤ 20 := by omega
  go_enter Tryz.func21, Tryz.ntmps21
  go_upto_region 1 with fail
  have hbm := below_new1 w (.cells #[.slice pa1 n1 c1, .slice pa2 n2 c2, .slice pa3 n3 c3, .slice pa4 n4 c4] 26)
  have zm : (w.alloc (.cells #[.slice pa1 n1 c1, .slice pa2 n2 c2, .slice pa3 n3 c3, .slice pa4 n4 c4] 26)).heap.size = w.heap.size + 1 := by simp
  have HB := Lib.hid hbm;have km := Lib.hid (Lok.new w 26 #[.slice pa1 n1 c1, .slice pa2 n2 c2, .slice pa3 n3 c3, .slice pa4 n4 c4]);clear hbm;generalize w.alloc (.cells #[.slice pa1 n1 c1, .slice pa2 n2 c2, .slice pa3 n3 c3, .slice pa4 n4 c4] 26) = Vm at *;clear zm;have m0 := km.out.cell (i := 0) rfl;have m1 := km.out.cell (i := 1) rfl;have m2 := km.out.cell (i := 2) rfl;have m3 := km.out.cell (i := 3) rfl
  go_wp2
  go_ret
  have z : decide ((n4 : Int) ≤ 20) = true := decide_eq_true (by omega)
  exact ⟨by first | (rw [E.out]; rfl) | (show Ending.returned (Value.bool (decide ((n4 : Int) ≤ 20))) = _; rw [E.out, z]), HB.out⟩
 ·have E : Hid (fwB n1 n2 n3 n4 = false) := Lib.hid (decide_eq_false (by omega))
  have q4 : ¬ (n4 : Int) ≤ 20 := by omega
  go_enter Tryz.func21, Tryz.ntmps21
  go_upto_region 1 with fail
  have hbm := below_new1 w (.cells #[.slice pa1 n1 c1, .slice pa2 n2 c2, .slice pa3 n3 c3, .slice pa4 n4 c4] 26)
  have zm : (w.alloc (.cells #[.slice pa1 n1 c1, .slice pa2 n2 c2, .slice pa3 n3 c3, .slice pa4 n4 c4] 26)).heap.size = w.heap.size + 1 := by simp
  have HB := Lib.hid hbm;have km := Lib.hid (Lok.new w 26 #[.slice pa1 n1 c1, .slice pa2 n2 c2, .slice pa3 n3 c3, .slice pa4 n4 c4]);clear hbm;generalize w.alloc (.cells #[.slice pa1 n1 c1, .slice pa2 n2 c2, .slice pa3 n3 c3, .slice pa4 n4 c4] 26) = Vm at *;clear zm;have m0 := km.out.cell (i := 0) rfl;have m1 := km.out.cell (i := 1) rfl;have m2 := km.out.cell (i := 2) rfl;have m3 := km.out.cell (i := 3) rfl
  go_wp2
  go_ret
  have z : decide ((n4 : Int) ≤ 20) = false := decide_eq_false (by omega)
  exact ⟨by first | (rw [E.out]; rfl) | (show Ending.returned (Value.bool (decide ((n4 : Int) ≤ 20))) = _; rw [E.out, z]), HB.out⟩
def seB (L M : List (Int × Int × List Int)) : Bool := decide (L = M)
theorem se_no {L M : List (Int × Int × List Int)} {k : Nat} {e f : Int × Int × List Int} (h : L[k]? = some e) (g : M[k]? = some f) (q : ¬ e = f) : seB L M = false := decide_eq_false (fun s => by rw [s, g] at h; exact q (Option.some.inj h).symm)
end Go.Proofs.YtcnbbanpnoigdaaGreat
namespace Go.Proofs.YtcnbbanpnoigdaaGreat
open Go.RowKit

def thL (F : Nat → Nat → Int) (a b : Int) : Nat → List Int
 | 0 => []
 | k + 1 => thL F a b k ++ (if hasB (F k 0) (F k 3) (F k 6) a b then [(k : Int)] else [])
theorem thL_len (F : Nat → Nat → Int) (a b : Int) : ∀ k, (thL F a b k).length ≤ k
 | 0 => Nat.le_refl 0
 | k + 1 => by
  have := thL_len F a b k
  show (thL F a b k ++ (if hasB (F k 0) (F k 3) (F k 6) a b then [(k : Int)] else [])).length ≤ k + 1
  rw [List.length_append]
  split
  ·show _ + 1 ≤ _; omega
  ·show _ + 0 ≤ _; omega
def ebL (F : Nat → Nat → Int) (n a : Nat) : Nat → List (Int × Int × List Int)
 | 0 => []
 | j + 1 => ebL F n a j ++ (if (thL F a ((a + 1 + j : Nat) : Int) n).length = 0 then [] else [((a : Int), ((a + 1 + j : Nat) : Int), thL F a ((a + 1 + j : Nat) : Int) n)])
def eaL (F : Nat → Nat → Int) (n m : Nat) : Nat → List (Int × Int × List Int)
 | 0 => []
 | a + 1 => eaL F n m a ++ ebL F n a (m - (a + 1))
theorem ebL_len (F : Nat → Nat → Int) (n a : Nat) : ∀ j, (ebL F n a j).length ≤ j
 | 0 => Nat.le_refl 0
 | j + 1 => by
  have := ebL_len F n a j
  show (ebL F n a j ++ (if _ then [] else [_])).length ≤ j + 1
  rw [List.length_append]
  split
  ·show _ + 0 ≤ _; omega
  ·show _ + 1 ≤ _; omega
theorem eaL_len (F : Nat → Nat → Int) (n m : Nat) : ∀ a, (eaL F n m a).length ≤ a * m
 | 0 => by show 0 ≤ _; omega
 | a + 1 => by
  have p := eaL_len F n m a;have q := ebL_len F n a (m - (a + 1))
  show (eaL F n m a ++ ebL F n a (m - (a + 1))).length ≤ (a + 1) * m
  rw [List.length_append, Nat.add_mul]
  omega
def egA (t : Bool) (F : Nat → Nat → Int) (n m : Nat) : List (Int × Int × List Int) := if t then eaL F n m m else []
end Go.Proofs.YtcnbbanpnoigdaaGreat
namespace Go.Proofs.YtcnbbanpnoigdaaGreat

theorem nx_mem {F : Nat → Nat → Int} {i : Nat} {x : Int} : ∀ {n : Nat}, x ∈ nxL F i n ↔ ∃ k : Nat, k < n ∧ x = (k : Int) ∧ nxB F i k = true
 | 0 => ⟨(fun h => by cases h), (fun ⟨_, h, _⟩ => absurd h (by omega))⟩
 | n + 1 => by
  show x ∈ nxL F i n ++ (if nxB F i n then [(n : Int)] else []) ↔ _
  rw [List.mem_append, nx_mem (n := n)]
  constructor
  ·rintro (⟨k, a, b, c⟩ | h)
   ·exact ⟨k, by omega, b, c⟩
   ·by_cases e : nxB F i n = true
    ·rw [if_pos e, List.mem_singleton] at h
     exact ⟨n, by omega, h, e⟩
    ·rw [if_neg e] at h
     cases h
  ·rintro ⟨k, a, b, c⟩
   by_cases e : k = n
   ·subst e
    exact .inr (by rw [if_pos c, List.mem_singleton]; exact b)
   ·exact .inl ⟨k, by omega, b, c⟩
theorem nx_rise (F : Nat → Nat → Int) (i : Nat) : ∀ n, (nxL F i n).Pairwise (· < ·)
 | 0 => List.Pairwise.nil
 | n + 1 => by
  show (nxL F i n ++ (if nxB F i n then [(n : Int)] else [])).Pairwise (· < ·)
  rw [List.pairwise_append]
  refine ⟨nx_rise F i n, by split <;> simp, fun x hx y hy => ?_⟩
  obtain ⟨k, a, rfl, _⟩ := nx_mem.1 hx
  split at hy
  ·rw [List.mem_singleton] at hy
   omega
  ·cases hy
theorem rise_at {l : List Int} (h : l.Pairwise (· < ·)) {j k : Nat} (hjk : j < k) (hk : k < l.length) : l.getD j 0 < l.getD k 0 := by
 rw [List.getD_eq_getElem?_getD, List.getD_eq_getElem?_getD, List.getElem?_eq_getElem hk, List.getElem?_eq_getElem (show j < l.length from by omega)]
 exact List.pairwise_iff_getElem.1 h j k (by omega) hk hjk
theorem mem_at {l : List Int} {j : Nat} (h : j < l.length) : l.getD j 0 ∈ l := by
 rw [List.getD_eq_getElem?_getD, List.getElem?_eq_getElem h]
 exact List.getElem_mem h
theorem th_mem {F : Nat → Nat → Int} {a b x : Int} : ∀ {n : Nat}, x ∈ thL F a b n ↔ ∃ k : Nat, k < n ∧ x = (k : Int) ∧ hasB (F k 0) (F k 3) (F k 6) a b = true
 | 0 => ⟨(fun h => by cases h), (fun ⟨_, h, _⟩ => absurd h (by omega))⟩
 | n + 1 => by
  show x ∈ thL F a b n ++ (if hasB (F n 0) (F n 3) (F n 6) a b then [(n : Int)] else []) ↔ _
  rw [List.mem_append, th_mem (n := n)]
  constructor
  ·rintro (⟨k, p, q, c⟩ | h)
   ·exact ⟨k, by omega, q, c⟩
   ·by_cases e : hasB (F n 0) (F n 3) (F n 6) a b = true
    ·rw [if_pos e, List.mem_singleton] at h
     exact ⟨n, by omega, h, e⟩
    ·rw [if_neg e] at h
     cases h
  ·rintro ⟨k, p, q, c⟩
   by_cases e : k = n
   ·subst e
    exact .inr (by rw [if_pos c, List.mem_singleton]; exact q)
   ·exact .inl ⟨k, by omega, q, c⟩
theorem th_in {F : Nat → Nat → Int} {a b : Int} {n i : Nat} (hi : i < n) : (i : Int) ∈ thL F a b n ↔ hasB (F i 0) (F i 3) (F i 6) a b = true := by
 rw [th_mem]
 constructor
 ·rintro ⟨k, _, e, h⟩
  obtain rfl : i = k := by omega
  exact h
 ·exact fun h => ⟨i, hi, rfl, h⟩
theorem th_rise (F : Nat → Nat → Int) (a b : Int) : ∀ n, (thL F a b n).Pairwise (· < ·)
 | 0 => List.Pairwise.nil
 | n + 1 => by
  show (thL F a b n ++ (if hasB (F n 0) (F n 3) (F n 6) a b then [(n : Int)] else [])).Pairwise (· < ·)
  rw [List.pairwise_append]
  refine ⟨th_rise F a b n, by split <;> simp, fun x hx y hy => ?_⟩
  obtain ⟨k, p, rfl, _⟩ := th_mem.1 hx
  split at hy
  ·rw [List.mem_singleton] at hy
   omega
  ·cases hy
theorem eb_mem {F : Nat → Nat → Int} {n a : Nat} {e : Int × Int × List Int} : ∀ {j : Nat}, e ∈ ebL F n a j ↔ ∃ t : Nat, t < j ∧ ¬ (thL F a ((a + 1 + t : Nat) : Int) n).length = 0 ∧ e = ((a : Int), ((a + 1 + t : Nat) : Int), thL F a ((a + 1 + t : Nat) : Int) n)
 | 0 => ⟨(fun h => by cases h), (fun ⟨_, h, _⟩ => absurd h (by omega))⟩
 | j + 1 => by
  show e ∈ ebL F n a j ++ (if (thL F a ((a + 1 + j : Nat) : Int) n).length = 0 then [] else [((a : Int), ((a + 1 + j : Nat) : Int), thL F a ((a + 1 + j : Nat) : Int) n)]) ↔ _
  rw [List.mem_append, eb_mem (j := j)]
  constructor
  ·rintro (⟨t, p, q⟩ | h)
   ·exact ⟨t, by omega, q⟩
   ·by_cases z : (thL F a ((a + 1 + j : Nat) : Int) n).length = 0
    ·rw [if_pos z] at h
     cases h
    ·rw [if_neg z, List.mem_singleton] at h
     exact ⟨j, by omega, z, h⟩
  ·rintro ⟨t, p, q, r⟩
   by_cases z : t = j
   ·subst z
    exact .inr (by rw [if_neg q, List.mem_singleton]; exact r)
   ·exact .inl ⟨t, by omega, q, r⟩
theorem ea_mem {F : Nat → Nat → Int} {n m : Nat} {e : Int × Int × List Int} : ∀ {A : Nat}, e ∈ eaL F n m A ↔ ∃ a : Nat, a < A ∧ e ∈ ebL F n a (m - (a + 1))
 | 0 => ⟨(fun h => by cases h), (fun ⟨_, h, _⟩ => absurd h (by omega))⟩
 | A + 1 => by
  show e ∈ eaL F n m A ++ ebL F n A (m - (A + 1)) ↔ _
  rw [List.mem_append, ea_mem (A := A)]
  constructor
  ·rintro (⟨a, p, q⟩ | h)
   ·exact ⟨a, by omega, q⟩
   ·exact ⟨A, by omega, h⟩
  ·rintro ⟨a, p, q⟩
   by_cases z : a = A
   ·subst z
    exact .inr q
   ·exact .inl ⟨a, by omega, q⟩
theorem ea_iff {F : Nat → Nat → Int} {n m : Nat} {e : Int × Int × List Int} : e ∈ eaL F n m m ↔ ∃ a b : Nat, a < b ∧ b < m ∧ e = ((a : Int), (b : Int), thL F a b n) ∧ ¬ (thL F a b n).length = 0 := by
 rw [ea_mem]
 constructor
 ·rintro ⟨a, p, q⟩
  obtain ⟨t, r, s, u⟩ := eb_mem.1 q
  exact ⟨a, a + 1 + t, by omega, by omega, u, s⟩
 ·rintro ⟨a, b, p, q, r, s⟩
  refine ⟨a, by omega, eb_mem.2 ⟨b - (a + 1), by omega, ?_⟩⟩
  rw [show a + 1 + (b - (a + 1)) = b from by omega]
  exact ⟨s, r⟩
def eLt (x y : Int × Int × List Int) : Prop := x.1 < y.1 ∨ x.1 = y.1 ∧ x.2.1 < y.2.1
theorem eb_rise (F : Nat → Nat → Int) (n a : Nat) : ∀ j, (ebL F n a j).Pairwise eLt
 | 0 => List.Pairwise.nil
 | j + 1 => by
  show (ebL F n a j ++ (if (thL F a ((a + 1 + j : Nat) : Int) n).length = 0 then [] else [((a : Int), ((a + 1 + j : Nat) : Int), thL F a ((a + 1 + j : Nat) : Int) n)])).Pairwise eLt
  rw [List.pairwise_append]
  refine ⟨eb_rise F n a j, by split <;> simp, fun x hx y hy => ?_⟩
  obtain ⟨t, p, _, rfl⟩ := eb_mem.1 hx
  split at hy
  ·cases hy
  ·rw [List.mem_singleton] at hy
   subst hy
   exact .inr ⟨rfl, by show ((a + 1 + t : Nat) : Int) < ((a + 1 + j : Nat) : Int); omega⟩
theorem ea_rise (F : Nat → Nat → Int) (n m : Nat) : ∀ A, (eaL F n m A).Pairwise eLt
 | 0 => List.Pairwise.nil
 | A + 1 => by
  show (eaL F n m A ++ ebL F n A (m - (A + 1))).Pairwise eLt
  rw [List.pairwise_append]
  refine ⟨ea_rise F n m A, eb_rise F n A _, fun x hx y hy => ?_⟩
  obtain ⟨a, p, q⟩ := ea_mem.1 hx;obtain ⟨t, _, _, rfl⟩ := eb_mem.1 q;obtain ⟨s, _, _, rfl⟩ := eb_mem.1 hy
  exact .inl (by show (a : Int) < (A : Int); omega)
theorem ea_share {F : Nat → Nat → Int} {n m i k : Nat} (hi : i < n) (hk : k < n) (hF : ∀ j, j = 0 ∨ j = 3 ∨ j = 6 → 0 ≤ F i j ∧ F i j < (m : Int)) (h : nxB F i k = true) : ∃ e, e ∈ eaL F n m m ∧ (i : Int) ∈ e.2.2 ∧ (k : Int) ∈ e.2.2 := by
 have ne : ¬ i = k := fun x => by rw [x, nxB_same] at h; cases h
 rw [nxB_other ne] at h
 have go : ∀ p q : Int, 0 ≤ p → p < (m : Int) → 0 ≤ q → q < (m : Int) → ¬ p = q → hasB (F i 0) (F i 3) (F i 6) p q = true → hasB (F k 0) (F k 3) (F k 6) p q = true → ∃ e, e ∈ eaL F n m m ∧ (i : Int) ∈ e.2.2 ∧ (k : Int) ∈ e.2.2 := by
  have lt : ∀ p q : Nat, p < q → q < m → hasB (F i 0) (F i 3) (F i 6) p q = true → hasB (F k 0) (F k 3) (F k 6) p q = true → ∃ e, e ∈ eaL F n m m ∧ (i : Int) ∈ e.2.2 ∧ (k : Int) ∈ e.2.2 := by
   intro p q h1 h2 h3 h4
   have a := (th_in hi).2 h3
   exact ⟨_, ea_iff.2 ⟨p, q, h1, h2, rfl, fun z => by rw [List.eq_nil_of_length_eq_zero z] at a; cases a⟩, a, (th_in hk).2 h4⟩
  have sw : ∀ x y z p q : Int, hasB x y z p q = true → hasB x y z q p = true := by
   intro x y z p q h
   rw [hasB_iff, ed3_iff, ed3_iff, ed3_iff] at h ⊢
   omega
  intro p q p0 pm q0 qm nq h3 h4
  obtain ⟨p, rfl⟩ := Int.eq_ofNat_of_zero_le p0;obtain ⟨q, rfl⟩ := Int.eq_ofNat_of_zero_le q0
  rcases Nat.lt_or_ge p q with l | l
  ·exact lt p q l (by omega) h3 h4
  ·exact lt q p (by omega) (by omega) (sw _ _ _ _ _ h3) (sw _ _ _ _ _ h4)
 have f0 := hF 0 (.inl rfl);have f3 := hF 3 (.inr (.inl rfl));have f6 := hF 6 (.inr (.inr rfl));unfold nxE at h;rw [Bool.or_eq_true, Bool.or_eq_true, Bool.and_eq_true, Bool.and_eq_true, Bool.and_eq_true, bne_iff_ne, bne_iff_ne, bne_iff_ne] at h
 rcases h with h | h | h
 ·exact go _ _ f0.1 f0.2 f3.1 f3.2 h.1 (hasB_iff.2 (.inl (ed3_iff.2 ⟨h.1, .inl ⟨rfl, rfl⟩⟩))) h.2
 ·exact go _ _ f3.1 f3.2 f6.1 f6.2 h.1 (hasB_iff.2 (.inr (.inl (ed3_iff.2 ⟨h.1, .inl ⟨rfl, rfl⟩⟩)))) h.2
 ·exact go _ _ f6.1 f6.2 f0.1 f0.2 h.1 (hasB_iff.2 (.inr (.inr (ed3_iff.2 ⟨h.1, .inl ⟨rfl, rfl⟩⟩)))) h.2
end Go.Proofs.YtcnbbanpnoigdaaGreat
namespace Go.Proofs.YtcnbbanpnoigdaaGreat


def suN (f : Nat → Nat) : Nat → Nat
 | 0 => 0
 | a + 1 => suN f a + f a
def prN (P : Nat → Nat → Bool) (m A : Nat) : Nat := suN (fun a => cntB (fun t => P a (a + 1 + t)) (m - (a + 1))) A
def teN (x y z : Int) : Nat := if x = y ∧ y = z then 0 else if ¬ x = y ∧ ¬ y = z ∧ ¬ x = z then 3 else 1
end Go.Proofs.YtcnbbanpnoigdaaGreat
namespace Go.Proofs.YtcnbbanpnoigdaaGreat
open Go.RowKit

def inB (L : List Int) (x : Int) : Bool := decide (x ∈ L)
def sdB (L : List (Int × Int × List Int)) (i k : Int) : Bool := decide (∃ e ∈ L, i ∈ e.2.2 ∧ k ∈ e.2.2)
end Go.Proofs.YtcnbbanpnoigdaaGreat
namespace Go.Proofs.YtcnbbanpnoigdaaGreat
open Go.RowKit

def SmE (W : World) (B b n : Nat) : Prop := ∀ i, i < n → ∃ t m c, W.cell? ⟨b, i * 3 + 2, none⟩ = some (.slice t m c) ∧ m ≤ c ∧ c ≤ 9223372036854775807 ∧ (m = 0 ∨ ∃ g, t = some ⟨g, 0, none⟩ ∧ B ≤ g ∧ ¬ g = b ∧ ∀ j, j < m → (∃ x, W.cell? ⟨g, j, none⟩ = some (.int .i64 x)) ∧ W.frozen? ⟨g, j, none⟩ = false)
end Go.Proofs.YtcnbbanpnoigdaaGreat
namespace Go.Proofs.YtcnbbanpnoigdaaGreat
open Go.RowKit

def sdA (L : List (Int × Int)) (x y : Int) : List (Int × Int) := if ¬ x = y ∧ ¬ (min x y, max x y) ∈ L then L ++ [(min x y, max x y)] else L
def sdL (x y z : Int) : List (Int × Int) := sdA (sdA (sdA [] x y) y z) z x
theorem sdA_yes {L : List (Int × Int)} {x y : Int} (h : ¬ x = y) (k : ¬ (min x y, max x y) ∈ L) : sdA L x y = L ++ [(min x y, max x y)] := by unfold sdA; rw [if_pos ⟨h, k⟩]
theorem sdA_same {L : List (Int × Int)} {x y : Int} (h : x = y) : sdA L x y = L := by unfold sdA; rw [if_neg (fun q => q.1 h)]
theorem sdA_there {L : List (Int × Int)} {x y : Int} (h : (min x y, max x y) ∈ L) : sdA L x y = L := by unfold sdA; rw [if_neg (fun q => q.2 h)]
theorem sdA_len (L : List (Int × Int)) (x y : Int) : (sdA L x y).length ≤ L.length + 1 := by
 unfold sdA
 split
 ·simp
 ·omega
theorem sdL_len (x y z : Int) : (sdL x y z).length ≤ 3 := by
 have h1 := sdA_len [] x y;have h2 := sdA_len (sdA [] x y) y z;have h3 := sdA_len (sdA (sdA [] x y) y z) z x;unfold sdL
 simp only [List.length_nil] at h1
 omega
theorem sdA_nodup {L : List (Int × Int)} (h : L.Nodup) (x y : Int) : (sdA L x y).Nodup := by
 unfold sdA
 split
 ·rename_i q
  exact List.nodup_append.2 ⟨h, by simp, fun a ha b hb e => by
   simp only [List.mem_singleton] at hb
   exact q.2 (by rw [← hb, ← e]; exact ha)⟩
 ·exact h
theorem sdL_nodup (x y z : Int) : (sdL x y z).Nodup := sdA_nodup (sdA_nodup (sdA_nodup List.nodup_nil x y) y z) z x
theorem sdA_mem {L : List (Int × Int)} {x y : Int} {p : Int × Int} : p ∈ sdA L x y ↔ p ∈ L ∨ p.1 < p.2 ∧ ed3 x y p.1 p.2 = true := by
 have e : (p.1 < p.2 ∧ ed3 x y p.1 p.2 = true) ↔ ¬ x = y ∧ p = (min x y, max x y) := by
  obtain ⟨a, b⟩ := p;rw [ed3_iff, Prod.mk.injEq]
  omega
 rw [e];unfold sdA
 split
 ·rename_i q
  rw [List.mem_append, List.mem_singleton]
  exact ⟨fun h => h.imp id (fun h => ⟨q.1, h⟩), fun h => h.imp id (fun h => h.2)⟩
 ·rename_i q
  refine ⟨.inl, fun h => h.elim id (fun h => Classical.byContradiction fun n => q ⟨h.1, ?_⟩)⟩
  rw [← h.2]; exact n
theorem sdL_mem {x y z : Int} {p : Int × Int} : p ∈ sdL x y z ↔ p.1 < p.2 ∧ hasB x y z p.1 p.2 = true := by
 unfold sdL;rw [sdA_mem, sdA_mem, sdA_mem, hasB_iff]
 simp only [List.not_mem_nil, false_or]
 constructor
 ·rintro ((h | h) | h)
  ·exact ⟨h.1, .inl h.2⟩
  ·exact ⟨h.1, .inr (.inl h.2)⟩
  ·exact ⟨h.1, .inr (.inr h.2)⟩
 ·rintro ⟨h, q | q | q⟩
  ·exact .inl (.inl ⟨h, q⟩)
  ·exact .inl (.inr ⟨h, q⟩)
  ·exact .inr ⟨h, q⟩
def pF (L : List (Int × Int)) (i j : Nat) : Int := if j = 0 then (L.getD i (0, 0)).1 else (L.getD i (0, 0)).2
def RowP (W : World) (a : Option Addr) (n : Nat) (L : List (Int × Int)) : Prop := L.length = n ∧ RowK W a n 2 (pF L)
theorem RowP.keep {W W' : World} {a : Option Addr} {n : Nat} {L : List (Int × Int)} (h : RowP W a n L) (hb : Below W.heap.size W W') : RowP W' a n L := ⟨h.1, h.2.keep hb⟩
def OwnP (w : World) (base : Nat) (v : Value) (L : List (Int × Int)) : Prop := w.ownsRow base 121 2 v L.length (valsK L.length 2 (pF L))
theorem OwnP.keep {w w' : World} {base : Nat} {v : Value} {L : List (Int × Int)} (h : OwnP w base v L) (hb : Below w.heap.size w w') : OwnP w' base v L := ownK_keep h hb
theorem OwnP.nil (w : World) (base : Nat) : OwnP w base (.slice none 0 0) [] := World.ownsRow_nil _ _ _ _
theorem rowP_of_own {w : World} {base : Nat} {v : Value} {L : List (Int × Int)} (h : OwnP w base v L) : ∃ a c, v = .slice a L.length c ∧ (a = none → L.length = 0 ∧ c = 0) ∧ L.length ≤ c ∧ c ≤ 9223372036854775807 ∧ RowP w a L.length L := by
 obtain ⟨a, c, e, h1, h2, h3, h4⟩ := rowK_of_own h
 exact ⟨a, c, e, h1, h2, h3, rfl, h4⟩
theorem RowP.at {W : World} {a : Option Addr} {n : Nat} {L : List (Int × Int)} (h : RowP W a n L) {i : Nat} (hi : i < n) : ∃ b off x y, a = some ⟨b, off, none⟩ ∧ b < W.heap.size ∧ L[i]? = some (x, y) ∧ W.cell? ⟨b, off + i * 2, none⟩ = some (.int .i64 x) ∧ W.cell? ⟨b, off + i * 2 + 1, none⟩ = some (.int .i64 y) := by
 obtain ⟨b, off, ha, hb, hc⟩ := h.2.at hi
 have hil : i < L.length := by rw [h.1]; exact hi
 have e : L[i]? = some (L[i].1, L[i].2) := List.getElem?_eq_getElem hil;have z0 := hc i hi 0 (by omega);have z1 := hc i hi 1 (by omega);unfold pF at z0 z1;rw [List.getD_eq_getElem?_getD, e] at z0 z1
 exact ⟨b, off, _, _, ha, hb, e, z0, by rw [Nat.add_assoc]; exact z1⟩
theorem pF_snoc (L : List (Int × Int)) (p : Int × Int) : valsK (L ++ [p]).length 2 (pF (L ++ [p])) = valsK L.length 2 (pF L) ++ [.int .i64 p.1, .int .i64 p.2] := by
 rw [List.length_append, List.length_singleton, valsK_succ]
 congr 1
 ·refine valsK_congr fun i hi j _ => ?_
  unfold pF;rw [List.getD_eq_getElem?_getD, List.getD_eq_getElem?_getD, List.getElem?_append_left hi]
 ·rw [show List.range 2 = [0, 1] from rfl]
  unfold pF;rw [List.getD_eq_getElem?_getD, List.getElem?_append_right (Nat.le_refl _), Nat.sub_self]
  rfl
theorem infoP : (Tryz.prog.info? 121).map (fun i => (i.zero, i.size, i.bytes)) = some (some (.agg #[.int .i64 0, .int .i64 0]), 2, 16) := by kernel_rfl
end Go.Proofs.YtcnbbanpnoigdaaGreat
namespace Go.Proofs.YtcnbbanpnoigdaaGreat

def ownS (F : Nat → Nat → Int) (k : Nat) : Int → Int → List Int := fun a c => if a < c then thL F a c k else []
def sdN (S : Int → Int → List Int) (i : Int) (L : List (Int × Int)) : Nat → Int → Int → List Int
 | 0 => S
 | j + 1 => upS (sdN S i L j) (L.getD j (0, 0)).1 (L.getD j (0, 0)).2 (sdN S i L j (L.getD j (0, 0)).1 (L.getD j (0, 0)).2 ++ [i])
theorem sdN_at {S : Int → Int → List Int} {i : Int} {L : List (Int × Int)} (hd : L.Nodup) : ∀ j, j ≤ L.length → ∀ a c, sdN S i L j a c = if (a, c) ∈ L.take j then S a c ++ [i] else S a c
 | 0, _, a, c => by simp [sdN]
 | j + 1, h, a, c => by
  have hj : j < L.length := h;have ih := sdN_at (S := S) (i := i) hd j (Nat.le_of_lt hj)
  have e : L.getD j (0, 0) = L[j] := by rw [List.getD_eq_getElem?_getD, List.getElem?_eq_getElem hj]; rfl
  have ht : L.take (j + 1) = L.take j ++ [L[j]] := by rw [List.take_add_one, List.getElem?_eq_getElem hj]; rfl
  have hn : ¬ L[j] ∈ L.take j := fun q => by
   have z : (L.take j ++ [L[j]]).Nodup := by rw [← ht]; exact hd.sublist (List.take_sublist _ _)
   exact (List.nodup_append.1 z).2.2 _ q _ (by simp) rfl
  show upS (sdN S i L j) (L.getD j (0, 0)).1 (L.getD j (0, 0)).2 (sdN S i L j (L.getD j (0, 0)).1 (L.getD j (0, 0)).2 ++ [i]) a c = _
  rw [e, ht]
  by_cases q : a = L[j].1 ∧ c = L[j].2
  ·have eq : (a, c) = L[j] := by rw [q.1, q.2]
   have hm : (L[j].1, L[j].2) ∈ L.take j ++ [L[j]] := List.mem_append.2 (.inr (List.mem_singleton.2 rfl));rw [q.1, q.2, upS_same, ih, if_neg hn, if_pos hm]
  ·have ne : ¬ (a, c) = L[j] := fun z => q (by rw [← z]; exact ⟨rfl, rfl⟩)
   rw [upS_other q, ih]
   by_cases m : (a, c) ∈ L.take j
   ·rw [if_pos m, if_pos (List.mem_append.2 (.inl m))]
   ·rw [if_neg m, if_neg (fun z => by
     rcases List.mem_append.1 z with z | z
     ·exact m z
     ·exact ne (List.mem_singleton.1 z))]
theorem sdN_all (F : Nat → Nat → Int) (k : Nat) : sdN (ownS F k) k (sdL (F k 0) (F k 3) (F k 6)) (sdL (F k 0) (F k 3) (F k 6)).length = ownS F (k + 1) := by
 funext a c
 rw [sdN_at (sdL_nodup _ _ _) _ (Nat.le_refl _), List.take_of_length_le (Nat.le_refl _)];unfold ownS
 by_cases m : (a, c) ∈ sdL (F k 0) (F k 3) (F k 6)
 ·have z := sdL_mem.1 m
  rw [if_pos m, if_pos z.1, if_pos z.1]
  show _ = thL F a c k ++ (if hasB (F k 0) (F k 3) (F k 6) a c then [(k : Int)] else [])
  rw [if_pos z.2]
 ·rw [if_neg m]
  by_cases q : a < c
  ·rw [if_pos q, if_pos q]
   show _ = thL F a c k ++ (if hasB (F k 0) (F k 3) (F k 6) a c then [(k : Int)] else [])
   rw [if_neg (fun z => m (sdL_mem.2 ⟨q, z⟩)), List.append_nil]
  ·rw [if_neg q, if_neg q]
theorem sdN_len {F : Nat → Nat → Int} {k j : Nat} {a c : Int} (h : j ≤ (sdL (F k 0) (F k 3) (F k 6)).length) : (sdN (ownS F k) k (sdL (F k 0) (F k 3) (F k 6)) j a c).length ≤ k + 1 := by
 rw [sdN_at (sdL_nodup _ _ _) _ h]
 have z : (ownS F k a c).length ≤ k := by
  unfold ownS
  split
  ·exact thL_len F a c k
  ·simp
 split
 ·rw [List.length_append, List.length_singleton]; omega
 ·omega
theorem sdL_ok {x y z : Int} {p : Int × Int} {m : Int} (h : p ∈ sdL x y z) (hx : 0 ≤ x ∧ x < m) (hy : 0 ≤ y ∧ y < m) (hz : 0 ≤ z ∧ z < m) : (0 ≤ p.1 ∧ p.1 < m) ∧ 0 ≤ p.2 ∧ p.2 < m := by
 have q := (sdL_mem.1 h).2;rw [hasB_iff, ed3_iff, ed3_iff, ed3_iff] at q
 rcases q with q | q | q <;> omega
end Go.Proofs.YtcnbbanpnoigdaaGreat
namespace Go.Proofs.YtcnbbanpnoigdaaGreat

def leI (x y : Int) : Bool := decide (x ≤ y)
theorem ed3_swap (x y a b : Int) : ed3 x y a b = ed3 x y b a := decide_eq_decide.2 ⟨fun h => ⟨h.1, h.2.symm⟩, fun h => ⟨h.1, h.2.symm⟩⟩
theorem hasB_swap (x y z a b : Int) : hasB x y z a b = hasB x y z b a := by unfold hasB; rw [ed3_swap x y, ed3_swap y z, ed3_swap z x]
theorem nxE_edge {x y z u v t : Int} : nxE x y z u v t = true ↔ ∃ a b : Int, a < b ∧ hasB x y z a b = true ∧ hasB u v t a b = true := by
 have one : ∀ p q : Int, (∃ a b : Int, a < b ∧ ed3 p q a b = true ∧ hasB u v t a b = true) ↔ (p ≠ q ∧ hasB u v t p q = true) := fun p q => by
  constructor
  ·rintro ⟨a, b, h1, h2, h3⟩
   rw [ed3_iff] at h2;obtain ⟨n, ⟨rfl, rfl⟩ | ⟨rfl, rfl⟩⟩ := h2
   ·exact ⟨n, h3⟩
   ·exact ⟨n, by rw [hasB_swap]; exact h3⟩
  ·rintro ⟨n, h⟩
   by_cases q' : p < q
   ·exact ⟨p, q, q', ed3_yes n (.inl ⟨rfl, rfl⟩), h⟩
   ·exact ⟨q, p, by omega, ed3_yes n (.inr ⟨rfl, rfl⟩), by rw [hasB_swap]; exact h⟩
 have e : nxE x y z u v t = true ↔ (x ≠ y ∧ hasB u v t x y = true) ∨ (y ≠ z ∧ hasB u v t y z = true) ∨ (z ≠ x ∧ hasB u v t z x = true) := by
  unfold nxE
  simp only [Bool.or_eq_true, Bool.and_eq_true, bne_iff_ne]
 rw [e, ← one, ← one, ← one]
 constructor
 ·rintro (⟨a, b, h1, h2, h3⟩ | ⟨a, b, h1, h2, h3⟩ | ⟨a, b, h1, h2, h3⟩)
  ·exact ⟨a, b, h1, hasB_iff.2 (.inl h2), h3⟩
  ·exact ⟨a, b, h1, hasB_iff.2 (.inr (.inl h2)), h3⟩
  ·exact ⟨a, b, h1, hasB_iff.2 (.inr (.inr h2)), h3⟩
 ·rintro ⟨a, b, h1, h2, h3⟩
  rcases hasB_iff.1 h2 with h2 | h2 | h2
  ·exact .inl ⟨a, b, h1, h2, h3⟩
  ·exact .inr (.inl ⟨a, b, h1, h2, h3⟩)
  ·exact .inr (.inr ⟨a, b, h1, h2, h3⟩)
def ctL (F : Nat → Nat → Int) (n : Nat) (L : List (Int × Int)) : Nat → List Int
 | 0 => []
 | j + 1 => ctL F n L j ++ ownS F n (L.getD j (0, 0)).1 (L.getD j (0, 0)).2
end Go.Proofs.YtcnbbanpnoigdaaGreat
namespace Go.Proofs.YtcnbbanpnoigdaaGreat

abbrev EdL := Int × Int × List Int
def esL (EL : List EdL) (i : Int) : Nat → List Int
 | 0 => []
 | j + 1 => esL EL i j ++ (if isIn (EL.getD j (0, 0, [])).2.2 i then [(j : Int)] else [])
theorem es_mem {EL : List EdL} {i x : Int} : ∀ {j : Nat}, x ∈ esL EL i j ↔ ∃ n : Nat, n < j ∧ x = (n : Int) ∧ i ∈ (EL.getD n (0, 0, [])).2.2
 | 0 => ⟨(fun h => by cases h), (fun ⟨_, h, _⟩ => absurd h (by omega))⟩
 | j + 1 => by
  show x ∈ esL EL i j ++ (if isIn (EL.getD j (0, 0, [])).2.2 i then [(j : Int)] else []) ↔ _
  rw [List.mem_append, es_mem (j := j)]
  constructor
  ·rintro (⟨k, a, b, c⟩ | h)
   ·exact ⟨k, by omega, b, c⟩
   ·by_cases e : isIn (EL.getD j (0, 0, [])).2.2 i = true
    ·rw [if_pos e, List.mem_singleton] at h
     exact ⟨j, by omega, h, isIn_iff.1 e⟩
    ·rw [if_neg e] at h
     cases h
  ·rintro ⟨k, a, b, c⟩
   by_cases e : k = j
   ·subst e
    exact .inr (by rw [if_pos (isIn_iff.2 c), List.mem_singleton]; exact b)
   ·exact .inl ⟨k, by omega, b, c⟩
theorem es_len (EL : List EdL) (i : Int) : ∀ j, (esL EL i j).length ≤ j
 | 0 => Nat.le_refl _
 | j + 1 => by
  show (esL EL i j ++ (if isIn (EL.getD j (0, 0, [])).2.2 i then [(j : Int)] else [])).length ≤ _
  have := es_len EL i j;rw [List.length_append]
  split <;> simp <;> omega
def esA (EL : List EdL) (i : Int) : List Int := esL EL i EL.length
theorem esA_mem {EL : List EdL} {i x : Int} (h : x ∈ esA EL i) : 0 ≤ x ∧ x < (EL.length : Int) := by
 obtain ⟨n, a, rfl, _⟩ := es_mem.1 h
 omega
theorem es_share {F : Nat → Nat → Int} {n m i k : Nat} (hi : i < n) (hk : k < n) (hF : ∀ j, j = 0 ∨ j = 3 ∨ j = 6 → 0 ≤ F i j ∧ F i j < (m : Int)) (ne : ¬ i = k) :
  (∃ x, x ∈ esA (eaL F n m m) (i : Int) ∧ x ∈ esA (eaL F n m m) (k : Int)) ↔ nxB F i k = true := by
 constructor
 ·rintro ⟨x, h1, h2⟩
  obtain ⟨a, a1, rfl, a2⟩ := es_mem.1 h1;obtain ⟨b, b1, b2, b3⟩ := es_mem.1 h2
  obtain rfl : a = b := by omega
  rw [List.getD_eq_getElem?_getD, List.getElem?_eq_getElem a1, Option.getD_some] at a2 b3;obtain ⟨p, q, pq, qm, e, _⟩ := ea_iff.1 (List.getElem_mem a1);rw [e] at a2 b3;rw [nxB_other ne]
  exact nxE_edge.2 ⟨p, q, by omega, (th_in hi).1 a2, (th_in hk).1 b3⟩
 ·intro h
  obtain ⟨e, he, h1, h2⟩ := ea_share hi hk hF h;obtain ⟨a, ha, rfl⟩ := List.mem_iff_getElem.1 he
  have z : (eaL F n m m).getD a (0, 0, []) = (eaL F n m m)[a] := by rw [List.getD_eq_getElem?_getD, List.getElem?_eq_getElem ha]; rfl
  exact ⟨(a : Int), es_mem.2 ⟨a, ha, rfl, by rw [z]; exact h1⟩, es_mem.2 ⟨a, ha, rfl, by rw [z]; exact h2⟩⟩
def rcB (EL : List EdL) (l : List Int) (x : Int) : Bool := l.any fun k => isIn (esA EL k) x
theorem rcB_iff {EL : List EdL} {l : List Int} {x : Int} : rcB EL l x = true ↔ ∃ k ∈ l, x ∈ esA EL k := by
 unfold rcB;rw [List.any_eq_true]
 constructor
 ·rintro ⟨k, h, q⟩; exact ⟨k, h, isIn_iff.1 q⟩
 ·rintro ⟨k, h, q⟩; exact ⟨k, h, isIn_iff.2 q⟩
theorem rcB_snoc (EL : List EdL) (l : List Int) (i x : Int) : rcB EL (l ++ [i]) x = (rcB EL l x || isIn (esA EL i) x) := by
 unfold rcB;rw [List.any_append]
 simp
def hgB (EL : List EdL) (l : List Int) (i : Int) : Bool := (esA EL i).any (rcB EL l)
theorem hg_nx {F : Nat → Nat → Int} {n m i : Nat} (hi : i < n) (hF : ∀ j, j = 0 ∨ j = 3 ∨ j = 6 → 0 ≤ F i j ∧ F i j < (m : Int)) {l : List Int} (hl : ∀ x ∈ l, 0 ≤ x ∧ x < (n : Int)) (hn : ¬ (i : Int) ∈ l) :
  hgB (eaL F n m m) l (i : Int) = l.any fun k => isIn (nxL F i n) k := by
 rw [Bool.eq_iff_iff];unfold hgB;rw [List.any_eq_true, List.any_eq_true]
 constructor
 ·rintro ⟨x, h1, h2⟩
  obtain ⟨k, hk, h3⟩ := rcB_iff.1 h2;obtain ⟨k0, kn⟩ := hl k hk;obtain ⟨k, rfl⟩ := Int.eq_ofNat_of_zero_le k0;have z := (es_share hi (show k < n by omega) hF (fun e => hn (by rw [e]; exact hk))).1 ⟨x, h1, h3⟩
  exact ⟨_, hk, isIn_iff.2 (nx_mem.2 ⟨k, by omega, rfl, z⟩)⟩
 ·rintro ⟨k, hk, h⟩
  obtain ⟨k', kn, rfl, z⟩ := nx_mem.1 (isIn_iff.1 h);obtain ⟨x, h1, h2⟩ := (es_share hi kn hF (fun e => hn (by rw [e]; exact hk))).2 z
  exact ⟨x, h1, rcB_iff.2 ⟨_, hk, h2⟩⟩
end Go.Proofs.YtcnbbanpnoigdaaGreat
namespace Go.Proofs.YtcnbbanpnoigdaaGreat

namespace ChF
variable (F : ChF) (EL : List EdL)
def pfB (T : List Int) (ax sd : Int) (l : List Int) (i : Int) : Bool := F.fb i ax sd && (!isIn T i && ((hgB EL l i || l.isEmpty) && l.all fun k => !F.ov ax i k))
def Hang : Prop := ∀ (l : List Int) (i : Int), F.K i = true → (∀ x ∈ l, F.K x = true) → ¬ i ∈ l → hgB EL l i = l.any fun k => F.nx i k
theorem pf_fits (H : F.Hang EL) {T : List Int} {ax sd : Int} {l : List Int} (hl : ∀ k ∈ l, F.fb k ax sd = true) (hT : ∀ k ∈ l, k ∈ T) (i : Int) : F.pfB EL T ax sd l i = (!isIn T i && F.fits ax sd l i) := by
 unfold pfB fits
 cases hf : F.fb i ax sd with
 | false => rw [Bool.false_and, Bool.false_and, Bool.and_false]
 | true =>
  rw [Bool.true_and, Bool.true_and]
  cases ht : isIn T i with
  | true => rfl
  | false =>
   have hn : ¬ i ∈ l := fun q => isIn_not.1 ht (hT i q);rw [isIn_not.2 hn, H l i (F.fb_iff.1 hf).1 (fun x hx => (F.fb_iff.1 (hl x hx)).1) hn]
   have e : (l.all fun k => F.fb k ax sd && !F.ov ax i k) = l.all fun k => !F.ov ax i k := by
    rw [Bool.eq_iff_iff, List.all_eq_true, List.all_eq_true]
    constructor
    ·intro h k hk
     have z := h k hk;rw [hl k hk, Bool.true_and] at z
     exact z
    ·intro h k hk
     rw [hl k hk, Bool.true_and]
     exact h k hk
   rw [e]
   show (true && _) = (true && (true && _))
   rw [Bool.true_and, Bool.true_and, Bool.true_and]
   cases (l.any fun k => F.nx i k) <;> cases l.isEmpty <;> cases (l.all fun k => !F.ov ax i k) <;> rfl
theorem pf_least (H : F.Hang EL) {P : List Int} {ax sd : Int} {c : List Int} (hl : ∀ k ∈ c, F.fb k ax sd = true) : ((List.range F.n).find? fun i : Nat => F.pfB EL (P ++ c) ax sd c (i : Int)) = F.least ax sd P c := by
 unfold least
 congr 1
 funext i
 rw [F.pf_fits EL H hl (fun k hk => List.mem_append.2 (.inr hk))]
 have e : isIn (P ++ c) (i : Int) = (isIn P i || isIn c i) := by
  rw [Bool.eq_iff_iff, Bool.or_eq_true, isIn_iff, isIn_iff, isIn_iff, List.mem_append]
 rw [e]
 cases isIn P (i : Int) <;> cases isIn c (i : Int) <;> rfl
def Wy (ax sd : Int) (P : List Int) (k : Nat) (c : List Int) : Prop := c = [] ∨ F.Way ax sd P k c
theorem Wy.face {ax sd : Int} {P : List Int} {k : Nat} {c : List Int} (h : F.Wy ax sd P k c) : ∀ x ∈ c, F.fb x ax sd = true := fun x hx => by
 rcases h with rfl | h
 ·cases hx
 ·exact h.1.face x hx
theorem Wy.len {ax sd : Int} {P : List Int} {k : Nat} {c : List Int} (h : F.Wy ax sd P k c) : c.length ≤ F.n := by
 rcases h with rfl | h
 ·exact Nat.zero_le _
 ·exact h.len
theorem least_nil {k : Nat} (hk : k < F.n) {P : List Int} (h : F.K k = true) (q : ¬ (k : Int) ∈ P) (hw : ∀ j : Nat, j < k → F.K j = true → (j : Int) ∈ P) : F.least (F.A k) (F.S k) P [] = some k := by
 refine range_hit ?_ ?_ hk
 ·rw [List.find?_eq_none]
  intro j hj
  have hj := List.mem_range.1 hj
  intro z
  rw [Bool.and_eq_true, Bool.and_eq_true, Bool.not_eq_true', isIn_not] at z
  exact z.1 (hw j hj (F.fb_iff.1 (F.fits_iff.1 z.2.2).1).1)
 ·rw [isIn_not.2 q, isIn_not.2 List.not_mem_nil, F.fits_nil (F.fb_self h)]
  rfl
theorem Wy.more {k : Nat} (hk : k < F.n) {P : List Int} (h : F.K k = true) (q : ¬ (k : Int) ∈ P) (hw : ∀ j : Nat, j < k → F.K j = true → (j : Int) ∈ P) {c : List Int} (hc : F.Wy (F.A k) (F.S k) P k c) {i : Nat} (hi : F.least (F.A k) (F.S k) P c = some i) : F.Wy (F.A k) (F.S k) P k (c ++ [(i : Int)]) := by
 rcases hc with rfl | hc
 ·rw [F.least_nil hk h q hw] at hi
  cases hi
  exact .inr (F.way_one hk h q)
 ·exact .inr (hc.more F hi)
theorem Wy.done {k : Nat} (hk : k < F.n) {P : List Int} (h : F.K k = true) (q : ¬ (k : Int) ∈ P) (hw : ∀ j : Nat, j < k → F.K j = true → (j : Int) ∈ P) {c : List Int} (hc : F.Wy (F.A k) (F.S k) P k c) (hi : F.least (F.A k) (F.S k) P c = none) : c = F.grC (F.A k) (F.S k) P F.n [(k : Int)] := by
 rcases hc with rfl | hc
 ·rw [F.least_nil hk h q hw] at hi
  cases hi
 ·exact hc.done F hi
theorem grow_to {k : Nat} : ∀ i, k ≤ i → (∀ j : Nat, k ≤ j → j < i → F.K j = false ∨ (j : Int) ∈ all (F.grow k)) → F.grow i = F.grow k
 | 0, h, _ => by rw [Nat.le_zero.1 h]
 | i + 1, h, hs => by
  rcases Nat.lt_or_ge i k with q | q
  ·rw [show k = i + 1 by omega]
  ·have ih := grow_to i q fun j a b => hs j a (by omega)
   rw [F.grow_skip (by rw [ih]; exact hs i q (by omega)), ih]
def wtB (T : List Int) (i : Int) : Bool := F.K i && !isIn T i
theorem wt_first {k i : Nat} (hk : ∀ j : Nat, j < k → F.K j = true → (j : Int) ∈ all (F.grow k)) (h : ((List.range F.n).find? fun i : Nat => F.wtB (all (F.grow k)) (i : Int)) = some i) : i < F.n ∧ k ≤ i ∧ F.K i = true ∧ ¬ (i : Int) ∈ all (F.grow k) ∧ F.grow i = F.grow k ∧ ∀ j : Nat, j < i → F.K j = true → (j : Int) ∈ all (F.grow k) := by
 have h1 := List.mem_range.1 (List.mem_of_find?_eq_some h);have h2 := List.find?_some h;unfold wtB at h2;rw [Bool.and_eq_true, Bool.not_eq_true', isIn_not] at h2
 have h3 : ∀ j : Nat, j < i → F.K j = true → (j : Int) ∈ all (F.grow k) := fun j hj hK => by
  obtain ⟨_, l1, l2, e, hno⟩ := List.find?_eq_some_iff_append.1 h
  have hl : i = l1.length := by
   have z : (List.range F.n)[l1.length]? = some i := by rw [e, List.getElem?_append_right (Nat.le_refl _), Nat.sub_self]; rfl
   rw [List.getElem?_range (by have := (List.getElem?_eq_some_iff.1 z).1; simpa using this)] at z
   exact (Option.some.inj z).symm
  have hm : j ∈ l1 := by
   have z : (List.range F.n)[j]? = l1[j]? := by rw [e, List.getElem?_append_left (by omega)]
   rw [List.getElem?_range (by omega)] at z
   exact List.mem_of_getElem? z.symm
  have z := hno j hm;unfold wtB at z;rw [hK, Bool.true_and, Bool.not_not] at z
  exact isIn_iff.1 z
 have h4 : k ≤ i := by
  rcases Nat.lt_or_ge i k with q | q
  ·exact absurd (hk i q h2.1) h2.2
  ·exact q
 refine ⟨h1, h4, h2.1, h2.2, F.grow_to i h4 fun j _ b => ?_, h3⟩
 cases hK : F.K j with
 | false => exact .inl rfl
 | true => exact .inr (h3 j b hK)
theorem wt_none {k : Nat} (hk : k ≤ F.n) (h : ((List.range F.n).find? fun i : Nat => F.wtB (all (F.grow k)) (i : Int)) = none) : F.grow F.n = F.grow k := by
 refine F.grow_to F.n hk fun j _ b => ?_
 have z := List.find?_eq_none.1 h j (List.mem_range.2 b);unfold wtB at z
 cases hK : F.K j with
 | false => exact .inl rfl
 | true =>
  rw [hK, Bool.true_and, Bool.not_eq_true', Bool.not_eq_false] at z
  exact .inr (isIn_iff.1 z)
def folB (T : List Int) (ax sd : Int) (l : List Int) : Bool := !l.isEmpty && (List.range l.length).all fun j => F.pfB EL (T ++ l.take j) ax sd (l.take j) (l.getD j 0)
theorem pf_face {T : List Int} {ax sd : Int} {l : List Int} {i : Int} (h : F.pfB EL T ax sd l i = true) : F.fb i ax sd = true ∧ ¬ i ∈ T := by
 unfold pfB at h;rw [Bool.and_eq_true, Bool.and_eq_true, Bool.not_eq_true', isIn_not] at h
 exact ⟨h.1, h.2.1⟩
theorem take_face {T : List Int} {ax sd : Int} {l : List Int} {m : Nat} (hm : m ≤ l.length) (h : ∀ j, j < m → F.pfB EL (T ++ l.take j) ax sd (l.take j) (l.getD j 0) = true) : ∀ x ∈ l.take m, F.fb x ax sd = true := fun x hx => by
 obtain ⟨j, hj, rfl⟩ := List.mem_take_iff_getElem.1 hx;have z := (F.pf_face EL (h j (by omega))).1
 rwa [List.getD_eq_getElem?_getD, List.getElem?_eq_getElem (by omega), Option.getD_some] at z
theorem fol_good (H : F.Hang EL) {T : List Int} {ax sd : Int} {l : List Int} (h : F.folB EL T ax sd l = true) : F.goodB (ax, sd, l) = true ∧ (∀ x ∈ l, F.K x = true ∧ ¬ x ∈ T) ∧ l.Nodup := by
 unfold folB at h;rw [Bool.and_eq_true, Bool.not_eq_true', List.isEmpty_eq_false_iff, List.all_eq_true] at h;have hp := fun j (hj : j < l.length) => h.2 j (List.mem_range.2 hj);have hf := F.take_face EL (Nat.le_refl _) hp;rw [List.take_of_length_le (Nat.le_refl _)] at hf
 refine ⟨F.goodB_iff.2 ⟨h.1, fun j hj => ?_⟩, fun x hx => ?_, ?_⟩
 ·have hj : j < l.length := hj
  have z := hp j hj;rw [F.pf_fits EL H (F.take_face EL (Nat.le_of_lt hj) fun q hq => hp q (by omega)) (fun k hk => List.mem_append.2 (.inr hk)), Bool.and_eq_true, List.getD_eq_getElem?_getD, List.getElem?_eq_getElem hj, Option.getD_some] at z
  exact z.2
 ·obtain ⟨j, hj, rfl⟩ := List.mem_iff_getElem.1 hx
  have z := F.pf_face EL (hp j hj);rw [List.getD_eq_getElem?_getD, List.getElem?_eq_getElem hj, Option.getD_some, List.mem_append] at z
  exact ⟨(F.fb_iff.1 z.1).1, fun q => z.2 (.inl q)⟩
 ·rw [List.nodup_iff_pairwise_ne, List.pairwise_iff_getElem]
  intro i j hi hj hij e
  have z := (F.pf_face EL (hp j hj)).2;rw [List.getD_eq_getElem?_getD, List.getElem?_eq_getElem hj, Option.getD_some, List.mem_append] at z
  exact z (.inr (by rw [← e]; exact List.mem_take_iff_getElem.2 ⟨i, by omega, rfl⟩))
theorem place_of {n : Nat} {x : Int} (h : 0 ≤ x ∧ x < (n : Int)) : ∃ k : Nat, k < n ∧ x = (k : Int) := ⟨x.toNat, by omega, by omega⟩
theorem right_all (H : F.Hang EL) {L : List ChT} (h : ∀ m c, L[m]? = some c → F.folB EL (all (L.take m)) c.1 c.2.1 c.2.2 = true) (q : ∀ i : Nat, i < F.n → F.K i = true → (i : Int) ∈ all L) : F.rightB L = true := by
 have hn : ∀ m, m ≤ L.length → (all (L.take m)).Nodup := by
  intro m
  induction m with
  | zero => exact fun _ => List.nodup_nil
  | succ m ih =>
   intro hm
   have hc : L[m]? = some L[m] := List.getElem?_eq_getElem hm;rw [all_take hc, List.nodup_append];obtain ⟨_, h2, h3⟩ := F.fol_good EL H (h m _ hc)
   exact ⟨ih (by omega), h3, fun a ha b hb e => (h2 b hb).2 (by rw [← e]; exact ha)⟩
 have hN := hn L.length (Nat.le_refl _);rw [List.take_of_length_le (Nat.le_refl _)] at hN
 refine F.right_yes (fun c hc => ?_) fun i hi => F.onceB_iff.2 fun hK => nodup_once hN (q i hi hK)
 obtain ⟨m, hm⟩ := List.mem_iff_getElem?.1 hc
 exact (F.fol_good EL H (h m c hm)).1
theorem right_wait {L : List ChT} {i : Nat} (hi : i < F.n) (hK : F.K i = true) (h : ¬ (i : Int) ∈ all L) : F.rightB L = false :=
 F.once_no hi (by cases q : F.onceB L i with
  | false => rfl
  | true => have z := F.onceB_iff.1 q hK; rw [List.count_eq_zero.2 h] at z; cases z)
theorem count_two {l m : List Int} {x : Int} (h1 : x ∈ l) (h2 : x ∈ m) : ¬ (l ++ m).count x = 1 := fun e => by
 rw [List.count_append] at e;have := List.count_pos_iff.2 h1;have := List.count_pos_iff.2 h2
 omega
theorem fol_no (H : F.Hang EL) (hpl : ∀ i, F.K i = true → 0 ≤ i ∧ i < (F.n : Int)) {L : List ChT} {m : Nat} {c : ChT} (hc : L[m]? = some c) (h : F.folB EL (all (L.take m)) c.1 c.2.1 c.2.2 = false) : F.rightB L = false := by
 cases q : F.rightB L with
 | false => rfl
 | true =>
  obtain ⟨r1, r2⟩ := F.rightB_iff.1 q;have hm : m < L.length := (List.getElem?_eq_some_iff.1 hc).1;obtain ⟨h0, ch⟩ := r1 c (List.mem_of_getElem? hc)
  have hsplit : all L = all (L.take m) ++ (c.2.2 ++ all (L.drop (m + 1))) := by
   have e : L = L.take m ++ c :: L.drop (m + 1) := by
    have z : L[m] = c := (List.getElem?_eq_some_iff.1 hc).2;have z2 := List.drop_eq_getElem_cons hm;rw [z] at z2;rw [← z2, List.take_append_drop]
   have ap : ∀ A B : List ChT, all (A ++ B) = all A ++ all B := fun A B => by
    induction A with
    | nil => rfl
    | cons a A ih => show a.2.2 ++ all (A ++ B) = (a.2.2 ++ all A) ++ all B; rw [ih, List.append_assoc]
   conv => lhs; rw [e]
   rw [ap]
   rfl
  have yes : F.folB EL (all (L.take m)) c.1 c.2.1 c.2.2 = true := by
   unfold folB;rw [Bool.and_eq_true, Bool.not_eq_true', List.isEmpty_eq_false_iff, List.all_eq_true]
   refine ⟨h0, fun j hj => ?_⟩
   have hj := List.mem_range.1 hj;have z := ch j hj;have face : ∀ k ∈ c.2.2.take j, F.fb k c.1 c.2.1 = true := fun k hk => ((F.fits_iff.1 z).2.2.1 k hk).1;rw [F.pf_fits EL H face (fun k hk => List.mem_append.2 (.inr hk)), List.getD_eq_getElem?_getD, List.getElem?_eq_getElem hj, Option.getD_some, z, Bool.and_true, Bool.not_eq_true', isIn_not, List.mem_append];have hK := (F.fb_iff.1 (F.fits_iff.1 z).1).1;obtain ⟨k, hk, e⟩ := place_of (hpl _ hK);have one := r2 k hk (by rw [← e]; exact hK);rw [← e, hsplit] at one
   rintro (u | u)
   ·exact count_two u (List.mem_append.2 (.inl (List.getElem_mem hj))) one
   ·exact (F.fits_iff.1 z).2.1 u
  rw [yes] at h
  cases h
end ChF
theorem chF_place {t : Bool} {n : Nat} {FV FC : Nat → Nat → Int} {i : Int} (h : (chF t n FV FC).K i = true) : 0 ≤ i ∧ i < (n : Int) := by
 have h : ((t && plB i n) && (fcE true (nmA FV FC i.toNat) (nmB FV FC i.toNat) (nmC FV FC i.toNat) == 0)) = true := h;rw [Bool.and_eq_true, Bool.and_eq_true] at h
 by_cases p0 : 0 ≤ i
 ·have z := h.1.2
  rw [plB_ge p0, decide_eq_true_eq] at z
  exact ⟨p0, z⟩
 ·have z := h.1.2
  rw [plB_no p0] at z
  cases z
theorem chF_hang {n m : Nat} {FV FC : Nat → Nat → Int} (hF : ∀ i, i < n → ∀ j, j = 0 ∨ j = 3 ∨ j = 6 → 0 ≤ FC i j ∧ FC i j < (m : Int)) : (chF true n FV FC).Hang (eaL FC n m m) := fun l i hi hl hn => by
 obtain ⟨k, hk, rfl⟩ := ChF.place_of (chF_place hi);rw [hg_nx hk (hF k hk) (fun x hx => chF_place (hl x hx)) hn]
 show _ = l.any fun x => isIn (nxA (okN true (k : Int) n) FC (k : Int) n) x
 have e : okN true (k : Int) n = true := by unfold okN; rw [Bool.true_and, plB_ge (by omega), decide_eq_true_eq]; omega
 rw [e]
 rfl
end Go.Proofs.YtcnbbanpnoigdaaGreat
