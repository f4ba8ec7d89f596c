/-
  Package scan: Row; a row of texts in memory; an int more at a row of one's own.
-/
import Derived.Test.YtehfmapbodjppaaDoorScD
import Derived.Test.YtehfmapbodjppaaDoorRefC
namespace Go.Proofs.YtehfmapbodjppaaDoor
open Go.RowKit

/-- A row of texts in memory. -/
def RowS (W : World) (a : Option Addr) (n c : Nat) (F : Nat → ByteArray) : Prop :=
  n = 0 ∨ ∃ b off, a = some ⟨b, off, none⟩ ∧ b < W.heap.size ∧ n ≤ c ∧ ∀ i, i < n → W.cell? ⟨b, off + i, none⟩ = some (.string (F i))
theorem RowS.keep {W W' : World} {a : Option Addr} {n c : Nat} {F : Nat → ByteArray} (h : RowS W a n c F) (hb : Below W.heap.size W W') : RowS W' a n c F := by
  rcases h with h | ⟨b, off, ha, hl, hc, h⟩
  · exact .inl h
  · exact .inr ⟨b, off, ha, Nat.lt_of_lt_of_le hl hb.size, hc, fun i hi => keepc hb (h i hi)⟩
theorem RowS.at {W : World} {a : Option Addr} {n c : Nat} {F : Nat → ByteArray} (h : RowS W a n c F) {i : Nat} (hi : i < n) : ∃ b off, a = some ⟨b, off, none⟩ ∧ b < W.heap.size ∧ ∀ i, i < n → W.cell? ⟨b, off + i, none⟩ = some (.string (F i)) := by
  rcases h with h | ⟨b, off, ha, hl, hc, h⟩
  · omega
  · exact ⟨b, off, ha, hl, h⟩

/-- The first error of k texts; what a text tells. -/
def erS (F : Nat → ByteArray) : Nat → Int
  | 0 => 0
  | k + 1 => if erS F k ≠ 0 then erS F k else (parseS (F k).data.toList).2
def stS (F : Nat → ByteArray) (i : Nat) : Int := (parseS (F i).data.toList).1
theorem erS_stop (F : Nat → ByteArray) {k : Nat} (h : erS F k ≠ 0) : ∀ m, erS F (k + m) = erS F k := by
  intro m
  induction m with
  | zero => rfl
  | succ m ih =>
    show (if erS F (k + m) ≠ 0 then erS F (k + m) else _) = _
    rw [ih, if_pos h]
/-- A row of the call's own, or none and why. -/
def RetRowE (F : Nat → ByteArray) (n : Nat) (w : World) (e : Ending) (w' : World) : Prop :=
  Below w.heap.size w w' ∧ ((erS F n ≠ 0 ∧ e = .returned (.tuple #[.slice none 0 0, .int .i64 (erS F n)])) ∨ (erS F n = 0 ∧ ∃ a c, e = .returned (.tuple #[.slice a n c, .int .i64 0]) ∧ RowF w' a n c (stS F) ∧ c ≤ 9223372036854775807))

theorem app_int {W : World} {ops : Array Oper} {rest : List Oper} {o : Oper} {a : Act} {Q : Exit → Act → World → Prop} (hgd : o.guard = none) (s x : Operand)
    (ho : o.op = .call { callee := .builtin .append, args := #[s, x], argTypes := #[27, 27] })
    (base : Nat) (v : Value) (k : Nat) (L : List Value) (z : Int) (hs : a.eval s = v) (hown : W.ownsRow base 3 1 v k L) (hx : a.eval x = .slice (some ⟨W.heap.size, 0, none⟩) 1 1) (hk : k ≤ 1000000) (hbase : base ≤ W.heap.size)
    (h : ∀ v' w', w'.ownsRow base 3 1 v' (k + 1) (L ++ [.int .i64 z]) → Below base W w' → wpList Tryd.prog ops Q rest (a.put o.dst v') w') : wpList Tryd.prog ops Q (o :: rest) a (W.alloc (.cells #[.int .i64 z] 3)) := by
  obtain ⟨i0, hi, hz0, hz1, hz2⟩ := info_parts infoI
  refine wpList_append_own _ hgd s x 27 ho base 3 i0 (.int .i64 0) 1 8 Tryd.underlying27 hi hz0 hz1 hz2 rfl (by decide) v k L hs (hown.alloc _) ⟨W.heap.size, 0, none⟩ 1 1 [.int .i64 z] hx rfl ?_ ?_ ?_ ?_ ?_ ?_
  · intro j u hj
    match j, hj with
    | 0, hj => simp at hj; subst hj; simp [Addr.add]
  · intro u hu; simp at hu; subst hu; rfl
  · unfold maxLen; omega
  · omega
  · simp; omega
  · intro v' w1 hown' hgrow _
    exact h v' w1 hown' (((Below.refl base W).alloc hbase _).grown hgrow (by simp; omega) (fun g hg => (hown.lt g hg).1))

set_option maxRecDepth 100000 in
set_option maxHeartbeats 4000000 in
theorem row_any (a : Option Addr) (n c : Nat) (F : Nat → ByteArray) (w : World) (hr : RowS w a n c F) (hn : n ≤ 1000) :
    Calls Tryd.prog 11 #[.slice a n c] w (RetRowE F n w) := by
  have R := Lib.hid hr
  clear hr
  obtain ⟨i0, hi, hz0, hz1, hz2⟩ := info_parts infoI
  obtain ⟨w1, hmk, hown, hgr⟩ := run_make_own (P := Tryd.prog) w w.heap.size 27 3 i0 (.int .i64 0) 1 Tryd.underlying27 hi hz0 hz1 .i64 .i64 n (by rw [hz2]; omega) (by unfold maxLen; omega) (Nat.le_refl _)
  have HB := Lib.hid ((Below.refl w.heap.size w).grown hgr (Nat.le_refl _) (fun g hg => by cases hg))
  clear hgr
  go_enter Tryd.func11, Tryd.ntmps11
  go_wp2_with fail
  clear hmk
  obtain ⟨v1, hv1⟩ : ∃ v, Value.slice (some ⟨w.heap.size, 0, none⟩) 0 n = v := ⟨_, rfl⟩
  rw [hv1] at hown ⊢
  go_loopw [4, 14] (fun v x wr => ∃ k : Nat, x = .int .i64 k ∧ k ≤ n ∧ erS F k = 0 ∧ wr.ownsRow w.heap.size 3 1 v k (upto (stS F) k) ∧ Below w.heap.size w wr) (fun _ x _ => n - (intOf x).toNat)
  case atStart => exact ⟨0, rfl, Nat.zero_le _, rfl, hown, HB.out⟩
  case round =>
    obtain ⟨k, rfl, hk, hE, hO, hB⟩ := hrel
    replace HB := Lib.hid hB
    have HO := Lib.hid hO
    have HE := Lib.hid hE
    clear hB hO hE hown
    by_cases hlt : k < n
    · obtain ⟨b, off, rfl, hl, hc⟩ := (R.out.keep HB.out).at hlt
      have c1 := hc k hlt
      have i0' : (0 : Int) ≤ (k : Int) := by omega
      have i1 : (k : Int) < n := by omega
      have C := Lib.hid (fun W => parse_any (F k) W)
      have U := Lib.hid (upto_succ (stS F) k)
      have hst : stS F k = (parseS (F k).data.toList).1 := rfl
      unfold retP at C
      rw [← hst] at C
      have E1 : Hid (erS F (k + 1) = (parseS (F k).data.toList).2) := Lib.hid (by show (if erS F k ≠ 0 then _ else _) = _; rw [if_neg (fun q => q HE.out)])
      obtain ⟨z, hz⟩ : ∃ z, stS F k = z := ⟨_, rfl⟩
      obtain ⟨e, he⟩ : ∃ e, (parseS (F k).data.toList).2 = e := ⟨_, rfl⟩
      rw [he] at C E1
      rw [hz] at C U
      clear hst hz he hc
      by_cases h0 : e = 0
      · subst h0
        go_wp2_with fail
        (with_reducible refine (C.out _).mono ?_); rintro e' w2 ⟨rfl, hb⟩
        replace HO := Lib.hid (own_keep HO.out hb)
        replace HB := Lib.hid (HB.out.trans (hb.mono HB.out.size))
        clear hb c1
        have hkk : k ≤ 1000000 := by omega
        have hbs := HB.out.size
        have hO := HO.out
        go_wp2_with (at_builtin; refine app_int rfl _ _ rfl w.heap.size u4 k _ z rfl hO rfl hkk hbs ?_)
        intro v' w3 hO3 hB3
        rw [← U.out] at hO3
        replace HB := Lib.hid (HB.out.trans hB3)
        clear hB3 HO
        go_wp2
        go_roundw
        case rel => exact ⟨k + 1, by go_num, hlt, E1.out, hO3, HB.out⟩
        case measure => simp [intOf]; omega
      · have q0 : (e != 0) = true := by simp [h0]
        have EN : Hid (erS F n = e) := Lib.hid (by
          have := erS_stop F (k := k + 1) (by rw [E1.out]; exact h0) (n - (k + 1))
          rw [show k + 1 + (n - (k + 1)) = n from by omega, E1.out] at this; exact this)
        go_wp2_with fail
        (((with_reducible refine (C.out _).mono ?_); rintro e w1 ⟨rfl, hb1⟩); replace HB := Lib.hid (HB.out.trans (hb1.mono HB.out.size)); clear hb1)
        go_wp2_with fail
        go_ret2
        exact ⟨HB.out, .inl ⟨by rw [EN.out]; exact h0, by rw [EN.out]; rfl⟩⟩
    · obtain rfl : k = n := by omega
      obtain ⟨a', c', rfl, hr', hc', -⟩ := row_of_own HO.out
      replace hr' := Lib.hid hr'
      clear HO
      go_wp2
      go_ret2
      exact ⟨HB.out, .inr ⟨HE.out, a', c', rfl, hr'.out, hc'⟩⟩
end Go.Proofs.YtehfmapbodjppaaDoor
