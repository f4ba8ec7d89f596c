/-
  Plain facts on sorted fractions: the least one is the first, each is there as often, sorted again they stay; two rows that are the same.
-/
import Derived.Test.YtbcbocnblkepcaaSoG
namespace Go.Proofs.Ytbcbocnblkepcaa
open Go.RowKit

theorem ls_min (F : Nat → Nat → Int) : ∀ k j, j < k → j ≠ lsF F k → Rl (cmpK F) (lsF F k) j := by
  intro k
  induction k with
  | zero => intro j hj; omega
  | succ k ih =>
    intro j hj hn
    by_cases s : cmpK F k (lsF F k) < 0
    · rw [lsF_take F s] at hn ⊢
      by_cases e : j = lsF F k
      · rw [e]; exact .inl s
      · exact (tot_cmpK F).rl_trans (.inl s) (ih j (by omega) e)
    · rw [lsF_keep F s] at hn ⊢
      by_cases e : j = k
      · subst e
        have := lsF_le F j
        exact (tot_cmpK F).later (by omega) s
      · exact ih j (by omega) hn
theorem Pm.onto {n : Nat} {D : Nat → Nat} (p : Pm 0 n id D) {x : Nat} (hx : x < n) : ∃ t, t < n ∧ D t = x := by
  obtain ⟨f, g, h1, h2, h3, h4⟩ := p
  refine ⟨g x, ?_, by rw [h1]; exact h2 x⟩
  rcases Nat.lt_or_ge (g x) n with z | z
  · exact z
  · have := h4 (g x) (.inr z); rw [h2] at this; omega
theorem Pm.inj {n : Nat} {D : Nat → Nat} (p : Pm 0 n id D) {s t : Nat} (e : D s = D t) : s = t := by
  obtain ⟨f, g, h1, h2, h3, h4⟩ := p
  rw [h1, h1] at e
  have := congrArg g (show f s = f t from e)
  rw [h3, h3] at this
  exact this
theorem first_least (F : Nat → Nat → Int) {n : Nat} {D : Nat → Nat} (p : Pm 0 n id D) (s : Srt (cmpK F) D 0 n) (hn : 0 < n) : D 0 = lsF F n := by
  obtain ⟨u, u1, u2⟩ := p.onto (lsF_lt F hn)
  rcases Nat.eq_zero_or_pos u with z | z
  · rw [← u2, z]
  · have a := s 0 u (Nat.le_refl _) z u1
    rw [u2] at a
    have d0 : D 0 < n := by obtain ⟨v, _, v2, e⟩ := p.at (Nat.le_refl 0) hn; rw [e]; exact v2
    have ne : D 0 ≠ lsF F n := fun e => by rw [← u2] at e; have := p.inj e; omega
    exact ((tot_cmpK F).rl_asymm a (ls_min F n (D 0) d0 ne)).elim
/-- How many of the first n. -/
def cntN (P : Nat → Bool) (n : Nat) : Nat := (List.range n).countP P
theorem cntN_zero (P : Nat → Bool) : cntN P 0 = 0 := rfl
theorem cntN_yes {P : Nat → Bool} {n : Nat} (h : P n = true) : cntN P (n + 1) = cntN P n + 1 := by
  unfold cntN; rw [List.range_succ, List.countP_append]; simp [h]
theorem cntN_no {P : Nat → Bool} {n : Nat} (h : P n = false) : cntN P (n + 1) = cntN P n := by
  unfold cntN; rw [List.range_succ, List.countP_append]; simp [h]
theorem cntN_le (P : Nat → Bool) (n : Nat) : cntN P n ≤ n := by
  unfold cntN
  have := List.countP_le_length (p := P) (l := List.range n)
  simpa using this
theorem cntN_pm {n : Nat} {D : Nat → Nat} (p : Pm 0 n id D) (P : Nat → Bool) : cntN (fun t => P (D t)) n = cntN P n := by
  have hp : ((List.range n).map D).Perm (List.range n) := by
    refine (List.perm_ext_iff_of_nodup ?_ List.nodup_range).2 fun a => ?_
    · unfold List.Nodup
      rw [List.pairwise_map]
      exact List.nodup_range.imp (fun ne e => ne (p.inj e))
    · rw [List.mem_map, List.mem_range]
      constructor
      · rintro ⟨t, ht, rfl⟩
        obtain ⟨v, _, v2, e⟩ := p.at (Nat.zero_le t) (List.mem_range.1 ht)
        rw [e]; exact v2
      · intro ha
        obtain ⟨t, ht, e⟩ := p.onto ha
        exact ⟨t, List.mem_range.2 ht, e⟩
  have := hp.countP_eq P
  rw [List.countP_map] at this
  exact this
theorem sort_again (F : Nat → Nat → Int) {n : Nat} {D E : Nat → Nat} (s : Srt (cmpK F) D 0 n) (q : Pm 0 n id E) (r : Srt (cmpK fun k j => F (D k) j) E 0 n) : ∀ t, t < n → E t = t := by
  refine sorted_unique (c := cmpK fun k j => F (D k) j) (tot_cmpK _) q (Pm.refl _ _ _) r (fun x y h1 h2 h3 => ?_)
  have z := s x y h1 h2 h3
  unfold Rl at z ⊢
  show cmpK F (D x) (D y) < 0 ∨ (cmpK F (D x) (D y) = 0 ∧ x < y)
  omega

set_option maxRecDepth 100000 in
set_option maxHeartbeats 1000000 in
theorem fsame_any (a b : Option Addr) (n c d : Nat) (F : Nat → Nat → Int) (w : World) (ra : RowK w a n 2 F) (rb : RowK w b n 2 F) (hn : n ≤ 60) :
    Calls Try.prog 16 #[.slice a n c, .slice b n d] w fun e w' => e = .returned (.bool true) ∧ Below w.heap.size w w' := by
  have RA := Lib.hid ra
  have RB := Lib.hid rb
  clear ra rb
  go_enter Try.func16, Try.ntmps16
  go_wp2_with fail
  go_loopw [5] (fun x wr => ∃ k : Nat, x = .int .i64 k ∧ k ≤ n ∧ Below w.heap.size w wr) (fun x _ => n - (intOf x).toNat)
  case atStart => exact ⟨0, rfl, by omega, by (repeat (first | exact Below.refl _ _ | assumption | refine Below.drew ?_ | refine below_drewN ?_ _ | refine Below.setCell ?_ (by first | omega | (simp; done) | (simp; omega)) _ | refine Below.alloc ?_ (by first | omega | (simp; done) | (simp; omega)) _))⟩
  case round =>
    obtain ⟨k, rfl, hk, hB⟩ := hrel
    by_cases hlt : k < n
    · obtain ⟨b1, o1, rfl, _, c1⟩ := (RA.out.keep hB).at hlt
      obtain ⟨b2, o2, rfl, _, c2⟩ := (RB.out.keep hB).at hlt
      have x0 := c1 k hlt 0 (by omega)
      have x1 := c1 k hlt 1 (by omega)
      have y0 := c2 k hlt 0 (by omega)
      have y1 := c2 k hlt 1 (by omega)
      rw [Nat.add_zero] at x0 y0
      rw [← Nat.add_assoc] at x1 y1
      clear c1 c2
      generalize F k 0 = p at *
      generalize F k 1 = q at *
      have HB := Lib.hid hB
      clear hB
      go_wp2_with fail
      go_quiet (fail)
      go_wp2
      go_roundw
      case rel => exact ⟨k + 1, by go_num, hlt, by first | exact HB.out | exact HB.out.drew | exact below_drewN HB.out _⟩
      case measure => simp [intOf]; omega
    · go_wp2
      go_ret
      exact ⟨rfl, hB⟩
end Go.Proofs.Ytbcbocnblkepcaa
