/-
  The reference's Same: two rows that read alike; a number's digits are told by it.
-/
import Derived.Test.YtehfmapbodjppaaDoorRefB
namespace Go.Proofs.YtehfmapbodjppaaDoor
open Go.RowKit

theorem vs_pos {D : Nat → Int} (n : Nat) : ∀ i, (∀ t, i ≤ t → t < i + (n + 1) → 0 ≤ D t ∧ D t ≤ 9) → D (i + n) ≠ 0 → 0 < vs D i (n + 1) := by
  induction n with
  | zero => intro i h k; have := h i (Nat.le_refl _) (by omega); rw [Nat.add_zero] at k; show 0 < D i + 10 * 0; omega
  | succ n ih =>
    intro i h k
    have := h i (Nat.le_refl _) (by omega)
    have q := ih (i + 1) (fun t h1 h2 => h t (by omega) (by omega)) (by rwa [show i + 1 + n = i + (n + 1) from by omega])
    show 0 < D i + 10 * vs D (i + 1) (n + 1)
    omega
theorem vs_unique {D E : Nat → Int} (n : Nat) : ∀ m i, (∀ t, i ≤ t → t < i + n → 0 ≤ D t ∧ D t ≤ 9) → (∀ t, i ≤ t → t < i + m → 0 ≤ E t ∧ E t ≤ 9) → (n = 0 ∨ D (i + n - 1) ≠ 0) → (m = 0 ∨ E (i + m - 1) ≠ 0) → vs D i n = vs E i m →
    n = m ∧ ∀ t, i ≤ t → t < i + n → D t = E t := by
  induction n with
  | zero =>
    intro m i _ he _ te h
    match m with
    | 0 => exact ⟨rfl, fun t h1 h2 => absurd h2 (by omega)⟩
    | m + 1 =>
      have := vs_pos (D := E) m i he (by rcases te with q | q; omega; rwa [show i + (m + 1) - 1 = i + m from by omega] at q)
      have z : vs D i 0 = 0 := rfl
      omega
  | succ n ih =>
    intro m i hd he td te h
    match m with
    | 0 =>
      have := vs_pos (D := D) n i hd (by rcases td with q | q; omega; rwa [show i + (n + 1) - 1 = i + n from by omega] at q)
      have z : vs E i 0 = 0 := rfl
      omega
    | m + 1 =>
      have h' : D i + 10 * vs D (i + 1) n = E i + 10 * vs E (i + 1) m := h
      have d := hd i (Nat.le_refl _) (by omega)
      have e := he i (Nat.le_refl _) (by omega)
      obtain ⟨h1, h2⟩ := ih m (i + 1) (fun t h1 h2 => hd t (by omega) (by omega)) (fun t h1 h2 => he t (by omega) (by omega))
        (by rcases td with q | q; omega; by_cases z : n = 0; exact .inl z; exact .inr (by rwa [show i + 1 + n - 1 = i + (n + 1) - 1 from by omega]))
        (by rcases te with q | q; omega; by_cases z : m = 0; exact .inl z; exact .inr (by rwa [show i + 1 + m - 1 = i + (m + 1) - 1 from by omega])) (by omega)
      refine ⟨by omega, fun t g1 g2 => ?_⟩
      rcases Nat.lt_or_ge i t with q | q
      · exact h2 t (by omega) (by omega)
      · obtain rfl : t = i := by omega
        omega

set_option maxRecDepth 100000 in
set_option maxHeartbeats 1000000 in
theorem same_yes (a b : Option Addr) (n c d : Nat) (D E : Nat → Int) (w : World) (ra : RowF w a n c D) (rb : RowF w b n d E) (h : ∀ i, i < n → D i = E i) (hn : n ≤ 9223372036854775807) :
    Calls Tryd.prog 18 #[.slice a n c, .slice b n d] w fun e w' => e = .returned (.bool true) ∧ Below w.heap.size w w' := by
  have RA := Lib.hid ra
  have RB := Lib.hid rb
  have H := Lib.hid h
  clear ra rb h
  go_enter Tryd.func18, Tryd.ntmps18
  go_wp2_with fail
  go_loopw [5] (fun x wr => ∃ k : Nat, x = .int .i64 k ∧ k ≤ n ∧ Below w.heap.size w wr) (fun x _ => n - (intOf x).toNat)
  case atStart => exact ⟨0, rfl, by omega, by (repeat (first | exact Below.refl _ _ | assumption | refine Below.drew ?_ | refine below_drewN ?_ _ | refine Below.setCell ?_ (by first | omega | (simp; done) | (simp; omega)) _ | refine Below.alloc ?_ (by first | omega | (simp; done) | (simp; omega)) _))⟩
  case round =>
    obtain ⟨k, rfl, hk, hB⟩ := hrel
    by_cases hlt : k < n
    · obtain ⟨b1, o1, rfl, _, ha⟩ := (RA.out.keep hB).at hlt
      obtain ⟨b2, o2, rfl, _, hb⟩ := (RB.out.keep hB).at hlt
      have c1 := ha k hlt
      have c2 := hb k hlt
      rw [← H.out k hlt] at c2
      clear ha hb
      generalize D k = x at *
      go_wp2_with fail
      go_quiet (fail)
      go_wp2
      go_roundw
      case rel => exact ⟨k + 1, by go_num, hlt, by (repeat (first | exact Below.refl _ _ | assumption | refine Below.drew ?_ | refine below_drewN ?_ _ | refine Below.setCell ?_ (by first | omega | (simp; done) | (simp; omega)) _ | refine Below.alloc ?_ (by first | omega | (simp; done) | (simp; omega)) _))⟩
      case measure => simp [intOf]; omega
    · go_wp2
      go_ret
      exact ⟨rfl, hB⟩
theorem num_same {W : World} {s t : Bool} {a b : Option Addr} {n m c d : Nat} {N : Int} (h : NumV W (.agg #[.bool s, .slice a n c]) N) (k : NumV W (.agg #[.bool t, .slice b m d]) N) :
    s = t ∧ n = m ∧ c ≤ 9223372036854775807 ∧ n ≤ c ∧ ∃ D E, RowF W a n c D ∧ RowF W b m d E ∧ ∀ i, i < n → D i = E i := by
  obtain ⟨a', n', c', D, e, ra, hc, da, ta, va⟩ := h
  obtain ⟨b', m', d', E, f, rb, hd, db, tb, vb⟩ := k
  cases e
  cases f
  obtain ⟨h1, h2⟩ := vs_unique n m 0 (fun t _ h => da t (by omega)) (fun t _ h => db t (by omega)) (by rwa [Nat.zero_add]) (by rwa [Nat.zero_add]) (by rw [va, vb])
  exact ⟨rfl, h1, hc, ra.le, D, E, ra, rb, fun i hi => h2 i (Nat.zero_le _) (by omega)⟩
end Go.Proofs.YtehfmapbodjppaaDoor
