/-
  The reference's Less.
-/
import Derived.Test.YtbcbocnblkepcaaRefHo
import Derived.Test.YtbcbocnblkepcaaRefOa
import Derived.Test.YtbcbocnblkepcaaRel
namespace Go.Proofs.Ytbcbocnblkepcaa
open Go.RowKit

set_option maxRecDepth 100000 in
set_option maxHeartbeats 1000000 in
theorem less_any {w : World} {va vb : Value} {A B : Int} (ha : NumV w va A) (hb : NumV w vb B) (sa : Small A) (sb : Small B) :
    Calls Try.prog 35 #[va, vb] w fun e w' => e = .returned (.bool (decide (A < B))) ∧ Below w.heap.size w w' := by
  have HA := Lib.hid ha
  have HB := Lib.hid hb
  have sb' : Small (-B) := by unfold Small at sb ⊢; rw [Int.natAbs_neg]; exact sb
  have HLT : Hid (decide (A + -B < 0) = decide (A < B)) := Lib.hid (decide_eq_decide.2 (by omega))
  obtain ⟨s, a, n, c, rfl⟩ := num_open ha
  obtain ⟨t, b, m, d, rfl⟩ := num_open hb
  clear ha hb
  go_enter Try.func35, Try.ntmps35
  have B0 : Below w.heap.size w ((w.alloc (.cells #[.bool s, .slice a n c] 53)).alloc (.cells #[.bool t, .slice b m d] 53)) := by (repeat (first | exact Below.refl _ _ | assumption | refine Below.drew ?_ | refine below_drewN ?_ _ | refine Below.setCell ?_ (by first | omega | (simp; done) | (simp; omega)) _ | refine Below.alloc ?_ (by first | omega | (simp; done) | (simp; omega)) _))
  have x0 : ((w.alloc (.cells #[.bool s, .slice a n c] 53)).alloc (.cells #[.bool t, .slice b m d] 53)).cell? ⟨w.heap.size, 0, none⟩ = some (.bool s) := keepa (alloc_cell rfl rfl)
  have x1 : ((w.alloc (.cells #[.bool s, .slice a n c] 53)).alloc (.cells #[.bool t, .slice b m d] 53)).cell? ⟨w.heap.size, 1, none⟩ = some (.slice a n c) := keepa (alloc_cell rfl rfl)
  have y0 : ((w.alloc (.cells #[.bool s, .slice a n c] 53)).alloc (.cells #[.bool t, .slice b m d] 53)).cell? ⟨w.heap.size + 1, 0, none⟩ = some (.bool t) := alloc_cell (by simp) rfl
  have y1 : ((w.alloc (.cells #[.bool s, .slice a n c] 53)).alloc (.cells #[.bool t, .slice b m d] 53)).cell? ⟨w.heap.size + 1, 1, none⟩ = some (.slice b m d) := alloc_cell (by simp) rfl
  go_upto_region 1 with fail
  generalize ((w.alloc (.cells #[.bool s, .slice a n c] 53)).alloc (.cells #[.bool t, .slice b m d] 53)) = V at *
  have HVA := Lib.hid (HA.out.keep B0)
  have HVB := Lib.hid (HB.out.keep B0)
  refine wp_region_rel (by kernel_rfl) [5, 6, 7, 8, 9] ?F ?hF
    (fun L u W => Below V.heap.size V W ∧ (L 0 = true → u 6 = .agg #[.bool s, .slice a n c]) ∧ (L 1 = true → u 7 = .agg #[.bool t, .slice b m d]) ∧ (L 2 = true → L 3 = false → NumV W (u 8) (-B)) ∧ (L 3 = true → NumV W (u 9) (A + -B))
      ∧ (L 4 = true → ∃ g x p q r, u 5 = .pointer (some ⟨g, 0, none⟩) ∧ V.heap.size ≤ g ∧ Lok W g 53 #[.bool x, .slice p q r] ∧ (L 5 = true → L 3 = true ∧ u 9 = .agg #[.bool x, .slice p q r])) ∧ (L 5 = true → L 4 = true)) (by kernel_rfl) (by kernel_rfl) 6 rfl ?h0 ?step ?fin
  case hF => intro u; simp only [putAll, Act.put, List.setIfInBounds_toArray, List.set]; exact rfl
  case h0 => intro L u hL; exact ⟨(Below.refl _ _).drew, fun h => by simp [hL] at h, fun h => by simp [hL] at h, fun h => by simp [hL] at h, fun h => by simp [hL] at h, fun h => by simp [hL] at h, fun h => by simp [hL] at h⟩
  case fin =>
    rintro L u W hL ⟨hB, -, -, -, h3, h4, -⟩
    have z := h3 (hL 3 (by decide))
    obtain ⟨g, x, p, q, r, e5, hg, hlok, e9⟩ := h4 (hL 4 (by decide))
    have e9' := (e9 (hL 5 (by decide))).2
    rw [e9'] at z
    obtain ⟨a9, n9, c9, D9, e, -⟩ := z
    cases e
    have k0 := hlok.cell (i := 0) rfl
    simp only [e5]
    clear h3 h4 e9 hL
    go_wp2
    go_ret
    exact ⟨by rw [← HLT.out]; rfl, B0.trans (hB.mono B0.size)⟩
  case step =>
    refine ops_all (ops_cons ?s0 (ops_cons ?s1 (ops_cons ?s2 (ops_cons ?s3 (ops_cons ?s4 (ops_cons ?s5 ops_nil))))))
    case s0 =>
      rintro L u W ⟨hB, h0, h1, h2, h3, h4, h5⟩ hf hd K hK
      dsimp only at hK
      have c0 := keepc hB x0
      have c1 := keepc hB x1
      go_simp
      refine hK _ _ ?_ (fun h => by cases h)
      intro s hs
      cases hs
      exact ⟨hB, fun _ => rfl, h1, h2, h3, h4, h5⟩
    case s1 =>
      rintro L u W ⟨hB, h0, h1, h2, h3, h4, h5⟩ hf hd K hK
      dsimp only at hK
      have c0 := keepc hB y0
      have c1 := keepc hB y1
      go_simp
      refine hK _ _ ?_ (fun h => by cases h)
      intro s hs
      cases hs
      exact ⟨hB, h0, fun _ => rfl, h2, h3, h4, h5⟩
    case s2 =>
      rintro L u W ⟨hB, h0, h1, h2, h3, h4, h5⟩ hf hd K hK
      dsimp only at hK
      simp [Region.binds] at hd
      have e1 := h1 hd
      rw [e1] at hK
      go_simp
      go_wp2_with (go_at_call 46; refine (other_any (HVB.out.keep hB)).mono ?_; rintro e w5 ⟨hb, v5, rfl, q5⟩)
      refine hK _ _ ?_ (fun h => by cases h)
      intro s hs
      cases hs
      exact ⟨hB.trans (hb.mono hB.size), h0, h1, fun _ _ => q5, fun h => (h3 h).keep hb, fun h => by obtain ⟨g, x, p, q, r, k1, k2, k3, k4⟩ := h4 h; exact ⟨g, x, p, q, r, k1, k2, k3.keep hb, k4⟩, h5⟩
    case s3 =>
      rintro L u W ⟨hB, h0, h1, h2, h3, h4, h5⟩ hf hd K hK
      dsimp only at hK
      simp [Region.binds] at hd
      have e0 := h0 hd.1
      have q2 := h2 hd.2 hf
      rw [e0] at hK
      go_simp
      go_wp2_with (go_at_call 45; refine (sum_any (HVA.out.keep hB) q2 sa sb').mono ?_; rintro e w5 ⟨hb, v5, rfl, q5⟩)
      refine hK _ _ ?_ (fun h => by cases h)
      intro s hs
      cases hs
      exact ⟨hB.trans (hb.mono hB.size), h0, h1, (fun _ h => by cases h), fun _ => q5, fun h => by obtain ⟨g, x, p, q, r, k1, k2, k3, k4⟩ := h4 h; exact ⟨g, x, p, q, r, k1, k2, k3.keep hb, fun h => absurd (k4 h).1 (by rw [hf]; decide)⟩, h5⟩
    case s4 =>
      rintro L u W ⟨hB, h0, h1, h2, h3, h4, h5⟩ hf hd K hK
      dsimp only at hK
      go_simp
      have hb : Below W.heap.size W (W.alloc (.cells #[.bool false, .slice none 0 0] 53)) := (Below.refl _ W).alloc (Nat.le_refl _) _
      refine hK _ _ ?_ (fun h => by cases h)
      intro s hs
      cases hs
      exact ⟨hB.trans (hb.mono hB.size), h0, h1, fun h k => (h2 h k).keep hb, fun h => (h3 h).keep hb, fun _ => ⟨_, _, _, _, _, rfl, hB.size, Lok.new _ _ _, fun h => absurd (h5 h) (by rw [hf]; decide)⟩, fun _ => rfl⟩
    case s5 =>
      rintro L u W ⟨hB, h0, h1, h2, h3, h4, h5⟩ hf hd K hK
      dsimp only at hK
      simp [Region.binds] at hd
      obtain ⟨g, x, p, q, r, e5, k2, k3, k4⟩ := h4 hd.1
      have z := h3 hd.2.1
      obtain ⟨a9, n9, c9, D9, e9, -⟩ := z
      have z := h3 hd.2.1
      rw [e5, e9] at hK
      rw [e9] at z
      have c0 := k3.cell (i := 0) rfl
      have c1 := k3.cell (i := 1) rfl
      have f0 := k3.frozen 0
      have f1 := k3.frozen 1
      have HD := Lib.hid hd
      clear hd
      go_simp
      have hlok := (k3.set (i := 0) (v := .bool (decide (A + -B < 0)))).set (i := 1) (v := .slice a9 n9 c9)
      have hni : ∀ W' cs, Lok W' g 53 cs → (∀ (i : Nat) v, cs[i]? = some (.int .i64 v) → False) → NoInt W' g := fun W' cs hl hc k v e => by
        unfold Lok at hl; simp [World.cell?, hl] at e; exact hc k v e
      have z1 := (z.setN (g := g) (hni _ _ k3 (fun i v e => by rcases i with _ | _ | i <;> simp at e)) 0 (.bool (decide (A + -B < 0)))).setN (g := g) (hni _ _ k3.set (fun i v e => by rcases i with _ | _ | i <;> simp at e)) 1 (.slice a9 n9 c9)
      refine hK undef _ (fun s h => by cases h) (fun _ => ?_)
      exact ⟨(hB.setCell k2 _).setCell k2 _, h0, h1, (fun _ h => absurd HD.out.2.1 (by rw [show L 3 = false from h]; decide)), fun _ => z1, fun _ => ⟨g, _, _, _, _, rfl, k2, hlok, fun _ => ⟨HD.out.2.1, rfl⟩⟩, fun _ => HD.out.1⟩
end Go.Proofs.Ytbcbocnblkepcaa
