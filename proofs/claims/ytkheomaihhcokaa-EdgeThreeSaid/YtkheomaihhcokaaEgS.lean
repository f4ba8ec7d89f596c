/-
  The document's rows of edges: edged (limewashlaw14). (gen/EgS.py)
-/
import Derived.Test.YtkheomaihhcokaaEgZ
import Derived.OwnWalk
namespace Go.Proofs.Ytkheomaihhcokaa
open Go.RowKit

/-- The mesh that the document tells: its value, its block, empty and filled. -/
def MeU (W : World) (u : Value) : Prop := ∃ g h, u = .agg #[.slice (some ⟨g, 0, none⟩) 7 7, .slice none 0 0, .slice none 0 0, .slice (some ⟨h, 0, none⟩) 3 3] ∧ Lok W g 87 #[.int .i64 0, .int .i64 0, .int .i64 0, .int .i64 0, .int .i64 0, .int .i64 0, .int .i64 0, .int .i64 0, .int .i64 0, .int .i64 0, .int .i64 0, .int .i64 0, .int .i64 0, .int .i64 0, .int .i64 0, .int .i64 0, .int .i64 0, .int .i64 0, .int .i64 0, .int .i64 0, .int .i64 0] ∧ Lok W h 51 #[.int .i64 0, .int .i64 (-1), .int .i64 (-1), .int .i64 1, .int .i64 (-1), .int .i64 (-1), .int .i64 2, .int .i64 (-1), .int .i64 (-1), .int .i64 2, .int .i64 (-1), .int .i64 (-1), .int .i64 1, .int .i64 (-1), .int .i64 (-1), .int .i64 3, .int .i64 (-1), .int .i64 (-1), .int .i64 4, .int .i64 (-1), .int .i64 (-1), .int .i64 5, .int .i64 (-1), .int .i64 (-1), .int .i64 6, .int .i64 (-1), .int .i64 (-1)]
theorem MeU.keep {W W' : World} {u : Value} (h : MeU W u) (hb : Below W.heap.size W W') : MeU W' u := by
  obtain ⟨g, h', e, k, l⟩ := h; exact ⟨g, h', e, k.keep hb, l.keep hb⟩
def MeZ (B : Nat) (W : World) (u : Value) : Prop := ∃ b, u = .pointer (some ⟨b, 0, none⟩) ∧ Lok W b 26 #[.slice none 0 0, .slice none 0 0, .slice none 0 0, .slice none 0 0] ∧ B ≤ b
theorem MeZ.keep {B : Nat} {W W' : World} {u : Value} (h : MeZ B W u) (hb : Below W.heap.size W W') : MeZ B W' u := by
  obtain ⟨b, e, k, l⟩ := h; exact ⟨b, e, k.keep hb, l⟩
def MeK (W : World) (u : Value) : Prop := ∃ b g h, u = .pointer (some ⟨b, 0, none⟩) ∧ Lok W b 26 #[.slice (some ⟨g, 0, none⟩) 7 7, .slice none 0 0, .slice none 0 0, .slice (some ⟨h, 0, none⟩) 3 3] ∧ Lok W g 87 #[.int .i64 0, .int .i64 0, .int .i64 0, .int .i64 0, .int .i64 0, .int .i64 0, .int .i64 0, .int .i64 0, .int .i64 0, .int .i64 0, .int .i64 0, .int .i64 0, .int .i64 0, .int .i64 0, .int .i64 0, .int .i64 0, .int .i64 0, .int .i64 0, .int .i64 0, .int .i64 0, .int .i64 0] ∧ Lok W h 51 #[.int .i64 0, .int .i64 (-1), .int .i64 (-1), .int .i64 1, .int .i64 (-1), .int .i64 (-1), .int .i64 2, .int .i64 (-1), .int .i64 (-1), .int .i64 2, .int .i64 (-1), .int .i64 (-1), .int .i64 1, .int .i64 (-1), .int .i64 (-1), .int .i64 3, .int .i64 (-1), .int .i64 (-1), .int .i64 4, .int .i64 (-1), .int .i64 (-1), .int .i64 5, .int .i64 (-1), .int .i64 (-1), .int .i64 6, .int .i64 (-1), .int .i64 (-1)]
theorem MeK.keep {W W' : World} {u : Value} (h : MeK W u) (hb : Below W.heap.size W W') : MeK W' u := by
  obtain ⟨b, g, h', e, k, l, m⟩ := h; exact ⟨b, g, h', e, k.keep hb, l.keep hb, m.keep hb⟩
theorem lok_apart {W : World} {b g : Nat} {s t : TypeId} {cs ds : Array Value} (h : Lok W b s cs) (k : Lok W g t ds) (ne : ¬ s = t) : ¬ b = g := fun e => by
  subst e
  unfold Lok at h k
  rw [h] at k
  exact ne (by injection k with k; injection k)
/-- What the document tells of that mesh. -/
def mdV : Nat → Nat → Int := fun _ _ => 0
def mdC : Nat → Nat → Int := fun i j => ([0, -1, -1, 1, -1, -1, 2, -1, -1, 2, -1, -1, 1, -1, -1, 3, -1, -1, 4, -1, -1, 5, -1, -1, 6, -1, -1] : List Int).getD (i * 9 + j) 0
def mdL : List (Int × Int × List Int) := [(0, 1, [0]), (0, 2, [0]), (1, 2, [0, 1]), (1, 3, [1]), (2, 3, [1]), (4, 5, [2]), (4, 6, [2]), (5, 6, [2])]
theorem md_ok : msB 7 0 0 3 mdV mdV mdV mdC = true := by decide +kernel
theorem md_edges : eaL mdC 3 7 7 = mdL := by decide +kernel
theorem md_next : nxA (okN true 0 3) mdC 0 3 = [1] := by decide +kernel
theorem md_none : okN true 3 3 = false := by decide +kernel
theorem md_parts : ptA true mdC 3 = [0, 0, 2] := by decide +kernel
theorem md_find : mdL.find? (fdB 2 1) = some (1, 2, [0, 1]) := by decide +kernel
theorem md_loose : (lsL mdL).length = 7 := by decide +kernel
theorem md_rows {W : World} {g h : Nat} (k : Lok W g 87 #[.int .i64 0, .int .i64 0, .int .i64 0, .int .i64 0, .int .i64 0, .int .i64 0, .int .i64 0, .int .i64 0, .int .i64 0, .int .i64 0, .int .i64 0, .int .i64 0, .int .i64 0, .int .i64 0, .int .i64 0, .int .i64 0, .int .i64 0, .int .i64 0, .int .i64 0, .int .i64 0, .int .i64 0]) (l : Lok W h 51 #[.int .i64 0, .int .i64 (-1), .int .i64 (-1), .int .i64 1, .int .i64 (-1), .int .i64 (-1), .int .i64 2, .int .i64 (-1), .int .i64 (-1), .int .i64 2, .int .i64 (-1), .int .i64 (-1), .int .i64 1, .int .i64 (-1), .int .i64 (-1), .int .i64 3, .int .i64 (-1), .int .i64 (-1), .int .i64 4, .int .i64 (-1), .int .i64 (-1), .int .i64 5, .int .i64 (-1), .int .i64 (-1), .int .i64 6, .int .i64 (-1), .int .i64 (-1)]) : MsW W (some ⟨g, 0, none⟩) none none (some ⟨h, 0, none⟩) 7 0 0 3 mdV mdV mdV mdC := by
  refine ⟨⟨.inr ⟨g, 0, rfl, k.lt, fun i hi j hj => ?_⟩, .inl rfl, .inl rfl, .inr ⟨h, 0, rfl, l.lt, fun i hi j hj => ?_⟩⟩, by omega, by omega, by omega, by omega⟩
  · rw [Nat.zero_add]
    refine k.cell (i := i * 3 + j) ?_
    rcases (show i = 0 ∨ i = 1 ∨ i = 2 ∨ i = 3 ∨ i = 4 ∨ i = 5 ∨ i = 6 by omega) with rfl | rfl | rfl | rfl | rfl | rfl | rfl <;> rcases (show j = 0 ∨ j = 1 ∨ j = 2 by omega) with rfl | rfl | rfl <;> rfl
  · rw [Nat.zero_add]
    refine l.cell (i := i * 9 + j) ?_
    rcases (show i = 0 ∨ i = 1 ∨ i = 2 by omega) with rfl | rfl | rfl <;> rcases (show j = 0 ∨ j = 1 ∨ j = 2 ∨ j = 3 ∨ j = 4 ∨ j = 5 ∨ j = 6 ∨ j = 7 ∨ j = 8 by omega) with rfl | rfl | rfl | rfl | rfl | rfl | rfl | rfl | rfl <;> rfl
theorem rowI_of_lok {W : World} {g : Nat} {T : TypeId} {l : List Int} (h : Lok W g T (l.map (Value.int .i64)).toArray) : RowI W (some ⟨g, 0, none⟩) l.length l :=
  ⟨rfl, .inr ⟨g, 0, rfl, h.lt, fun i hi j hj => by
    obtain rfl : j = 0 := by omega
    rw [Nat.mul_one, Nat.add_zero, Nat.zero_add]
    refine h.cell ?_
    show _ = some (Value.int .i64 (l.getD i 0))
    rw [List.getElem?_toArray, List.getElem?_map, List.getD_eq_getElem?_getD, List.getElem?_eq_getElem hi]
    rfl⟩⟩
set_option maxRecDepth 100000 in
set_option maxHeartbeats 16000000 in
theorem edged_any (E : EdgeOK) (w : World) : Calls Try.prog 24 #[] w fun e w' => e = .returned (.bool true) ∧ Below w.heap.size w w' := by
  have HB := Lib.hid (Below.refl w.heap.size w)
  have hmk : ∀ w, (Instr.makeSlice 22 (.int .i64 7) (.int .i64 7)).run Try.prog w = .ok (.slice (some ⟨w.heap.size, 0, none⟩) 7 7) (w.alloc (.cells #[.int .i64 0, .int .i64 0, .int .i64 0, .int .i64 0, .int .i64 0, .int .i64 0, .int .i64 0, .int .i64 0, .int .i64 0, .int .i64 0, .int .i64 0, .int .i64 0, .int .i64 0, .int .i64 0, .int .i64 0, .int .i64 0, .int .i64 0, .int .i64 0, .int .i64 0, .int .i64 0, .int .i64 0] 87)) := fun _ => by kernel_rfl
  go_enter Try.func24, Try.ntmps24
  go_upto_region 1 with fail
  refine wp_region_rel (by kernel_rfl) [12, 13, 14, 15, 16, 17, 1] ?Fr1 ?hFr1
    (fun L u W => Below w.heap.size w W ∧ (L 0 = true → L 5 = false → RowAt W (u 12) 7 87 #[.int .i64 0, .int .i64 0, .int .i64 0, .int .i64 0, .int .i64 0, .int .i64 0, .int .i64 0, .int .i64 0, .int .i64 0, .int .i64 0, .int .i64 0, .int .i64 0, .int .i64 0, .int .i64 0, .int .i64 0, .int .i64 0, .int .i64 0, .int .i64 0, .int .i64 0, .int .i64 0, .int .i64 0]) ∧ (L 1 = true → u 13 = .agg #[.int .i64 0, .int .i64 (-1), .int .i64 (-1), .int .i64 1, .int .i64 (-1), .int .i64 (-1), .int .i64 2, .int .i64 (-1), .int .i64 (-1)]) ∧ (L 2 = true → u 14 = .agg #[.int .i64 2, .int .i64 (-1), .int .i64 (-1), .int .i64 1, .int .i64 (-1), .int .i64 (-1), .int .i64 3, .int .i64 (-1), .int .i64 (-1)]) ∧ (L 3 = true → u 15 = .agg #[.int .i64 4, .int .i64 (-1), .int .i64 (-1), .int .i64 5, .int .i64 (-1), .int .i64 (-1), .int .i64 6, .int .i64 (-1), .int .i64 (-1)]) ∧ (L 4 = true → L 5 = false → RowAt W (u 16) 3 51 #[.int .i64 0, .int .i64 (-1), .int .i64 (-1), .int .i64 1, .int .i64 (-1), .int .i64 (-1), .int .i64 2, .int .i64 (-1), .int .i64 (-1), .int .i64 2, .int .i64 (-1), .int .i64 (-1), .int .i64 1, .int .i64 (-1), .int .i64 (-1), .int .i64 3, .int .i64 (-1), .int .i64 (-1), .int .i64 4, .int .i64 (-1), .int .i64 (-1), .int .i64 5, .int .i64 (-1), .int .i64 (-1), .int .i64 6, .int .i64 (-1), .int .i64 (-1)]) ∧ (L 5 = true → L 7 = false → MeU W (u 17)) ∧ (L 6 = true → L 7 = false → MeZ w.heap.size W (u 1)) ∧ (L 7 = true → MeK W (u 1)) ∧ (L 7 = true → L 6 = true)) (by kernel_rfl) (by kernel_rfl) 8 rfl ?h0r1 ?stepr1 ?finr1
  case hFr1 => intro u; simp only [putAll, Act.put, List.setIfInBounds_toArray, List.set]; exact rfl
  case h0r1 => intro L u hL; exact ⟨(Below.refl _ _).drew, (fun h => by simp [hL] at h), (fun h => by simp [hL] at h), (fun h => by simp [hL] at h), (fun h => by simp [hL] at h), (fun h => by simp [hL] at h), (fun h => by simp [hL] at h), (fun h => by simp [hL] at h), (fun h => by simp [hL] at h), (fun h => by simp [hL] at h)⟩
  case stepr1 =>
    refine ops_all (ops_cons ?s0r1 (ops_cons ?s1r1 (ops_cons ?s2r1 (ops_cons ?s3r1 (ops_cons ?s4r1 (ops_cons ?s5r1 (ops_cons ?s6r1 (ops_cons ?s7r1 (ops_nil)))))))))
    case s0r1 =>
      rintro L u W ⟨hB, c0, c1, c2, c3, c4, c5, c6, c7, dk7⟩ hf hd K hK
      dsimp only at hK
      clear hd
      go_simp
      have hb : Below W.heap.size W (W.alloc (.cells #[.int .i64 0, .int .i64 0, .int .i64 0, .int .i64 0, .int .i64 0, .int .i64 0, .int .i64 0, .int .i64 0, .int .i64 0, .int .i64 0, .int .i64 0, .int .i64 0, .int .i64 0, .int .i64 0, .int .i64 0, .int .i64 0, .int .i64 0, .int .i64 0, .int .i64 0, .int .i64 0, .int .i64 0] 87)) := (Below.refl _ W).alloc (Nat.le_refl _) _
      refine hK _ _ ?_ (fun h => by cases h)
      intro s hs
      cases hs
      exact ⟨hB.trans (hb.mono hB.size), (fun _ _ => ⟨_, rfl, Lok.new _ _ _⟩), c1, c2, c3, (fun h k => (c4 h k).keep hb), (fun h k => (c5 h k).keep hb), (fun h k => (c6 h k).keep hb), (fun h => (c7 h).keep hb), dk7⟩
    case s1r1 =>
      rintro L u W ⟨hB, c0, c1, c2, c3, c4, c5, c6, c7, dk7⟩ hf hd K hK
      dsimp only at hK
      clear hd
      go_simp
      go_wp2_with (go_at_call 28; ((with_reducible refine (lthree_any 0 1 2 _).mono ?_); rintro e w5 ⟨rfl, hb⟩))
      refine hK _ _ ?_ (fun h => by cases h)
      intro s hs
      cases hs
      exact ⟨hB.trans (hb.mono hB.size), (fun h k => (c0 h k).keep hb), (fun _ => rfl), c2, c3, (fun h k => (c4 h k).keep hb), (fun h k => (c5 h k).keep hb), (fun h k => (c6 h k).keep hb), (fun h => (c7 h).keep hb), dk7⟩
    case s2r1 =>
      rintro L u W ⟨hB, c0, c1, c2, c3, c4, c5, c6, c7, dk7⟩ hf hd K hK
      dsimp only at hK
      clear hd
      go_simp
      go_wp2_with (go_at_call 28; ((with_reducible refine (lthree_any 2 1 3 _).mono ?_); rintro e w5 ⟨rfl, hb⟩))
      refine hK _ _ ?_ (fun h => by cases h)
      intro s hs
      cases hs
      exact ⟨hB.trans (hb.mono hB.size), (fun h k => (c0 h k).keep hb), c1, (fun _ => rfl), c3, (fun h k => (c4 h k).keep hb), (fun h k => (c5 h k).keep hb), (fun h k => (c6 h k).keep hb), (fun h => (c7 h).keep hb), dk7⟩
    case s3r1 =>
      rintro L u W ⟨hB, c0, c1, c2, c3, c4, c5, c6, c7, dk7⟩ hf hd K hK
      dsimp only at hK
      clear hd
      go_simp
      go_wp2_with (go_at_call 28; ((with_reducible refine (lthree_any 4 5 6 _).mono ?_); rintro e w5 ⟨rfl, hb⟩))
      refine hK _ _ ?_ (fun h => by cases h)
      intro s hs
      cases hs
      exact ⟨hB.trans (hb.mono hB.size), (fun h k => (c0 h k).keep hb), c1, c2, (fun _ => rfl), (fun h k => (c4 h k).keep hb), (fun h k => (c5 h k).keep hb), (fun h k => (c6 h k).keep hb), (fun h => (c7 h).keep hb), dk7⟩
    case s4r1 =>
      rintro L u W ⟨hB, c0, c1, c2, c3, c4, c5, c6, c7, dk7⟩ hf hd K hK
      dsimp only at hK
      have hd1 : L 1 = true := (by first | (refine hd ⟨1, .data⟩ ?_ rfl; simp; done) | (refine hd ⟨1, .guard⟩ ?_ rfl; simp; done) | (refine hd ⟨1, .phase⟩ ?_ rfl; simp; done) | (refine hd ⟨1, .chain⟩ ?_ rfl; simp; done))
      have hd2 : L 2 = true := (by first | (refine hd ⟨2, .data⟩ ?_ rfl; simp; done) | (refine hd ⟨2, .guard⟩ ?_ rfl; simp; done) | (refine hd ⟨2, .phase⟩ ?_ rfl; simp; done) | (refine hd ⟨2, .chain⟩ ?_ rfl; simp; done))
      have hd3 : L 3 = true := (by first | (refine hd ⟨3, .data⟩ ?_ rfl; simp; done) | (refine hd ⟨3, .guard⟩ ?_ rfl; simp; done) | (refine hd ⟨3, .phase⟩ ?_ rfl; simp; done) | (refine hd ⟨3, .chain⟩ ?_ rfl; simp; done))
      have e1 := c1 hd1
      rw [e1] at hK
      have e2 := c2 hd2
      rw [e2] at hK
      have e3 := c3 hd3
      rw [e3] at hK
      clear hd1
      clear hd2
      clear hd3
      clear hd
      go_simp
      have hb : Below W.heap.size W (W.alloc (.cells #[.int .i64 0, .int .i64 (-1), .int .i64 (-1), .int .i64 1, .int .i64 (-1), .int .i64 (-1), .int .i64 2, .int .i64 (-1), .int .i64 (-1), .int .i64 2, .int .i64 (-1), .int .i64 (-1), .int .i64 1, .int .i64 (-1), .int .i64 (-1), .int .i64 3, .int .i64 (-1), .int .i64 (-1), .int .i64 4, .int .i64 (-1), .int .i64 (-1), .int .i64 5, .int .i64 (-1), .int .i64 (-1), .int .i64 6, .int .i64 (-1), .int .i64 (-1)] 51)) := (Below.refl _ W).alloc (Nat.le_refl _) _
      refine hK _ _ ?_ (fun h => by cases h)
      intro s hs
      cases hs
      exact ⟨hB.trans (hb.mono hB.size), (fun h k => (c0 h k).keep hb), c1, c2, c3, (fun _ _ => ⟨_, rfl, Lok.new _ _ _⟩), (fun h k => (c5 h k).keep hb), (fun h k => (c6 h k).keep hb), (fun h => (c7 h).keep hb), dk7⟩
    case s5r1 =>
      rintro L u W ⟨hB, c0, c1, c2, c3, c4, c5, c6, c7, dk7⟩ hf hd K hK
      dsimp only at hK
      have hd0 : L 0 = true := (by first | (refine hd ⟨0, .data⟩ ?_ rfl; simp; done) | (refine hd ⟨0, .guard⟩ ?_ rfl; simp; done) | (refine hd ⟨0, .phase⟩ ?_ rfl; simp; done) | (refine hd ⟨0, .chain⟩ ?_ rfl; simp; done))
      have hd4 : L 4 = true := (by first | (refine hd ⟨4, .data⟩ ?_ rfl; simp; done) | (refine hd ⟨4, .guard⟩ ?_ rfl; simp; done) | (refine hd ⟨4, .phase⟩ ?_ rfl; simp; done) | (refine hd ⟨4, .chain⟩ ?_ rfl; simp; done))
      have e0 := c0 hd0 (by first | exact hf | assumption)
      have e4 := c4 hd4 (by first | exact hf | assumption)
      obtain ⟨g, ev0, k0⟩ := e0
      obtain ⟨h, ev4, k4⟩ := e4
      rw [ev0, ev4] at hK
      have q : MeU W (.agg #[.slice (some ⟨g, 0, none⟩) 7 7, .slice none 0 0, .slice none 0 0, .slice (some ⟨h, 0, none⟩) 3 3]) := ⟨g, h, rfl, k0, k4⟩
      clear hd0
      clear hd4
      clear hd
      go_simp
      refine hK _ _ ?_ (fun h => by cases h)
      intro s hs
      cases hs
      exact ⟨hB, (fun _ h => by cases h), c1, c2, c3, (fun _ h => by cases h), (fun _ _ => q), c6, c7, dk7⟩
    case s6r1 =>
      rintro L u W ⟨hB, c0, c1, c2, c3, c4, c5, c6, c7, dk7⟩ hf hd K hK
      dsimp only at hK
      clear hd
      go_simp
      have hb : Below W.heap.size W (W.alloc (.cells #[.slice none 0 0, .slice none 0 0, .slice none 0 0, .slice none 0 0] 26)) := (Below.refl _ W).alloc (Nat.le_refl _) _
      have q : MeZ w.heap.size (W.alloc (.cells #[.slice none 0 0, .slice none 0 0, .slice none 0 0, .slice none 0 0] 26)) (.pointer (some ⟨W.heap.size, 0, none⟩)) := ⟨_, rfl, Lok.new _ _ _, hB.size⟩
      refine hK _ _ ?_ (fun h => by cases h)
      intro s hs
      cases hs
      exact ⟨hB.trans (hb.mono hB.size), (fun h k => (c0 h k).keep hb), c1, c2, c3, (fun h k => (c4 h k).keep hb), (fun h k => (c5 h k).keep hb), (fun _ _ => q), (fun h => by have z := dk7 h; rw [hf] at z; cases z), (fun _ => rfl)⟩
    case s7r1 =>
      rintro L u W ⟨hB, c0, c1, c2, c3, c4, c5, c6, c7, dk7⟩ hf hd K hK
      dsimp only at hK
      have hd5 : L 5 = true := (by first | (refine hd ⟨5, .data⟩ ?_ rfl; simp; done) | (refine hd ⟨5, .guard⟩ ?_ rfl; simp; done) | (refine hd ⟨5, .phase⟩ ?_ rfl; simp; done) | (refine hd ⟨5, .chain⟩ ?_ rfl; simp; done))
      have hd6 : L 6 = true := (by first | (refine hd ⟨6, .data⟩ ?_ rfl; simp; done) | (refine hd ⟨6, .guard⟩ ?_ rfl; simp; done) | (refine hd ⟨6, .phase⟩ ?_ rfl; simp; done) | (refine hd ⟨6, .chain⟩ ?_ rfl; simp; done))
      have e5 := c5 hd5 (by first | exact hf | assumption)
      have e6 := c6 hd6 (by first | exact hf | assumption)
      have hdk6 := Lib.hid hd6
      have hdx5 := Lib.hid hd5
      clear hd5
      clear hd6
      clear hd
      obtain ⟨g, h, ev5, kg, kh⟩ := e5
      obtain ⟨b, ev6, kb, hbB⟩ := e6
      rw [ev5, ev6] at hK
      have n1 := lok_apart kg kb (by decide)
      have n2 := lok_apart kh kb (by decide)
      have t0 := kb.cell (i := 0) rfl
      have t1 := kb.cell (i := 1) rfl
      have t2 := kb.cell (i := 2) rfl
      have t3 := kb.cell (i := 3) rfl
      have f0 := kb.frozen 0
      have f1 := kb.frozen 1
      have f2 := kb.frozen 2
      have f3 := kb.frozen 3
      replace kb := Lib.hid kb
      replace kg := Lib.hid kg
      replace kh := Lib.hid kh
      go_simp
      have hb : Below w.heap.size W ((((W.setCell ⟨b, 0, none⟩ (.slice (some ⟨g, 0, none⟩) 7 7)).setCell ⟨b, 1, none⟩ (.slice none 0 0)).setCell ⟨b, 2, none⟩ (.slice none 0 0)).setCell ⟨b, 3, none⟩ (.slice (some ⟨h, 0, none⟩) 3 3)) := ((((Below.refl _ W).setCell (p := ⟨b, 0, none⟩) hbB _).setCell (p := ⟨b, 1, none⟩) hbB _).setCell (p := ⟨b, 2, none⟩) hbB _).setCell (p := ⟨b, 3, none⟩) hbB _
      have q : MeK ((((W.setCell ⟨b, 0, none⟩ (.slice (some ⟨g, 0, none⟩) 7 7)).setCell ⟨b, 1, none⟩ (.slice none 0 0)).setCell ⟨b, 2, none⟩ (.slice none 0 0)).setCell ⟨b, 3, none⟩ (.slice (some ⟨h, 0, none⟩) 3 3)) (.pointer (some ⟨b, 0, none⟩)) := ⟨b, g, h, rfl, (((kb.out.set (i := 0) (v := .slice (some ⟨g, 0, none⟩) 7 7)).set (i := 1) (v := .slice none 0 0)).set (i := 2) (v := .slice none 0 0)).set (i := 3) (v := .slice (some ⟨h, 0, none⟩) 3 3), (((kg.out.far n1).far n1).far n1).far n1, (((kh.out.far n2).far n2).far n2).far n2⟩
      refine hK undef _ (fun s h => by cases h) (fun _ => ?_)
      exact ⟨hB.trans hb, (fun _ h => by have z := hdx5.out; rw [show L 5 = false from h] at z; cases z), c1, c2, c3, (fun _ h => by have z := hdx5.out; rw [show L 5 = false from h] at z; cases z), (fun _ h => by cases h), (fun _ h => by cases h), (fun _ => q), (fun _ => hdk6.out)⟩
  case finr1 =>
    rintro L u W hL ⟨hB, c0, c1, c2, c3, c4, c5, c6, c7, dk7⟩
    have e1 := c1 (hL 1 (by decide))
    have e2 := c2 (hL 2 (by decide))
    have e3 := c3 (hL 3 (by decide))
    have kq7 := c7 (hL 7 (by decide))
    clear hL c0 c1 c2 c3 c4 c5 c6 c7 dk7
    try simp only [e1, e2, e3]
    clear e1 e2 e3
    clear hmk
    generalize u 1 = u1 at *
    generalize u 12 = u12 at *
    generalize u 16 = u16 at *
    generalize u 17 = u17 at *
    obtain ⟨b, g, h, rfl, kb0, kg0, kh0⟩ := kq7
    have M := Lib.hid (md_rows kg0 kh0)
    have kb := Lib.hid kb0
    replace HB := Lib.hid hB
    clear kb0 kg0 kh0 hB
    have m0 := kb.out.cell (i := 0) rfl
    have m1 := kb.out.cell (i := 1) rfl
    have m2 := kb.out.cell (i := 2) rfl
    have m3 := kb.out.cell (i := 3) rfl
    go_wp2_with fail
    clear m0 m1 m2 m3
    have ED := E.edges (some ⟨g, 0, none⟩) none none (some ⟨h, 0, none⟩) 7 0 0 3 7 0 0 3 mdV mdV mdV mdC _ M.out (by omega) (by omega)
    rw [md_ok, show agE true = 0 from rfl, show egA true mdC 3 7 = eaL mdC 3 7 7 from rfl, md_edges] at ED
    ((with_reducible refine ED.mono ?_); rintro e w2 ⟨⟨v2, Z2, rfl, O2, HZ2⟩, hb2⟩)
    clear ED
    obtain ⟨a2, c2, rfl, -, lc2, mc2, R2⟩ := rowE_of_own O2
    have l2 : Z2.length = 8 := by
      have := congrArg List.length HZ2
      rwa [List.length_map] at this
    rw [HZ2] at R2
    rw [l2] at R2 lc2 ⊢
    clear O2 HZ2 l2
    replace R2 := Lib.hid R2
    replace HB := Lib.hid (HB.out.trans (hb2.mono HB.out.size))
    replace kb := Lib.hid (kb.out.keep hb2)
    replace M := Lib.hid (M.out.keep hb2)
    clear hb2
    have m0 := kb.out.cell (i := 0) rfl
    have m1 := kb.out.cell (i := 1) rfl
    have m2 := kb.out.cell (i := 2) rfl
    have m3 := kb.out.cell (i := 3) rfl
    go_wp2_with fail
    clear m0 m1 m2 m3
    have NX := E.next (some ⟨g, 0, none⟩) none none (some ⟨h, 0, none⟩) 7 0 0 3 7 0 0 3 mdV mdV mdV mdC 0 _ M.out (by omega) (by omega)
    rw [md_ok, show agE (okN true 0 3) = 0 from rfl, md_next] at NX
    ((with_reducible refine NX.mono ?_); rintro e w3 ⟨⟨v3, rfl, O3⟩, hb3⟩)
    clear NX
    obtain ⟨a3, c3, rfl, -, lc3, mc3, R3⟩ := rowI_of_own O3
    have z3 : ([1] : List Int).length = 1 := rfl
    rw [z3] at R3 lc3 ⊢
    clear O3 z3
    replace R3 := Lib.hid R3
    replace HB := Lib.hid (HB.out.trans (hb3.mono HB.out.size))
    replace kb := Lib.hid (kb.out.keep hb3)
    replace M := Lib.hid (M.out.keep hb3)
    replace R2 := Lib.hid (R2.out.keep hb3)
    clear hb3
    have m0 := kb.out.cell (i := 0) rfl
    have m1 := kb.out.cell (i := 1) rfl
    have m2 := kb.out.cell (i := 2) rfl
    have m3 := kb.out.cell (i := 3) rfl
    go_wp2_with fail
    clear m0 m1 m2 m3
    have PA := E.parts (some ⟨g, 0, none⟩) none none (some ⟨h, 0, none⟩) 7 0 0 3 7 0 0 3 mdV mdV mdV mdC _ M.out (by omega) (by omega)
    rw [md_ok, show agE true = 0 from rfl, md_parts] at PA
    ((with_reducible refine PA.mono ?_); rintro e w4 ⟨⟨v4, rfl, O4⟩, hb4⟩)
    clear PA
    obtain ⟨a4, c4, rfl, -, lc4, mc4, R4⟩ := rowI_of_own O4
    have z4 : ([0, 0, 2] : List Int).length = 3 := rfl
    rw [z4] at R4 lc4 ⊢
    clear O4 z4
    replace R4 := Lib.hid R4
    replace HB := Lib.hid (HB.out.trans (hb4.mono HB.out.size))
    replace kb := Lib.hid (kb.out.keep hb4)
    replace M := Lib.hid (M.out.keep hb4)
    replace R2 := Lib.hid (R2.out.keep hb4)
    replace R3 := Lib.hid (R3.out.keep hb4)
    clear hb4
    go_wp2_with fail
    have FI := E.find a2 8 c2 mdL 2 1 _ R2.out (by omega) (by decide)
    rw [md_find, show fdV (some ((1 : Int), (2 : Int), ([0, 1] : List Int))) = (1, 2, [0, 1]) from rfl, show (some ((1 : Int), (2 : Int), ([0, 1] : List Int))).isSome = true from rfl] at FI
    ((with_reducible refine FI.mono ?_); rintro e w5 ⟨⟨v5, rfl, O5⟩, hb5⟩)
    clear FI
    obtain ⟨a5, c5, rfl, -, lc5, mc5, R5⟩ := rowI_of_own O5
    have z5 : ([0, 1] : List Int).length = 2 := rfl
    simp only [z5] at R5 lc5 ⊢
    clear O5 z5
    replace R5 := Lib.hid R5
    replace HB := Lib.hid (HB.out.trans (hb5.mono HB.out.size))
    replace kb := Lib.hid (kb.out.keep hb5)
    replace M := Lib.hid (M.out.keep hb5)
    replace R2 := Lib.hid (R2.out.keep hb5)
    replace R3 := Lib.hid (R3.out.keep hb5)
    replace R4 := Lib.hid (R4.out.keep hb5)
    clear hb5
    go_upto_region 6 with fail
    have hbp := below_new1 w5 (.cells #[.int .i64 1, .int .i64 2, .slice a5 2 c5] 39)
    replace kb := Lib.hid (kb.out.keep hbp)
    replace M := Lib.hid (M.out.keep hbp)
    replace R2 := Lib.hid (R2.out.keep hbp)
    replace R3 := Lib.hid (R3.out.keep hbp)
    replace R4 := Lib.hid (R4.out.keep hbp)
    replace R5 := Lib.hid (R5.out.keep hbp)
    have zp : (w5.alloc (.cells #[.int .i64 1, .int .i64 2, .slice a5 2 c5] 39)).heap.size = w5.heap.size + 1 := by simp
    replace HB := Lib.hid (HB.out.trans (hbp.mono HB.out.size))
    have kp := Lib.hid (Lok.new w5 39 #[.int .i64 1, .int .i64 2, .slice a5 2 c5])
    clear hbp
    generalize w5.alloc (.cells #[.int .i64 1, .int .i64 2, .slice a5 2 c5] 39) = Vp at *
    clear zp
    have m0 := kb.out.cell (i := 0) rfl
    have m1 := kb.out.cell (i := 1) rfl
    have m2 := kb.out.cell (i := 2) rfl
    have m3 := kb.out.cell (i := 3) rfl
    go_wp2_with fail
    clear m0 m1 m2 m3
    have NX := E.next (some ⟨g, 0, none⟩) none none (some ⟨h, 0, none⟩) 7 0 0 3 7 0 0 3 mdV mdV mdV mdC 3 _ M.out (by omega) (by omega)
    rw [md_ok, md_none, show agE false = 1 from rfl] at NX
    ((with_reducible refine NX.mono ?_); rintro e w6 ⟨⟨v6, rfl, -⟩, hb6⟩)
    clear NX kb M
    replace R2 := Lib.hid (R2.out.keep hb6)
    replace R3 := Lib.hid (R3.out.keep hb6)
    replace R4 := Lib.hid (R4.out.keep hb6)
    replace R5 := Lib.hid (R5.out.keep hb6)
    replace kp := Lib.hid (kp.out.keep hb6)
    replace HB := Lib.hid (HB.out.trans (hb6.mono HB.out.size))
    clear hb6
    go_upto_region 7 with fail
    obtain ⟨b2, o2, t2, m2, ct2, x2, y2, l2, rfl, hb2, hL2, hx, hy, hz, hr, -, hmc, hcm⟩ := R2.out.at (i := 2) (by omega)
    have hL3 : ((1 : Int), (2 : Int), ([0, 1] : List Int)) = (x2, y2, l2) := Option.some.inj hL2
    cases hL3
    obtain rfl : m2 = 2 := hr.1.symm
    have RT := Lib.hid hr
    clear hL2 hr
    simp only [Nat.reduceMul, Nat.reduceAdd] at hx hy hz
    go_wp2_with fail
    have hbq := below_new1 w6 (.cells #[.int .i64 0, .int .i64 1] 3)
    replace R2 := Lib.hid (R2.out.keep hbq)
    replace R3 := Lib.hid (R3.out.keep hbq)
    replace R4 := Lib.hid (R4.out.keep hbq)
    replace R5 := Lib.hid (R5.out.keep hbq)
    replace RT := Lib.hid (RT.out.keep hbq)
    replace kp := Lib.hid (kp.out.keep hbq)
    have zq : (w6.alloc (.cells #[.int .i64 0, .int .i64 1] 3)).heap.size = w6.heap.size + 1 := by simp
    replace HB := Lib.hid (HB.out.trans (hbq.mono HB.out.size))
    have kq := Lib.hid (Lok.new w6 3 #[.int .i64 0, .int .i64 1])
    clear hbq
    generalize w6.alloc (.cells #[.int .i64 0, .int .i64 1] 3) = Vq at *
    clear zq
    have RQ := Lib.hid (rowI_of_lok (l := [0, 1]) kq.out)
    have SA := rsame_list t2 (some ⟨w6.heap.size, 0, none⟩) 2 2 ct2 2 [0, 1] [0, 1] _ RT.out RQ.out (by omega) (by omega)
    rw [smB_self] at SA
    (((with_reducible refine (SA).mono ?_); rintro e w7 ⟨rfl, hb7⟩); replace HB := Lib.hid (HB.out.trans (hb7.mono HB.out.size)); replace R2 := Lib.hid (R2.out.keep hb7); replace R3 := Lib.hid (R3.out.keep hb7); replace R4 := Lib.hid (R4.out.keep hb7); replace R5 := Lib.hid (R5.out.keep hb7); replace kp := Lib.hid (kp.out.keep hb7); clear hb7)
    clear SA RQ kq RT hx hy hz
    go_wp2_with fail
    have hbr := below_new1 w7 (.cells #[.int .i64 1] 3)
    replace R2 := Lib.hid (R2.out.keep hbr)
    replace R3 := Lib.hid (R3.out.keep hbr)
    replace R4 := Lib.hid (R4.out.keep hbr)
    replace R5 := Lib.hid (R5.out.keep hbr)
    replace kp := Lib.hid (kp.out.keep hbr)
    have zr : (w7.alloc (.cells #[.int .i64 1] 3)).heap.size = w7.heap.size + 1 := by simp
    replace HB := Lib.hid (HB.out.trans (hbr.mono HB.out.size))
    have kr := Lib.hid (Lok.new w7 3 #[.int .i64 1])
    clear hbr
    generalize w7.alloc (.cells #[.int .i64 1] 3) = Vr at *
    clear zr
    have RQ := Lib.hid (rowI_of_lok (l := [1]) kr.out)
    have SA := rsame_list a3 (some ⟨w7.heap.size, 0, none⟩) 1 1 c3 1 [1] [1] _ R3.out RQ.out (by omega) (by omega)
    rw [smB_self] at SA
    (((with_reducible refine (SA).mono ?_); rintro e w8 ⟨rfl, hb8⟩); replace HB := Lib.hid (HB.out.trans (hb8.mono HB.out.size)); replace R2 := Lib.hid (R2.out.keep hb8); replace R4 := Lib.hid (R4.out.keep hb8); replace R5 := Lib.hid (R5.out.keep hb8); replace kp := Lib.hid (kp.out.keep hb8); clear hb8)
    clear SA RQ kr R3
    go_wp2_with fail
    have hbs := below_new1 w8 (.cells #[.int .i64 0, .int .i64 0, .int .i64 2] 3)
    replace R2 := Lib.hid (R2.out.keep hbs)
    replace R4 := Lib.hid (R4.out.keep hbs)
    replace R5 := Lib.hid (R5.out.keep hbs)
    replace kp := Lib.hid (kp.out.keep hbs)
    have zs : (w8.alloc (.cells #[.int .i64 0, .int .i64 0, .int .i64 2] 3)).heap.size = w8.heap.size + 1 := by simp
    replace HB := Lib.hid (HB.out.trans (hbs.mono HB.out.size))
    have ks := Lib.hid (Lok.new w8 3 #[.int .i64 0, .int .i64 0, .int .i64 2])
    clear hbs
    generalize w8.alloc (.cells #[.int .i64 0, .int .i64 0, .int .i64 2] 3) = Vs at *
    clear zs
    have RQ := Lib.hid (rowI_of_lok (l := [0, 0, 2]) ks.out)
    have SA := rsame_list a4 (some ⟨w8.heap.size, 0, none⟩) 3 3 c4 3 [0, 0, 2] [0, 0, 2] _ R4.out RQ.out (by omega) (by omega)
    rw [smB_self] at SA
    (((with_reducible refine (SA).mono ?_); rintro e w9 ⟨rfl, hb9⟩); replace HB := Lib.hid (HB.out.trans (hb9.mono HB.out.size)); replace R2 := Lib.hid (R2.out.keep hb9); replace R5 := Lib.hid (R5.out.keep hb9); replace kp := Lib.hid (kp.out.keep hb9); clear hb9)
    clear SA RQ ks R4
    have p2 := kp.out.cell (i := 2) rfl
    go_wp2_with fail
    have LO := E.loose (some ⟨b2, o2, none⟩) 8 c2 mdL _ R2.out (by omega) (by decide)
    ((with_reducible refine LO.mono ?_); rintro e w10 ⟨⟨v10, Z10, rfl, O10, HZ10⟩, hb10⟩)
    clear LO
    obtain ⟨a10, c10, rfl, -, lc10, mc10, R10⟩ := rowE_of_own O10
    have l10 : Z10.length = 7 := by
      have := congrArg List.length HZ10
      rw [List.length_map] at this
      exact this.trans md_loose
    rw [l10]
    clear O10 HZ10 R10 p2
    replace HB := Lib.hid (HB.out.trans (hb10.mono HB.out.size))
    clear hb10
    go_wp2
    go_ret
    exact ⟨rfl, HB.out⟩
end Go.Proofs.Ytkheomaihhcokaa
