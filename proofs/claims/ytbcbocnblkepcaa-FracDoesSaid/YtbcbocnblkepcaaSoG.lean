/-
  Package frac: a row of fractions, sorted.
-/
import Derived.Test.YtbcbocnblkepcaaSoF
import Derived.Test.YtbcbocnblkepcaaFrD
import Derived.Test.YtbcbocnblkepcaaRefB
import Derived.Laws.MakeOwn
namespace Go.Proofs.Ytbcbocnblkepcaa
open Go.RowKit

theorem tot_cmpK (F : Nat → Nat → Int) : Tot (cmpK F) := ⟨fun _ _ => cmpF_both _ _ _ _, fun _ _ _ h k => (cmpF_trans _ _ _ _ _ _ h k).1⟩
theorem cmpOK_row (w : World) (A : Option Addr) (n c : Nat) (F : Nat → Nat → Int) (h : RowK w A n 2 F) : CmpOK w n (cmpK F) (.slice A n c) :=
  fun W hb x y hx hy => rowCompare_any A n c x y F W (h.keep hb) hx hy

theorem PW.congr {w0 W : World} {g n : Nat} {D E : Nat → Nat} (h : PW w0 g n D W) (e : ∀ t, t < n → D t = E t) : PW w0 g n E W where
  below := h.below
  ge := h.ge
  lt := h.lt
  cell := fun k hk => by rw [← e k hk]; exact h.cell k hk
  frz := h.frz
theorem PW.put {w0 W : World} {g n : Nat} {D : Nat → Nat} (h : PW w0 g n D W) {i : Nat} (hi : i < n) (x : Nat) : PW w0 g n (fun t => if t = i then x else D t) (W.setCell ⟨g, i, none⟩ (.int .i64 x)) where
  below := h.below.setCell h.ge _
  ge := h.ge
  lt := Nat.lt_of_lt_of_le h.lt ((Below.refl 0 W).setCell (p := ⟨g, i, none⟩) (Nat.zero_le _) (.int .i64 x)).size
  cell := fun k hk => by
    by_cases e : k = i
    · subst e; simp only [if_true]; exact cell_set_same (h.cell k hi)
    · simp only [e, if_false]; exact cell_set_other (h.cell k hk) (fun q => e q.symm)
  frz := fun k hk => by rw [World.frozen?_setCell]; exact h.frz k hk
/-- A row of pairs in a block of the call's own. -/
structure RowG (W : World) (g n : Nat) (G : Nat → Nat → Int) : Prop where
  lt : g < W.heap.size
  cell : ∀ k, k < n → ∀ j, j < 2 → W.cell? ⟨g, k * 2 + j, none⟩ = some (.int .i64 (G k j))
  frz : ∀ o, W.frozen? ⟨g, o, none⟩ = false
theorem RowG.keep {W W' : World} {g n : Nat} {G : Nat → Nat → Int} (h : RowG W g n G) (hb : Below W.heap.size W W') : RowG W' g n G where
  lt := Nat.lt_of_lt_of_le h.lt hb.size
  cell := fun k hk j hj => keepc hb (h.cell k hk j hj)
  frz := fun o => (hb.frozen (p := ⟨g, o, none⟩) h.lt).trans (h.frz o)
theorem RowG.rowK {W : World} {g n : Nat} {G : Nat → Nat → Int} (h : RowG W g n G) : RowK W (some ⟨g, 0, none⟩) n 2 G :=
  .inr ⟨g, 0, rfl, h.lt, fun i hi j hj => by rw [Nat.zero_add]; exact h.cell i hi j hj⟩
theorem RowG.congr {W : World} {g n : Nat} {G H : Nat → Nat → Int} (h : RowG W g n G) (e : ∀ k, k < n → ∀ j, j < 2 → G k j = H k j) : RowG W g n H where
  lt := h.lt
  cell := fun k hk j hj => by rw [← e k hk j hj]; exact h.cell k hk j hj
  frz := h.frz
/-- One pair put. -/
theorem RowG.put {W : World} {g n : Nat} {G : Nat → Nat → Int} (h : RowG W g n G) {i : Nat} (hi : i < n) (x y : Int) :
    RowG ((W.setCell ⟨g, i * 2, none⟩ (.int .i64 x)).setCell ⟨g, i * 2 + 1, none⟩ (.int .i64 y)) g n (fun k j => if k = i then (if j = 0 then x else y) else G k j) where
  lt := Nat.lt_of_lt_of_le h.lt (((Below.refl 0 W).setCell (p := ⟨g, i * 2, none⟩) (Nat.zero_le _) (.int .i64 x)).setCell (p := ⟨g, i * 2 + 1, none⟩) (Nat.zero_le _) (.int .i64 y)).size
  cell := fun k hk j hj => by
    by_cases e : k = i
    · subst e
      simp only [if_true]
      by_cases q : j = 0
      · subst q
        simp only [if_true]
        exact cell_set_other (cell_set_same (h.cell k hi 0 (by omega))) (by omega)
      · have q1 : j = 1 := by omega
        subst q1
        exact cell_set_same (cell_set_other (h.cell k hi 1 (by omega)) (by omega))
    · simp only [e, if_false]
      exact cell_set_other (cell_set_other (h.cell k hk j hj) (by omega)) (by omega)
  frz := fun o => by rw [World.frozen?_setCell, World.frozen?_setCell]; exact h.frz o
theorem far_cell {W : World} {g g' i j : Nat} {u v : Value} (h : W.cell? ⟨g, j, none⟩ = some u) (n : g' ≠ g) : (W.setCell ⟨g', i, none⟩ v).cell? ⟨g, j, none⟩ = some u :=
  (World.cell?_setCell_other _ _ _ _ (by intro e; simp only [Addr.mk.injEq] at e; exact n e.1)).trans h
theorem PW.far {w0 W : World} {g n : Nat} {D : Nat → Nat} (h : PW w0 g n D W) {g' i : Nat} {v : Value} (hg : g' ≠ g) (hw : w0.heap.size ≤ g') : PW w0 g n D (W.setCell ⟨g', i, none⟩ v) where
  below := h.below.setCell hw _
  ge := h.ge
  lt := Nat.lt_of_lt_of_le h.lt ((Below.refl 0 W).setCell (p := ⟨g', i, none⟩) (Nat.zero_le _) v).size
  cell := fun k hk => far_cell (h.cell k hk) hg
  frz := fun k hk => by rw [World.frozen?_setCell]; exact h.frz k hk

theorem infoF : (Try.prog.info? 23).map (fun i => (i.zero, i.size, i.bytes)) = some (some (.agg #[.int .i64 0, .int .i64 0]), 2, 16) := by kernel_rfl
theorem made_ints (W : World) (n : Nat) (hn : n ≤ 1000000) :
    (Instr.makeSlice 46 (.int .i64 (n : Int)) (.int .i64 (n : Int))).run Try.prog W = .ok (.slice (some ⟨W.heap.size, 0, none⟩) n n) (W.alloc (.cells (madeCells #[.int .i64 0] n) 3)) := by
  obtain ⟨i0, hi, hz0, hz1, hz2⟩ := info_parts infoI
  have h := run_make (P := Try.prog) W 46 3 i0 (.int .i64 0) Try.underlying46 hi hz0 .i64 .i64 (n : Int) (n : Int) (by omega) (Int.le_refl _) (by rw [hz2]; omega) (by omega)
  rw [hz1, Int.toNat_natCast, Nat.mul_one] at h
  exact h
theorem made_fracs (W : World) (n : Nat) (hn : n ≤ 1000000) :
    (Instr.makeSlice 24 (.int .i64 (n : Int)) (.int .i64 (n : Int))).run Try.prog W = .ok (.slice (some ⟨W.heap.size, 0, none⟩) n n) (W.alloc (.cells (madeCells #[.int .i64 0, .int .i64 0] (n * 2)) 23)) := by
  obtain ⟨i0, hi, hz0, hz1, hz2⟩ := info_parts infoF
  have h := run_make (P := Try.prog) W 24 23 i0 _ Try.underlying24 hi hz0 .i64 .i64 (n : Int) (n : Int) (by omega) (Int.le_refl _) (by rw [hz2]; omega) (by omega)
  rw [hz1, Int.toNat_natCast] at h
  exact h
theorem PW.made (W : World) (n : Nat) : PW W W.heap.size n (fun _ => 0) (W.alloc (.cells (madeCells #[.int .i64 0] n) 3)) where
  below := (Below.refl _ _).alloc (Nat.le_refl _) _
  ge := Nat.le_refl _
  lt := by simp
  cell := fun k hk => alloc_cell rfl (by unfold madeCells; simp [hk, Nat.mod_one])
  frz := fun k _ => alloc_frozen rfl
theorem RowG.made (W : World) (n : Nat) : RowG (W.alloc (.cells (madeCells #[.int .i64 0, .int .i64 0] (n * 2)) 23)) W.heap.size n (fun _ _ => 0) where
  lt := by simp
  cell := fun k hk j hj => by
    refine alloc_cell rfl ?_
    have q : k * 2 + j < n * 2 := by omega
    have r : (k * 2 + j) % 2 = j := by omega
    unfold madeCells
    simp [q, r]
    match j, hj with
    | 0, _ => rfl
    | 1, _ => rfl
  frz := fun _ => alloc_frozen rfl

/-- What Sort leaves. -/
def SortPost (F : Nat → Nat → Int) (n : Nat) (w : World) (e : Ending) (w' : World) : Prop :=
  ∃ (g : Nat) (D : Nat → Nat), e = .returned (.slice (some ⟨g, 0, none⟩) n n) ∧ w.heap.size ≤ g ∧ Below w.heap.size w w' ∧ RowG w' g n (fun k j => F (D k) j) ∧ Pm 0 n id D ∧ Srt (cmpK F) D 0 n

set_option maxRecDepth 100000 in
set_option maxHeartbeats 8000000 in
theorem arranged_any (A : Option Addr) (n c : Nat) (F : Nat → Nat → Int) (w : World) (hr : RowK w A n 2 F) (hn : n < 40) :
    Calls Try.prog 28 #[.slice A n c, .func (.func 27) #[.slice A n c] #[]] w (SortPost F n w) := by
  have R := Lib.hid hr
  have M1 := made_ints w n (by omega)
  have M2 := Lib.hid (fun W => made_fracs W n (by omega))
  have P0 := Lib.hid (PW.made w n)
  have HC := Lib.hid (cmpOK_row w A n c F hr)
  have HT := Lib.hid (tot_cmpK F)
  clear hr
  go_enter Try.func28, Try.ntmps28
  go_wp2_with fail
  clear M1
  generalize w.alloc (.cells (madeCells #[.int .i64 0] n) 3) = V at *
  obtain ⟨g, hg⟩ : ∃ g, g = w.heap.size := ⟨_, rfl⟩
  rw [← hg] at P0 ⊢
  clear hg
  go_loopw [15] (fun x wr => ∃ k : Nat, x = .int .i64 k ∧ k ≤ n ∧ PW w g n (fun t => if t < k then t else 0) wr) (fun x _ => n - (intOf x).toNat)
  case atStart => exact ⟨0, rfl, Nat.zero_le _, P0.out.congr (fun t _ => by simp)⟩
  case round =>
    obtain ⟨k, rfl, hk, hP⟩ := hrel
    by_cases hlt : k < n
    · have HN := Lib.hid ((hP.put hlt k).congr (E := fun t => if t < k + 1 then t else 0) (fun t _ => by
        by_cases e : t = k
        · subst e; simp
        · by_cases q : t < k
          · simp [e, q, show t < k + 1 from by omega]
          · simp [e, q, show ¬ t < k + 1 from by omega]))
      have c0 := hP.cell k hlt
      simp only [Nat.lt_irrefl, if_false] at c0
      have f0 := hP.frz k hlt
      clear hP
      go_wp2
      go_roundw
      case rel => exact ⟨k + 1, by go_num, hlt, HN.out⟩
      case measure => simp [intOf]; omega
    · obtain rfl : k = n := by omega
      have HP := Lib.hid (hP.congr (E := id) (fun t ht => by simp [ht]))
      have S := Lib.hid (sortStable_ok w g k k (cmpK F) HT.out (.slice A k c) HC.out id wr HP.out hn (fun t _ => rfl))
      clear hP
      go_wp2_with fail
      ((with_reducible refine (S.out).mono ?_); rintro e w1 ⟨rfl, D, pD, sD, hP1⟩)
      have HD := Lib.hid (And.intro pD sD)
      have HW := Lib.hid hP1
      have MM := M2.out w1
      have G0 := Lib.hid (RowG.made w1 k)
      have HW2 := Lib.hid (hP1.keep ((Below.refl w1.heap.size w1).alloc (Nat.le_refl _) (.cells (madeCells #[.int .i64 0, .int .i64 0] (k * 2)) 23)))
      have hgg : g < w1.heap.size := hP1.lt
      clear pD sD hP1 S HP
      go_wp2_with fail
      clear MM M2 HW
      generalize w1.alloc (.cells (madeCells #[.int .i64 0, .int .i64 0] (k * 2)) 23) = V2 at *
      generalize w1.heap.size = g2 at *
      go_loopw [31] (fun x wr => ∃ i : Nat, x = .int .i64 i ∧ i ≤ k ∧ PW w g k D wr ∧ RowG wr g2 k (fun t j => if t < i then F (D t) j else 0)) (fun x _ => k - (intOf x).toNat)
      case atStart => exact ⟨0, rfl, Nat.zero_le _, HW2.out, G0.out.congr (fun t _ j _ => by simp)⟩
      case round =>
        obtain ⟨i, rfl, hi, hP, hG⟩ := hrel
        by_cases hlt : i < k
        · have hDi : D i < k := by
            obtain ⟨s, _, s2, e⟩ := HD.out.1.at (Nat.zero_le i) hlt
            rw [e]; exact s2
          obtain ⟨b, o, rfl, hb, hc⟩ := (R.out.keep hP.below).at hDi
          have x0 := hc (D i) hDi 0 (by omega)
          have x1 := hc (D i) hDi 1 (by omega)
          rw [Nat.add_zero] at x0
          rw [← Nat.add_assoc] at x1
          have p0 := hP.cell i hlt
          have y0 := hG.cell i hlt 0 (by omega)
          have y1 := hG.cell i hlt 1 (by omega)
          simp only [Nat.lt_irrefl, if_false] at y0 y1
          rw [Nat.add_zero] at y0
          have z0 := hG.frz (i * 2)
          have z1 := hG.frz (i * 2 + 1)
          have hgw : w.heap.size ≤ g2 := by have := hP.ge; omega
          have HN := Lib.hid (And.intro ((hP.far (i := i * 2) (v := .int .i64 (F (D i) 0)) (show g2 ≠ g by omega) hgw).far (i := i * 2 + 1) (v := .int .i64 (F (D i) 1)) (show g2 ≠ g by omega) hgw)
            ((hG.put hlt (F (D i) 0) (F (D i) 1)).congr (H := fun t j => if t < i + 1 then F (D t) j else 0) (fun t _ j hj => by
              by_cases e : t = i
              · subst e
                match j, hj with
                | 0, _ => simp
                | 1, _ => simp
              · by_cases q : t < i
                · simp [e, q, show t < i + 1 from by omega]
                · simp [e, q, show ¬ t < i + 1 from by omega])))
          clear hP hG hc
          generalize F (D i) 0 = p at *
          generalize F (D i) 1 = q at *
          have d1 : (D i : Int) < (k : Int) := by omega
          generalize hd : D i = d at *
          have HDD := Lib.hid hd
          clear hd
          go_wp2
          go_roundw
          case rel => exact ⟨i + 1, by go_num, hlt, HN.out.1, HN.out.2⟩
          case measure => simp [intOf]; omega
        · obtain rfl : i = k := by omega
          have HE := Lib.hid (And.intro hP.below (And.intro hP.ge (hG.congr (H := fun t j => F (D t) j) (fun t ht j _ => by simp [ht]))))
          clear hP hG
          go_wp2
          go_ret
          exact ⟨g2, D, rfl, by have := HE.out.2.1; omega, HE.out.1, HE.out.2.2, HD.out.1, HD.out.2⟩
set_option maxRecDepth 100000 in
theorem fsort_any (A : Option Addr) (n c : Nat) (F : Nat → Nat → Int) (w : World) (hr : RowK w A n 2 F) (hn : n < 40) :
    Calls Try.prog 15 #[.slice A n c] w (SortPost F n w) := by
  have S := Lib.hid (arranged_any A n c F w hr hn)
  clear hr
  go_enter Try.func15, Try.ntmps15
  go_wp2_with fail
  ((with_reducible refine (S.out).mono ?_); rintro e w1 ⟨g, D, rfl, h1, h2, h3, h4, h5⟩)
  have H := Lib.hid (And.intro h1 (And.intro h2 (And.intro h3 (And.intro h4 h5))))
  clear h1 h2 h3 h4 h5
  go_wp2
  go_ret
  exact ⟨g, D, rfl, H.out⟩
end Go.Proofs.Ytbcbocnblkepcaa
