/-
  The reference's sums of digits: plus.
-/
import Derived.Test.YtehfmapbodjppaaDoorRefB
import Derived.Test.YtehfmapbodjppaaDoorWideR
namespace Go.Proofs.YtehfmapbodjppaaDoor
open Go.RowKit
open Go.BigFrame

theorem vs_split (D : Nat → Int) (l : Nat) : ∀ k i, vs D i (k + l) = vs D i k + p10 k * vs D (i + k) l := by
  intro k
  induction k with
  | zero => intro i; rw [Nat.zero_add]; show _ = 0 + 1 * vs D (i + 0) l; rw [Nat.add_zero]; omega
  | succ k ih =>
    intro i
    rw [show k + 1 + l = (k + l) + 1 from by omega]
    show D i + 10 * vs D (i + 1) (k + l) = D i + 10 * vs D (i + 1) k + 10 * p10 k * vs D (i + (k + 1)) l
    rw [ih (i + 1), show i + 1 + k = i + (k + 1) from by omega, Int.mul_assoc]
    omega
theorem vs_nought {D : Nat → Int} (k : Nat) : ∀ i, (∀ j, i ≤ j → D j = 0) → vs D i k = 0 := by
  induction k with
  | zero => intro i _; rfl
  | succ k ih =>
    intro i h
    show D i + 10 * vs D (i + 1) k = 0
    rw [h i (Nat.le_refl _), ih (i + 1) (fun j hj => h j (by omega))]; omega
/-- A number's digits, with as many zeros ahead as one likes. -/
theorem vs_dgt (D : Nat → Int) (n k : Nat) (h : n ≤ k) : vs (dgt D n) 0 k = vs D 0 n := by
  obtain ⟨l, rfl⟩ : ∃ l, k = n + l := ⟨k - n, by omega⟩
  rw [vs_split, vs_nought l (0 + n) (fun j hj => by unfold dgt; rw [if_neg (by omega)])]
  rw [vs_same (E := D) n 0 (fun j _ h2 => by unfold dgt; rw [if_pos (by omega)])]
  omega
/-- The carry into a place, and the digit there. -/
def crr (A B : Nat → Int) : Nat → Int
  | 0 => 0
  | i + 1 => (A i + B i + crr A B i) / 10
def sd (A B : Nat → Int) (i : Nat) : Int := (A i + B i + crr A B i) % 10
def Ds (A : Nat → Int) : Prop := ∀ i, 0 ≤ A i ∧ A i ≤ 9
theorem dgt_Ds {D : Nat → Int} {n : Nat} (h : Dg D n) : Ds (dgt D n) := fun i => dgt_Dg h i
theorem crr_bd {A B : Nat → Int} (ha : Ds A) (hb : Ds B) (i : Nat) : 0 ≤ crr A B i ∧ crr A B i ≤ 1 := by
  induction i with
  | zero => exact ⟨Int.le_refl _, by show (0 : Int) ≤ 1; omega⟩
  | succ i ih =>
    have := ha i; have := hb i
    show 0 ≤ (A i + B i + crr A B i) / 10 ∧ (A i + B i + crr A B i) / 10 ≤ 1
    omega
theorem sd_Dg (A B : Nat → Int) (n : Nat) : Dg (sd A B) n := fun i _ => by unfold sd; omega
theorem sd_vs (A B : Nat → Int) (k : Nat) : vs (sd A B) 0 k + p10 k * crr A B k = vs A 0 k + vs B 0 k := by
  induction k with
  | zero => show 0 + 1 * 0 = (0 : Int) + 0; omega
  | succ k ih =>
    rw [vs_snoc, vs_snoc, vs_snoc, Nat.zero_add]
    have e : sd A B k + 10 * crr A B (k + 1) = A k + B k + crr A B k := by
      show (A k + B k + crr A B k) % 10 + 10 * ((A k + B k + crr A B k) / 10) = _; omega
    have e2 : p10 (k + 1) * crr A B (k + 1) = p10 k * (10 * crr A B (k + 1)) := by
      show 10 * p10 k * _ = _; rw [Int.mul_comm 10, Int.mul_assoc]
    have e3 : p10 k * sd A B k + p10 k * (10 * crr A B (k + 1)) = p10 k * A k + p10 k * B k + p10 k * crr A B k := by
      rw [← Int.mul_add, e, Int.mul_add, Int.mul_add]
    rw [e2]; omega
/-- What plus gives back: a row of the call's own. -/
def RetRow (V : Int) (w : World) (e : Ending) (w' : World) : Prop :=
  Below w.heap.size w w' ∧ ∃ a n c D, e = .returned (.slice a n c) ∧ RowF w' a n c D ∧ c ≤ 9223372036854775807 ∧ Dg D n ∧ vs D 0 n = V ∧ (∀ b off, a = some ⟨b, off, none⟩ → w.heap.size ≤ b)

set_option maxRecDepth 100000 in
set_option maxHeartbeats 1000000 in
theorem plus_any (s t : Bool) (a b : Option Addr) (n m c d₁ : Nat) (D E : Nat → Int) (w : World) (ra : RowF w a n c D) (rb : RowF w b m d₁ E) (hn : n ≤ 1000000) (hm : m ≤ 1000000) (da : Dg D n) (db : Dg E m) :
    Calls Tryd.prog 35 #[.agg #[.bool s, .slice a n c], .agg #[.bool t,   .slice b m d₁]] w (RetRow (vs D 0 n + vs E 0 m) w) := by
  obtain ⟨i0, hi, hz0, hz1, hz2⟩ := info_parts infoI
  have hA := dgt_Ds da
  have hB := dgt_Ds db
  go_enter Tryd.func35, Tryd.ntmps35
  go_wp2_with fail
  go_loopw [5, 6, 7] (fun v cr ix wr => ∃ k : Nat, k ≤ max n m + 1 ∧ ix = .int .i64 k ∧ cr = .int .i64 (crr (dgt D n) (dgt E m) k) ∧ wr.ownsRow (w.heap.size + 2) 3 1 v k (upto (sd (dgt D n) (dgt E m)) k) ∧ Below w.heap.size w wr ∧ w.heap.size + 1 < wr.heap.size ∧ wr.cell? ⟨w.heap.size, 0, none⟩ = some (.bool s) ∧ wr.cell? ⟨w.heap.size, 1, none⟩ = some (.slice a n c) ∧ wr.cell? ⟨w.heap.size + 1, 0, none⟩ = some (.bool t) ∧ wr.cell? ⟨w.heap.size + 1, 1, none⟩ = some (.slice b m d₁))
    (fun _ _ ix _ => max n m + 1 - (intOf ix).toNat)
  case atStart => exact ⟨0, by omega, rfl, rfl, World.ownsRow_nil _ _ _ _, by (repeat (first | exact Below.refl _ _ | assumption | refine Below.drew ?_ | refine below_drewN ?_ _ | refine Below.setCell ?_ (by first | omega | (simp; done) | (simp; omega)) _ | refine Below.alloc ?_ (by first | omega | (simp; done) | (simp; omega)) _)), by simp, by simp, by simp, by simp, by simp⟩
  case round =>
    obtain ⟨k, hk, rfl, rfl, hown, hBl, hsz, r0, r1, r2, r3⟩ := hrel
    have q1 := hA k
    have q2 := hB k
    have q3 := crr_bd hA hB k
    have HS := Lib.hid (show sd (dgt D n) (dgt E m) k = (dgt D n k + dgt E m k + crr (dgt D n) (dgt E m) k) % 10 from rfl)
    have HC := Lib.hid (show crr (dgt D n) (dgt E m) (k + 1) = (dgt D n k + dgt E m k + crr (dgt D n) (dgt E m) k) / 10 from rfl)
    have HU := Lib.hid (upto_succ (sd (dgt D n) (dgt E m)) k)
    have RA := Lib.hid ra
    have RB := Lib.hid rb
    have HB := Lib.hid hBl
    clear ra rb hA hB hBl
    by_cases hlt : k < max n m + 1
    · go_upto_region 6 with fail
      have wp1 : IntKind.i64.wrap (dgt D n k + dgt E m k) = dgt D n k + dgt E m k := IntWalk.i64_in _ (by omega)
      have wp2 : IntKind.i64.wrap (dgt D n k + dgt E m k + crr (dgt D n) (dgt E m) k) = dgt D n k + dgt E m k + crr (dgt D n) (dgt E m) k := IntWalk.i64_in _ (by omega)
      have ST := Lib.hid (show Stays (fun W => Below wr.heap.size wr W) from fun W W' h hb => h.trans (hb.mono h.size))
      have CA := Lib.hid (show ∀ x : Of (fun W => Below wr.heap.size wr W), Calls Tryd.prog 43 #[.agg #[.bool s, .slice a n c], .int .i64 k] x.world fun e w'' => e = .returned (.int .i64 (dgt D n k)) ∧ ∃ d' : Of (fun W => Below wr.heap.size wr W), w'' = d'.world from fun x => class_call ST.out x (digit_any s a n c D k _ ((RA.out.keep HB.out).keep x.holds) (by omega) (by omega)))
      have CB := Lib.hid (show ∀ x : Of (fun W => Below wr.heap.size wr W), Calls Tryd.prog 43 #[.agg #[.bool t, .slice b m d₁], .int .i64 k] x.world fun e w'' => e = .returned (.int .i64 (dgt E m k)) ∧ ∃ d' : Of (fun W => Below wr.heap.size wr W), w'' = d'.world from fun x => class_call ST.out x (digit_any t b m d₁ E k _ ((RB.out.keep HB.out).keep x.holds) (by omega) (by omega)))
      have ne : Nonempty (Of (fun W => Below wr.heap.size wr W)) := ⟨⟨wr, Below.refl _ _⟩⟩
      have c0 : ∀ d : Of (fun W => Below wr.heap.size wr W), d.world.cell? ⟨w.heap.size, 0, none⟩ = some (.bool s) := fun d => keepc d.holds r0
      have c1 : ∀ d : Of (fun W => Below wr.heap.size wr W), d.world.cell? ⟨w.heap.size, 1, none⟩ = some (.slice a n c) := fun d => keepc d.holds r1
      have c2 : ∀ d : Of (fun W => Below wr.heap.size wr W), d.world.cell? ⟨w.heap.size + 1, 0, none⟩ = some (.bool t) := fun d => keepc d.holds r2
      have c3 : ∀ d : Of (fun W => Below wr.heap.size wr W), d.world.cell? ⟨w.heap.size + 1, 1, none⟩ = some (.slice b m d₁) := fun d => keepc d.holds r3
      refine wp_region_class (S := fun W => Below wr.heap.size wr W) (by kernel_rfl) (by kernel_rfl) (Below.refl _ _).drew ?_
      repeat (go_big_quiet_step (first | (go_at_call 43; with_reducible exact CA.out _) | (go_at_call 43; with_reducible exact CB.out _)))
      refine wpQuiet_nil ?_
      rintro _ ⟨d, rfl⟩
      have HD := Lib.hid d.holds
      have z0 := c0 d
      have z1 := c1 d
      have z2 := c2 d
      have z3 := c3 d
      clear c0 c1 c2 c3
      have hown1 := own_keep hown HD.out
      have hBd : Below w.heap.size w d.world := HB.out.trans (HD.out.mono (by omega))
      have hszd : wr.heap.size ≤ d.world.heap.size := HD.out.size
      generalize d.world = wd at *
      clear CA CB ST ne wp1 wp2 r0 r1 r2 r3 RA RB HB HD hown
      generalize hX : dgt D n k + dgt E m k + crr (dgt D n) (dgt E m) k = X at *
      have hX0 : 0 ≤ X ∧ X ≤ 19 := by omega
      clear hX q1 q2 q3
      go_wp2_with (first
        | (at_builtin; refine wpList_append_own _ rfl _ _ 27 rfl (w.heap.size + 2) 3 i0 (.int .i64 0) 1 8 Tryd.underlying27 hi hz0 hz1 hz2 rfl (by decide) _ _ _ rfl (hown1.alloc _) ⟨wd.heap.size, 0, none⟩ 1 1 [.int .i64 (X % 10)] rfl rfl ?c1 ?c2 ?c3 ?c4 ?c5 ?_))
      case c1 =>
        intro j u hj
        match j, hj with
        | 0, hj => simp at hj; subst hj; simp [Addr.add]
      case c2 => intro u hu; simp at hu; subst hu; rfl
      case c3 => unfold maxLen; omega
      case c4 => omega
      case c5 => simp; omega
      intro v' w1 hown' hgrow _
      have hob : ∀ g, u5.ownBlock = some g → w.heap.size + 2 ≤ g := fun g hg => (hown1.lt g hg).1
      have hB1 : Below w.heap.size w w1 := ((hBd.alloc (by omega) _).grown hgrow (by simp; omega) (fun g hg => by have := hob g hg; omega))
      have hBr : Below (w.heap.size + 2) wd w1 := (((Below.refl (w.heap.size + 2) wd).alloc (by omega) _).grown hgrow (by simp; omega) (fun g hg => hob g hg))
      have s0 : w1.cell? ⟨w.heap.size, 0, none⟩ = some (.bool s) := (hBr.cell (p := ⟨w.heap.size, 0, none⟩) (show w.heap.size < w.heap.size + 2 by omega)).trans z0
      have s1 : w1.cell? ⟨w.heap.size, 1, none⟩ = some (.slice a n c) := (hBr.cell (p := ⟨w.heap.size, 1, none⟩) (show w.heap.size < w.heap.size + 2 by omega)).trans z1
      have s2 : w1.cell? ⟨w.heap.size + 1, 0, none⟩ = some (.bool t) := (hBr.cell (p := ⟨w.heap.size + 1, 0, none⟩) (show w.heap.size + 1 < w.heap.size + 2 by omega)).trans z2
      have s3 : w1.cell? ⟨w.heap.size + 1, 1, none⟩ = some (.slice b m d₁) := (hBr.cell (p := ⟨w.heap.size + 1, 1, none⟩) (show w.heap.size + 1 < w.heap.size + 2 by omega)).trans z3
      have hz1' : w.heap.size + 1 < w1.heap.size := cell_lt s2
      rw [← HS.out, ← HU.out] at hown'
      have X5 := Lib.hid (And.intro hown' (And.intro hB1 (And.intro hz1' (And.intro s0 (And.intro s1 (And.intro s2 s3))))))
      clear hown' hgrow hown1 hBd hBr hB1 hob s0 s1 s2 s3 z0 z1 z2 z3
      go_wp2
      go_roundw
      case rel => exact ⟨k + 1, by omega, by go_num, by rw [HC.out], X5.out⟩
      case measure => simp [intOf]; omega
    · have hkk : k = max n m + 1 := by omega
      subst hkk
      obtain ⟨x, y, rfl, hrow, hc, hblk⟩ := row_of_own hown
      have HR := Lib.hid (And.intro hrow (And.intro hc hblk))
      clear hown hrow hc hblk
      go_wp2
      refine bodyPost_ret (v := .slice x (max n m + 1) y) (by simp [results, Tryd.results35, go_sem]) rfl ⟨HB.out, _, _, _, _, rfl, HR.out.1, HR.out.2.1, sd_Dg _ _ _, ?_, fun b off e => by have := HR.out.2.2 b off e; omega⟩
      have e := sd_vs (dgt D n) (dgt E m) (max n m + 1)
      rw [vs_dgt D n _ (by omega), vs_dgt E m _ (by omega)] at e
      have e0 : crr (dgt D n) (dgt E m) (max n m + 1) = 0 := by
        have q := crr_bd (dgt_Ds da) (dgt_Ds db) (max n m)
        have a0 : dgt D n (max n m) = 0 := by unfold dgt; rw [if_neg (by omega)]
        have b0 : dgt E m (max n m) = 0 := by unfold dgt; rw [if_neg (by omega)]
        show (dgt D n (max n m) + dgt E m (max n m) + crr _ _ (max n m)) / 10 = 0
        rw [a0, b0]; omega
      rw [e0] at e; omega
end Go.Proofs.YtehfmapbodjppaaDoor
