/-
  The reference's sums of digits: minus, size.
-/
import Derived.Test.YtehfmapbodjppaaDoorRefC
namespace Go.Proofs.YtehfmapbodjppaaDoor
open Go.RowKit
open Go.BigFrame

/-- The borrow out of a place, and the digit there. -/
def brr (A B : Nat → Int) : Nat → Int
  | 0 => 0
  | i + 1 => if A i - B i - brr A B i < 0 then 1 else 0
def rd (A B : Nat → Int) (i : Nat) : Int := (A i - B i - brr A B i) % 10
theorem brr_bd (A B : Nat → Int) (i : Nat) : 0 ≤ brr A B i ∧ brr A B i ≤ 1 := by
  cases i with
  | zero => exact ⟨Int.le_refl _, by show (0 : Int) ≤ 1; omega⟩
  | succ i => unfold brr; split <;> omega
theorem rd_Dg (A B : Nat → Int) (n : Nat) : Dg (rd A B) n := fun i _ => by unfold rd; omega
theorem rd_vs {A B : Nat → Int} (ha : Ds A) (hb : Ds B) (k : Nat) : vs (rd A B) 0 k - p10 k * brr A B k = vs A 0 k - vs B 0 k := by
  induction k with
  | zero => show 0 - 1 * 0 = (0 : Int) - 0; omega
  | succ k ih =>
    rw [vs_snoc, vs_snoc, vs_snoc, Nat.zero_add]
    have q1 := ha k; have q2 := hb k; have q3 := brr_bd A B k
    have e : rd A B k - 10 * brr A B (k + 1) = A k - B k - brr A B k := by
      show (A k - B k - brr A B k) % 10 - 10 * (if A k - B k - brr A B k < 0 then 1 else 0) = _
      split <;> omega
    have e2 : p10 (k + 1) * brr A B (k + 1) = p10 k * (10 * brr A B (k + 1)) := by
      show 10 * p10 k * _ = _; rw [Int.mul_comm 10, Int.mul_assoc]
    have e3 : p10 k * rd A B k - p10 k * (10 * brr A B (k + 1)) = p10 k * A k - p10 k * B k - p10 k * brr A B k := by
      rw [← Int.mul_sub, e, Int.mul_sub, Int.mul_sub]
    rw [e2]; omega
/-- Where the first is not the less one, nothing is left to borrow, and the second's digits lie in the first's places. -/
theorem rd_all {D E : Nat → Int} {n m : Nat} (da : Dg D n) (db : Dg E m) (h : vs E 0 m ≤ vs D 0 n) : vs (rd (dgt D n) (dgt E m)) 0 n = vs D 0 n - vs E 0 m := by
  have e := rd_vs (dgt_Ds da) (dgt_Ds db) n
  rw [vs_dgt D n n (Nat.le_refl _)] at e
  have b1 := vs_bd da n 0 (by omega)
  have b2 := vs_bd (rd_Dg (dgt D n) (dgt E m) n) n 0 (by omega)
  have hE : vs (dgt E m) 0 n = vs E 0 m := by
    have f := vs_split (dgt E m) m n 0
    rw [Nat.zero_add] at f
    have g := vs_dgt E m (n + m) (by omega)
    rw [f] at g
    have b3 := vs_bd (n := n) (D := dgt E m) (fun i _ => dgt_Ds db i) n 0 (by omega)
    have b4 := vs_bd (n := n + m) (D := dgt E m) (fun i _ => dgt_Ds db i) m n (by omega)
    have p := p10_pos n
    have : vs (dgt E m) n m = 0 := by
      rcases Int.lt_or_le 0 (vs (dgt E m) n m) with q | q
      · have : p10 n * 1 ≤ p10 n * vs (dgt E m) n m := Int.mul_le_mul_of_nonneg_left (by omega) (by omega)
        omega
      · omega
    rw [this] at g; omega
  rw [hE] at e
  have q := brr_bd (dgt D n) (dgt E m) n
  have : brr (dgt D n) (dgt E m) n = 0 ∨ brr (dgt D n) (dgt E m) n = 1 := by omega
  rcases this with z | z
  · rw [z] at e; omega
  · rw [z] at e; omega

set_option maxRecDepth 100000 in
set_option maxHeartbeats 1000000 in
theorem minus_any (s t : Bool) (a b : Option Addr) (n m c d₁ : Nat) (D E : Nat → Int) (w : World) (ra : RowF w a n c D) (rb : RowF w b m d₁ E) (hn : n ≤ 1000000) (hm : m ≤ 1000000) (da : Dg D n) (db : Dg E m) (hle : vs E 0 m ≤ vs D 0 n) :
    Calls Tryd.prog 37 #[.agg #[.bool s, .slice a n c], .agg #[.bool t,   .slice b m d₁]] w (RetRow (vs D 0 n - vs E 0 m) w) := by
  obtain ⟨i0, hi, hz0, hz1, hz2⟩ := info_parts infoI
  have hA := dgt_Ds da
  have hB := dgt_Ds db
  go_enter Tryd.func37, Tryd.ntmps37
  go_wp2_with fail
  go_loopw [5, 6, 7] (fun v cr ix wr => ∃ k : Nat, k ≤ n ∧ ix = .int .i64 k ∧ cr = .int .i64 (brr (dgt D n) (dgt E m) k) ∧ wr.ownsRow (w.heap.size + 2) 3 1 v k (upto (rd (dgt D n) (dgt E m)) k) ∧ Below w.heap.size w wr ∧ w.heap.size + 1 < wr.heap.size ∧ wr.cell? ⟨w.heap.size, 0, none⟩ = some (.bool s) ∧ wr.cell? ⟨w.heap.size, 1, none⟩ = some (.slice a n c) ∧ wr.cell? ⟨w.heap.size + 1, 0, none⟩ = some (.bool t) ∧ wr.cell? ⟨w.heap.size + 1, 1, none⟩ = some (.slice b m d₁))
    (fun _ _ ix _ => n - (intOf ix).toNat)
  case atStart => exact ⟨0, by omega, rfl, rfl, World.ownsRow_nil _ _ _ _, by (repeat (first | exact Below.refl _ _ | assumption | refine Below.drew ?_ | refine below_drewN ?_ _ | refine Below.setCell ?_ (by first | omega | (simp; done) | (simp; omega)) _ | refine Below.alloc ?_ (by first | omega | (simp; done) | (simp; omega)) _)), by simp, by simp, by simp, by simp, by simp⟩
  case round =>
    obtain ⟨k, hk, rfl, rfl, hown, hBl, hsz, r0, r1, r2, r3⟩ := hrel
    have q1 := hA k
    have q2 := hB k
    have q3 := brr_bd (dgt D n) (dgt E m) k
    have HS := Lib.hid (show rd (dgt D n) (dgt E m) k = (dgt D n k - dgt E m k - brr (dgt D n) (dgt E m) k) % 10 from rfl)
    have HC := Lib.hid (show brr (dgt D n) (dgt E m) (k + 1) = if dgt D n k - dgt E m k - brr (dgt D n) (dgt E m) k < 0 then 1 else 0 from rfl)
    have HU := Lib.hid (upto_succ (rd (dgt D n) (dgt E m)) k)
    have RA := Lib.hid ra
    have RB := Lib.hid rb
    have HB := Lib.hid hBl
    clear ra rb hA hB hBl
    by_cases hlt : k < n
    · go_upto_region 6 with fail
      have wp1 : IntKind.i64.wrap (dgt D n k - dgt E m k) = dgt D n k - dgt E m k := IntWalk.i64_in _ (by omega)
      have wp2 : IntKind.i64.wrap (dgt D n k - dgt E m k - brr (dgt D n) (dgt E m) k) = dgt D n k - dgt E m k - brr (dgt D n) (dgt E m) k := IntWalk.i64_in _ (by omega)
      have ST := Lib.hid (show Stays (fun W => Below wr.heap.size wr W) from fun W W' h hb => h.trans (hb.mono h.size))
      have CA := Lib.hid (show ∀ x : Of (fun W => Below wr.heap.size wr W), Calls Tryd.prog 43 #[.agg #[.bool s, .slice a n c], .int .i64 k] x.world fun e w'' => e = .returned (.int .i64 (dgt D n k)) ∧ ∃ d' : Of (fun W => Below wr.heap.size wr W), w'' = d'.world from fun x => class_call ST.out x (digit_any s a n c D k _ ((RA.out.keep HB.out).keep x.holds) (by omega) (by omega)))
      have CB := Lib.hid (show ∀ x : Of (fun W => Below wr.heap.size wr W), Calls Tryd.prog 43 #[.agg #[.bool t, .slice b m d₁], .int .i64 k] x.world fun e w'' => e = .returned (.int .i64 (dgt E m k)) ∧ ∃ d' : Of (fun W => Below wr.heap.size wr W), w'' = d'.world from fun x => class_call ST.out x (digit_any t b m d₁ E k _ ((RB.out.keep HB.out).keep x.holds) (by omega) (by omega)))
      have ne : Nonempty (Of (fun W => Below wr.heap.size wr W)) := ⟨⟨wr, Below.refl _ _⟩⟩
      have c0 : ∀ d : Of (fun W => Below wr.heap.size wr W), d.world.cell? ⟨w.heap.size, 0, none⟩ = some (.bool s) := fun d => keepc d.holds r0
      have c1 : ∀ d : Of (fun W => Below wr.heap.size wr W), d.world.cell? ⟨w.heap.size, 1, none⟩ = some (.slice a n c) := fun d => keepc d.holds r1
      have c2 : ∀ d : Of (fun W => Below wr.heap.size wr W), d.world.cell? ⟨w.heap.size + 1, 0, none⟩ = some (.bool t) := fun d => keepc d.holds r2
      have c3 : ∀ d : Of (fun W => Below wr.heap.size wr W), d.world.cell? ⟨w.heap.size + 1, 1, none⟩ = some (.slice b m d₁) := fun d => keepc d.holds r3
      refine wp_region_class (S := fun W => Below wr.heap.size wr W) (by kernel_rfl) (by kernel_rfl) (Below.refl _ _).drew ?_
      repeat (go_big_quiet_step (first | (go_at_call 43; with_reducible exact CA.out _) | (go_at_call 43; with_reducible exact CB.out _)))
      refine wpQuiet_nil ?_
      rintro _ ⟨d, rfl⟩
      have HD := Lib.hid d.holds
      have z0 := c0 d
      have z1 := c1 d
      have z2 := c2 d
      have z3 := c3 d
      clear c0 c1 c2 c3
      have hown1 := own_keep hown HD.out
      have hBd : Below w.heap.size w d.world := HB.out.trans (HD.out.mono (by omega))
      have hszd : wr.heap.size ≤ d.world.heap.size := HD.out.size
      generalize d.world = wd at *
      clear CA CB ST ne wp1 wp2 r0 r1 r2 r3 RA RB HB HD hown
      generalize hX : dgt D n k - dgt E m k - brr (dgt D n) (dgt E m) k = X at *
      have hX0 : -10 ≤ X ∧ X ≤ 9 := by omega
      clear hX q1 q2 q3
      by_cases hx : X < 0
      · have HC1 : brr (dgt D n) (dgt E m) (k + 1) = 1 := by rw [HC.out, if_pos hx]
        go_wp2_with (first
          | (at_builtin; refine wpList_append_own _ rfl _ _ 27 rfl (w.heap.size + 2) 3 i0 (.int .i64 0) 1 8 Tryd.underlying27 hi hz0 hz1 hz2 rfl (by decide) _ _ _ rfl (hown1.alloc _) ⟨wd.heap.size, 0, none⟩ 1 1 [.int .i64 (X + 10)] rfl rfl ?c1 ?c2 ?c3 ?c4 ?c5 ?_))
        case c1 =>
          intro j u hj
          match j, hj with
          | 0, hj => simp at hj; subst hj; simp [Addr.add]
        case c2 => intro u hu; simp at hu; subst hu; rfl
        case c3 => unfold maxLen; omega
        case c4 => omega
        case c5 => simp; omega
        intro v' w1 hown' hgrow _
        have hob : ∀ g, u5.ownBlock = some g → w.heap.size + 2 ≤ g := fun g hg => (hown1.lt g hg).1
        have hB1 : Below w.heap.size w w1 := ((hBd.alloc (by omega) _).grown hgrow (by simp; omega) (fun g hg => by have := hob g hg; omega))
        have hBr : Below (w.heap.size + 2) wd w1 := (((Below.refl (w.heap.size + 2) wd).alloc (by omega) _).grown hgrow (by simp; omega) (fun g hg => hob g hg))
        have s0 : w1.cell? ⟨w.heap.size, 0, none⟩ = some (.bool s) := (hBr.cell (p := ⟨w.heap.size, 0, none⟩) (show w.heap.size < w.heap.size + 2 by omega)).trans z0
        have s1 : w1.cell? ⟨w.heap.size, 1, none⟩ = some (.slice a n c) := (hBr.cell (p := ⟨w.heap.size, 1, none⟩) (show w.heap.size < w.heap.size + 2 by omega)).trans z1
        have s2 : w1.cell? ⟨w.heap.size + 1, 0, none⟩ = some (.bool t) := (hBr.cell (p := ⟨w.heap.size + 1, 0, none⟩) (show w.heap.size + 1 < w.heap.size + 2 by omega)).trans z2
        have s3 : w1.cell? ⟨w.heap.size + 1, 1, none⟩ = some (.slice b m d₁) := (hBr.cell (p := ⟨w.heap.size + 1, 1, none⟩) (show w.heap.size + 1 < w.heap.size + 2 by omega)).trans z3
        have hz1' : w.heap.size + 1 < w1.heap.size := cell_lt s2
        rw [show X + 10 = X % 10 from by omega, ← HS.out, ← HU.out] at hown'
        have X5 := Lib.hid (And.intro hown' (And.intro hB1 (And.intro hz1' (And.intro s0 (And.intro s1 (And.intro s2 s3))))))
        clear hown' hgrow hown1 hBd hBr hB1 hob s0 s1 s2 s3 z0 z1 z2 z3
        go_wp2
        go_roundw
        case rel => exact ⟨k + 1, by omega, by go_num, by rw [HC1], X5.out⟩
        case measure => simp [intOf]; omega
      · have HC1 : brr (dgt D n) (dgt E m) (k + 1) = 0 := by rw [HC.out, if_neg hx]
        go_wp2_with (first
          | (at_builtin; refine wpList_append_own _ rfl _ _ 27 rfl (w.heap.size + 2) 3 i0 (.int .i64 0) 1 8 Tryd.underlying27 hi hz0 hz1 hz2 rfl (by decide) _ _ _ rfl (hown1.alloc _) ⟨wd.heap.size, 0, none⟩ 1 1 [.int .i64 X] rfl rfl ?c1 ?c2 ?c3 ?c4 ?c5 ?_))
        case c2 => rfl
        case c3 => unfold maxLen; omega
        case c4 => omega
        case c5 => omega
        intro v' w1 hown' hgrow _
        have hob : ∀ g, u5.ownBlock = some g → w.heap.size + 2 ≤ g := fun g hg => (hown1.lt g hg).1
        have hB1 : Below w.heap.size w w1 := ((hBd.alloc (by omega) _).grown hgrow (by simp; omega) (fun g hg => by have := hob g hg; omega))
        have hBr : Below (w.heap.size + 2) wd w1 := (((Below.refl (w.heap.size + 2) wd).alloc (by omega) _).grown hgrow (by simp; omega) (fun g hg => hob g hg))
        have s0 : w1.cell? ⟨w.heap.size, 0, none⟩ = some (.bool s) := (hBr.cell (p := ⟨w.heap.size, 0, none⟩) (show w.heap.size < w.heap.size + 2 by omega)).trans z0
        have s1 : w1.cell? ⟨w.heap.size, 1, none⟩ = some (.slice a n c) := (hBr.cell (p := ⟨w.heap.size, 1, none⟩) (show w.heap.size < w.heap.size + 2 by omega)).trans z1
        have s2 : w1.cell? ⟨w.heap.size + 1, 0, none⟩ = some (.bool t) := (hBr.cell (p := ⟨w.heap.size + 1, 0, none⟩) (show w.heap.size + 1 < w.heap.size + 2 by omega)).trans z2
        have s3 : w1.cell? ⟨w.heap.size + 1, 1, none⟩ = some (.slice b m d₁) := (hBr.cell (p := ⟨w.heap.size + 1, 1, none⟩) (show w.heap.size + 1 < w.heap.size + 2 by omega)).trans z3
        have hz1' : w.heap.size + 1 < w1.heap.size := cell_lt s2
        rw [show X = X % 10 from by omega, ← HS.out, ← HU.out] at hown'
        have X5 := Lib.hid (And.intro hown' (And.intro hB1 (And.intro hz1' (And.intro s0 (And.intro s1 (And.intro s2 s3))))))
        clear hown' hgrow hown1 hBd hBr hB1 hob s0 s1 s2 s3 z0 z1 z2 z3
        go_wp2
        go_roundw
        case rel => exact ⟨k + 1, by omega, by go_num, by rw [HC1], X5.out⟩
        case measure => simp [intOf]; omega
    · have hkk : k = n := by omega
      subst hkk
      obtain ⟨x, y, rfl, hrow, hc, hblk⟩ := row_of_own hown
      have HR := Lib.hid (And.intro hrow (And.intro hc hblk))
      clear hown hrow hc hblk
      go_wp2
      refine bodyPost_ret (v := .slice x k y) (by simp [results, Tryd.results37, go_sem]) rfl ⟨HB.out, _, _, _, _, rfl, HR.out.1, HR.out.2.1, rd_Dg _ _ _, ?_, fun b off e => by have := HR.out.2.2 b off e; omega⟩
      exact rd_all da db hle
end Go.Proofs.YtehfmapbodjppaaDoor
