/-
  The reference's order of digits: size.
-/
import Derived.Test.YtehfmapbodjppaaDoorRefD
namespace Go.Proofs.YtehfmapbodjppaaDoor
open Go.RowKit
open Go.BigFrame

def sg (x : Int) : Int := if x < 0 then -1 else if x = 0 then 0 else 1
theorem vs_less {A B : Nat → Int} (ha : Ds A) (hb : Ds B) {j K : Nat} (hj : j < K) (he : ∀ i, j < i → A i = B i) (h : A j < B j) : vs A 0 K < vs B 0 K := by
  obtain ⟨l, rfl⟩ : ∃ l, K = (j + 1) + l := ⟨K - (j + 1), by omega⟩
  rw [vs_split A, vs_split B, vs_same (D := A) (E := B) l (0 + (j + 1)) (fun i h1 _ => he i (by omega)), vs_snoc, vs_snoc, Nat.zero_add, Nat.zero_add]
  have b1 := vs_bd (n := j) (D := A) (fun i _ => ha i) j 0 (by omega)
  have b2 := vs_bd (n := j) (D := B) (fun i _ => hb i) j 0 (by omega)
  have p := p10_pos j
  have : p10 j * (A j + 1) ≤ p10 j * B j := Int.mul_le_mul_of_nonneg_left (by omega) (by omega)
  rw [Int.mul_add] at this
  omega
theorem dgt_less {D E : Nat → Int} {n m j : Nat} (da : Dg D n) (db : Dg E m) (hj : j < max n m) (he : ∀ i, j < i → dgt D n i = dgt E m i) :
    (dgt D n j < dgt E m j → vs D 0 n < vs E 0 m) ∧ (dgt E m j < dgt D n j → vs E 0 m < vs D 0 n) := by
  have e1 := vs_dgt D n (max n m) (by omega)
  have e2 := vs_dgt E m (max n m) (by omega)
  constructor
  · intro h
    have := vs_less (dgt_Ds da) (dgt_Ds db) hj he h
    omega
  · intro h
    have := vs_less (dgt_Ds db) (dgt_Ds da) hj (fun i hi => (he i hi).symm) h
    omega
theorem dgt_same {D E : Nat → Int} {n m : Nat} (he : ∀ i, dgt D n i = dgt E m i) : vs D 0 n = vs E 0 m := by
  rw [← vs_dgt D n (max n m) (by omega), ← vs_dgt E m (max n m) (by omega)]
  exact vs_same _ _ (fun i _ _ => he i)

set_option maxRecDepth 100000 in
set_option maxHeartbeats 1000000 in
theorem size_any (s t : Bool) (a b : Option Addr) (n m c d₁ : Nat) (D E : Nat → Int) (w : World) (ra : RowF w a n c D) (rb : RowF w b m d₁ E) (hn : n ≤ 1000000) (hm : m ≤ 1000000) (da : Dg D n) (db : Dg E m) :
    Calls Tryd.prog 36 #[.agg #[.bool s, .slice a n c], .agg #[.bool t, .slice b m d₁]] w fun e w' => e = .returned (.int .i64 (sg (vs D 0 n - vs E 0 m))) ∧ Below w.heap.size w w' := by
  go_enter Tryd.func36, Tryd.ntmps36
  go_wp2_with fail
  go_loopw [5] (fun ix wr => ∃ k : Nat, k ≤ max n m ∧ ix = .int .i64 ((k : Int) - 1) ∧ (∀ j, k ≤ j → dgt D n j = dgt E m j) ∧ Below w.heap.size w wr ∧ w.heap.size + 1 < wr.heap.size ∧ wr.cell? ⟨w.heap.size, 0, none⟩ = some (.bool s) ∧ wr.cell? ⟨w.heap.size, 1, none⟩ = some (.slice a n c) ∧ wr.cell? ⟨w.heap.size + 1, 0, none⟩ = some (.bool t) ∧ wr.cell? ⟨w.heap.size + 1, 1, none⟩ = some (.slice b m d₁))
    (fun ix _ => (intOf ix + 1).toNat)
  case atStart => exact ⟨max n m, by omega, congrArg (Value.int .i64) (by omega), fun j hj => by unfold dgt; rw [if_neg (by omega), if_neg (by omega)], by (repeat (first | exact Below.refl _ _ | assumption | refine Below.drew ?_ | refine below_drewN ?_ _ | refine Below.setCell ?_ (by first | omega | (simp; done) | (simp; omega)) _ | refine Below.alloc ?_ (by first | omega | (simp; done) | (simp; omega)) _)), by simp, by simp, by simp, by simp, by simp⟩
  case round =>
    obtain ⟨k, hk, rfl, heq, hBl, hsz, r0, r1, r2, r3⟩ := hrel
    have HE := Lib.hid heq
    have RA := Lib.hid (ra.keep hBl)
    have RB := Lib.hid (rb.keep hBl)
    have HB := Lib.hid hBl
    have DA := Lib.hid da
    have DB := Lib.hid db
    clear ra rb hBl heq da db
    rcases Nat.eq_zero_or_pos k with hk0 | hk0
    · subst hk0
      go_wp2
      exact bodyPost_ret (v := .int .i64 0) (by simp [results, Tryd.results36, go_sem]) rfl ⟨by rw [dgt_same (fun i => HE.out i (Nat.zero_le _)), Int.sub_self]; rfl, HB.out⟩
    · obtain ⟨j, rfl⟩ : ∃ j, k = j + 1 := ⟨k - 1, by omega⟩
      rw [show ((j + 1 : Nat) : Int) - 1 = (j : Int) from by omega]
      have q := dgt_less DA.out DB.out (j := j) (by omega) (fun i hi => HE.out i hi)
      have HQ := Lib.hid q
      clear q
      have ST := Lib.hid (show Stays (fun W => Below wr.heap.size wr W) from fun W W' h hb => h.trans (hb.mono h.size))
      have CA := Lib.hid (show ∀ x : Of (fun W => Below wr.heap.size wr W), Calls Tryd.prog 43 #[.agg #[.bool s, .slice a n c], .int .i64 j] x.world fun e w'' => e = .returned (.int .i64 (dgt D n j)) ∧ ∃ d' : Of (fun W => Below wr.heap.size wr W), w'' = d'.world from fun x => class_call ST.out x (digit_any s a n c D j _ (RA.out.keep x.holds) (by omega) (by omega)))
      have CB := Lib.hid (show ∀ x : Of (fun W => Below wr.heap.size wr W), Calls Tryd.prog 43 #[.agg #[.bool t, .slice b m d₁], .int .i64 j] x.world fun e w'' => e = .returned (.int .i64 (dgt E m j)) ∧ ∃ d' : Of (fun W => Below wr.heap.size wr W), w'' = d'.world from fun x => class_call ST.out x (digit_any t b m d₁ E j _ (RB.out.keep x.holds) (by omega) (by omega)))
      have ne : Nonempty (Of (fun W => Below wr.heap.size wr W)) := ⟨⟨wr, Below.refl _ _⟩⟩
      have c0 : ∀ d : Of (fun W => Below wr.heap.size wr W), d.world.cell? ⟨w.heap.size, 0, none⟩ = some (.bool s) := fun d => keepc d.holds r0
      have c1 : ∀ d : Of (fun W => Below wr.heap.size wr W), d.world.cell? ⟨w.heap.size, 1, none⟩ = some (.slice a n c) := fun d => keepc d.holds r1
      have c2 : ∀ d : Of (fun W => Below wr.heap.size wr W), d.world.cell? ⟨w.heap.size + 1, 0, none⟩ = some (.bool t) := fun d => keepc d.holds r2
      have c3 : ∀ d : Of (fun W => Below wr.heap.size wr W), d.world.cell? ⟨w.heap.size + 1, 1, none⟩ = some (.slice b m d₁) := fun d => keepc d.holds r3
      clear r0 r1 r2 r3
      go_upto_region 4 with fail
      refine wp_region_class (S := fun W => Below wr.heap.size wr W) (by kernel_rfl) (by kernel_rfl) (Below.refl _ _).drew ?_
      repeat (go_big_quiet_step (first | (go_at_call 43; with_reducible exact CA.out _) | (go_at_call 43; with_reducible exact CB.out _)))
      refine wpQuiet_nil ?_
      rintro _ ⟨x1, rfl⟩
      by_cases h1 : dgt D n j < dgt E m j
      · have z := HQ.out.1 h1
        go_wp2
        exact bodyPost_ret (v := .int .i64 (-1)) (by simp [results, Tryd.results36, go_sem]) rfl ⟨by unfold sg; rw [if_pos (by omega)], HB.out.trans (x1.holds.mono HB.out.size)⟩
      · go_upto_region 6 with fail
        refine wp_region_class (S := fun W => Below wr.heap.size wr W) (by kernel_rfl) (by kernel_rfl) x1.holds.drew ?_
        repeat (go_big_quiet_step (first | (go_at_call 43; with_reducible exact CA.out _) | (go_at_call 43; with_reducible exact CB.out _)))
        refine wpQuiet_nil ?_
        rintro _ ⟨x2, rfl⟩
        by_cases h2 : dgt E m j < dgt D n j
        · have z := HQ.out.2 h2
          go_wp2
          exact bodyPost_ret (v := .int .i64 1) (by simp [results, Tryd.results36, go_sem]) rfl ⟨by unfold sg; rw [if_neg (by omega), if_neg (by omega)], HB.out.trans (x2.holds.mono HB.out.size)⟩
        · have X2 := Lib.hid x2.holds
          have z0 := c0 x2
          have z1 := c1 x2
          have z2 := c2 x2
          have z3 := c3 x2
          clear c0 c1 c2 c3 CA CB ST ne HQ
          go_wp2
          go_roundw
          case rel => exact ⟨j, by omega, rfl, fun i hi => by (rcases Nat.lt_or_ge j i with h | h; exact HE.out i h; rw [show i = j from by omega]; omega), HB.out.trans (X2.out.mono HB.out.size), by have := X2.out.size; omega, z0, z1, z2, z3⟩
          case measure => simp [intOf]
end Go.Proofs.YtehfmapbodjppaaDoor
