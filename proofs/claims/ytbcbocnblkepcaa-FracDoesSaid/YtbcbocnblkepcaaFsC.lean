/-
  Contracts of the reference of package frac: the least of a row; a row in memory of its own.
-/
import Derived.Test.YtbcbocnblkepcaaFsB
import Derived.Test.YtbcbocnblkepcaaAppL
import Derived.Test.YtbcbocnblkepcaaSoG
namespace Go.Proofs.Ytbcbocnblkepcaa
open Go.RowKit

set_option maxRecDepth 100000 in
set_option maxHeartbeats 4000000 in
theorem rleast_any (A : Option Addr) (n c : Nat) (F : Nat → Nat → Int) (w : World) (hr : RowK w A n 2 F) (hn : n ≤ 1000000) :
    Calls Try.prog 14 #[.slice A n c] w fun e w' => e = .returned (.tuple #[.int .i64 (lsF F n), .bool (decide (0 < n))]) ∧ Below w.heap.size w w' := by
  have R := Lib.hid hr
  clear hr
  go_enter Try.func14, Try.ntmps14
  go_wp2_with fail
  go_loopw [4, 5] (fun x y wr => ∃ k : Nat, x = .int .i64 (lsF F k) ∧ y = .int .i64 k ∧ 1 ≤ k ∧ (k ≤ n ∨ (k = 1 ∧ n = 0)) ∧ Below w.heap.size w wr) (fun _ y _ => n - (intOf y).toNat)
  case atStart => exact ⟨1, by rw [show lsF F 1 = 0 from by unfold lsF; split <;> rfl]; rfl, rfl, Nat.le_refl _, by omega, by (repeat (first | exact Below.refl _ _ | assumption | refine Below.drew ?_ | refine below_drewN ?_ _ | refine Below.setCell ?_ (by first | omega | (simp; done) | (simp; omega)) _ | refine Below.alloc ?_ (by first | omega | (simp; done) | (simp; omega)) _))⟩
  case round =>
    obtain ⟨k, rfl, rfl, hk1, hk, hB⟩ := hrel
    by_cases hlt : k < n
    · have hm : lsF F k < n := by have := lsF_le F k; omega
      have hml : (lsF F k : Int) < (n : Int) := by omega
      have hkl : (k : Int) < (n : Int) := by omega
      have C := Lib.hid (fun W => rcmp_any (F k 0) (F k 1) (F (lsF F k) 0) (F (lsF F k) 1) W)
      obtain ⟨b, o, rfl, hb, hc⟩ := (R.out.keep hB).at hlt
      have c0 := hc k hlt 0 (by omega)
      have c1 := hc k hlt 1 (by omega)
      have d0 := hc _ hm 0 (by omega)
      have d1 := hc _ hm 1 (by omega)
      rw [Nat.add_zero] at c0 d0
      rw [← Nat.add_assoc] at c1 d1
      clear hc hb
      have a0 : ∀ d : Of (PastF wr), d.world.cell? ⟨b, o + k * 2, none⟩ = some (.int .i64 (F k 0)) := fun d => keepc d.holds c0
      have a1 : ∀ d : Of (PastF wr), d.world.cell? ⟨b, o + k * 2 + 1, none⟩ = some (.int .i64 (F k 1)) := fun d => keepc d.holds c1
      have a2 : ∀ d : Of (PastF wr), d.world.cell? ⟨b, o + lsF F k * 2, none⟩ = some (.int .i64 (F (lsF F k) 0)) := fun d => keepc d.holds d0
      have a3 : ∀ d : Of (PastF wr), d.world.cell? ⟨b, o + lsF F k * 2 + 1, none⟩ = some (.int .i64 (F (lsF F k) 1)) := fun d => keepc d.holds d1
      have ST := Lib.hid (past_stays wr)
      have ne : Nonempty (Of (PastF wr)) := ⟨⟨wr, Below.refl _ _⟩⟩
      have HBr := Lib.hid hB
      clear c0 c1 d0 d1 hB
      have LZ : Hid ((cmpK F k (lsF F k) < 0 ∧ lsF F (k + 1) = k) ∨ (¬ cmpK F k (lsF F k) < 0 ∧ lsF F (k + 1) = lsF F k)) := by
        by_cases s : cmpK F k (lsF F k) < 0
        · exact Lib.hid (.inl ⟨s, lsF_take F s⟩)
        · exact Lib.hid (.inr ⟨s, lsF_keep F s⟩)
      unfold cmpK at LZ
      generalize cmpF (F k 0) (F k 1) (F (lsF F k) 0) (F (lsF F k) 1) = z at *
      generalize lsF F k = m at *
      generalize F k 0 = p at *
      generalize F k 1 = q at *
      generalize F m 0 = r at *
      generalize F m 1 = s at *
      go_wp2_with fail
      refine wp_region_class (S := PastF wr) (by kernel_rfl) (by kernel_rfl) (Below.refl _ _).drew ?_
      repeat (go_big_quiet_step (first | (go_at_call 22; exact class_call ST.out _ (C.out _))))
      refine wpQuiet_nil ?_
      rintro _ ⟨d, rfl⟩
      have HD := Lib.hid (HBr.out.trans ((show Below wr.heap.size wr d.world from d.holds).mono HBr.out.size))
      clear a0 a1 a2 a3 ne ST
      rcases LZ.out with ⟨h, e⟩ | ⟨h, e⟩
      · have E := Lib.hid e
        clear e LZ
        go_wp2
        go_roundw
        case rel => exact ⟨k + 1, by rw [E.out], by go_num, by omega, .inl hlt, HD.out⟩
        case measure => simp [intOf]; omega
      · have E := Lib.hid e
        clear e LZ
        go_wp2
        go_roundw
        case rel => exact ⟨k + 1, by rw [E.out], by go_num, by omega, .inl hlt, HD.out⟩
        case measure => simp [intOf]; omega
    · have e : lsF F k = lsF F n := by
        rcases hk with hk | ⟨rfl, rfl⟩
        · rw [show k = n from by omega]
        · unfold lsF; split <;> rfl
      have E := Lib.hid e
      clear e
      go_wp2
      go_ret2
      exact ⟨by rw [← E.out]; congr, hB⟩

/-- What Own leaves. -/
def OwnPost (F : Nat → Nat → Int) (n : Nat) (w : World) (e : Ending) (w' : World) : Prop :=
  ∃ (A : Option Addr) (c : Nat), e = .returned (.slice A n c) ∧ (A = none → n = 0 ∧ c = 0) ∧ n ≤ c ∧ c ≤ 9223372036854775807 ∧ Below w.heap.size w w' ∧ RowK w' A n 2 F
set_option maxRecDepth 100000 in
theorem rown_any (A : Option Addr) (n c : Nat) (F : Nat → Nat → Int) (w : World) (hA : A = none → n = 0 ∧ c = 0) (hr : RowK w A n 2 F) (hn : n ≤ 1000000) :
    Calls Try.prog 8 #[.slice A n c] w (OwnPost F n w) := by
  have R := Lib.hid hr
  clear hr
  go_enter Try.func8, Try.ntmps8
  obtain ⟨i0, hi, hz0, hz1, hz2⟩ := info_parts infoF
  go_wp2_with (first
    | (at_builtin; refine wpList_append_rowk rfl _ _ 24 rfl w.heap.size 23 i0 _ 2 16 Try.underlying24 hi hz0 hz1 hz2 rfl (by decide) A n c F rfl rfl hA R.out ?c3 ?c4 (Nat.le_refl _) ?_))
  case c3 => unfold maxLen; omega
  case c4 => omega
  intro A' c' w' h1 h2 h3 h4 h5
  have H := Lib.hid (And.intro h1 (And.intro h2 (And.intro h3 (And.intro h5 h4))))
  clear h1 h2 h3 h4 h5
  go_wp2
  go_ret
  exact ⟨A', c', rfl, H.out⟩
end Go.Proofs.Ytbcbocnblkepcaa
