/-
  The law WideMakes: what both sides answer; a row of Wides of the call's own; the law's walk.
-/
import Derived.Test.YtjndajndllimhaaDoorWideG
import Derived.Test.YtjndajndllimhaaDoorRefT
import Derived.Test.YtjndajndllimhaaDoorRefP
import Derived.Test.YtjndajndllimhaaDoorOpenK
import Derived.Test.YtjndajndllimhaaDoorWideR
import Derived.Maps.AppendAt
namespace Go.Proofs.YtjndajndllimhaaDoor
open Go.RowKit Go.BigFrame

theorem mul_two (a b : Int) : ∃ h l x : Int, (∀ W, Calls Tryd.prog 5 #[.int .i64 a, .int .i64 b] W fun e w' => e = .returned (.tuple #[.agg #[.int .i64 h, .int .i64 l], .int .i64 x]) ∧ Below W.heap.size W w') ∧
    ∀ W, Calls Tryd.prog 6 #[.int .i64 a, .int .i64 b] W fun e w' => e = .returned (.tuple #[.agg #[.int .i64 h, .int .i64 l], .int .i64 x]) ∧ Below W.heap.size W w' := by
  by_cases k : Fac a
  · by_cases j : Fac b
    · have ka := k
      have kb := j
      unfold Fac at ka kb
      have bd := mul_bd (p := 1000000000000000000) (q := 1000000000000000000) (x := a) (y := b) (by omega) (by omega) (by omega) (by omega) (by omega) (by omega)
      have hf : fits (a * b) = true := by unfold fits isB; rw [decide_eq_true]; unfold Rt; omega
      exact ⟨_, _, 0, fun W => mul_ok a b W k j, fun W => rmul_ok a b W k j _ _ _ ⟨fun _ => ⟨rfl, rfl, rfl⟩, (fun h => by rw [hf] at h; cases h)⟩⟩
    · exact ⟨0, 0, 2, fun W => mul_no2 a b W k j, fun W => rmul_no a b W fun h => j h.2⟩
  · exact ⟨0, 0, 2, fun W => mul_no1 a b W k, fun W => rmul_no a b W fun h => k h.1⟩
theorem neg_two (hi lo : Int) : ∃ h l x : Int, (∀ W, Calls Tryd.prog 9 #[.agg #[.int .i64 hi, .int .i64 lo]] W fun e w' => e = .returned (.tuple #[.agg #[.int .i64 h, .int .i64 l], .int .i64 x]) ∧ Below W.heap.size W w') ∧
    ∀ W, Calls Tryd.prog 10 #[.agg #[.int .i64 hi, .int .i64 lo]] W fun e w' => e = .returned (.tuple #[.agg #[.int .i64 h, .int .i64 l], .int .i64 x]) ∧ Below W.heap.size W w' := by
  by_cases k : Rt hi lo
  · have e : ngH hi lo = -(hi * 1000000000000000000 + lo) / 1000000000000000000 ∧ ngL lo = -(hi * 1000000000000000000 + lo) % 1000000000000000000 := by
      unfold Rt at k; unfold ngH ngL; constructor <;> (repeat split) <;> omega
    by_cases j : Rt (ngH hi lo) (ngL lo)
    · have hf : fits (-(hi * 1000000000000000000 + lo)) = true := by unfold fits isB; rw [← e.1, ← e.2]; exact decide_eq_true j
      exact ⟨_, _, 0, fun W => neg_ok hi lo W k j, fun W => rneg_ok hi lo W k _ _ _ ⟨fun _ => ⟨e.1, e.2, rfl⟩, (fun h => by rw [hf] at h; cases h)⟩⟩
    · have hf : fits (-(hi * 1000000000000000000 + lo)) = false := by unfold fits isB; rw [← e.1, ← e.2]; exact decide_eq_false j
      exact ⟨0, 0, 4, fun W => neg_wide hi lo W k j, fun W => rneg_ok hi lo W k _ _ _ ⟨(fun h => by rw [hf] at h; cases h), fun _ => ⟨rfl, rfl, rfl⟩⟩⟩
  · exact ⟨0, 0, 1, fun W => neg_arg hi lo W (decide_eq_false k), fun W => rneg_no hi lo W (decide_eq_false k)⟩

theorem add_nil (A : Option Addr) (c : Nat) (w : World) : Calls Tryd.prog 7 #[.slice A 0 c] w fun e w' => e = .returned (.tuple #[.agg #[.int .i64 0, .int .i64 0], .int .i64 0]) ∧ Below w.heap.size w w' := by
  go_enter Tryd.func7, Tryd.ntmps7
  go_wp2_with fail
  go_loop [11] (fun i => i = .int .i64 0) (fun _ => 0)
  case atStart => rfl
  case round =>
    subst hrel
    go_wp2_with fail
    go_loop [23] (fun i => i = .int .i64 0) (fun _ => 0)
    case atStart => rfl
    case round =>
      subst hrel
      go_wp2_with fail
      exact bodyPost_ret (v := .tuple #[.agg #[.int .i64 0, .int .i64 0], .int .i64 0]) (by simp [results, Tryd.results7, go_sem]) rfl ⟨rfl, by (repeat (first | exact Below.refl _ _ | assumption | refine Below.drew ?_ | refine below_drewN ?_ _ | refine Below.setCell ?_ (by first | omega | (simp; done) | (simp; omega)) _ | refine Below.alloc ?_ (by first | omega | (simp; done) | (simp; omega)) _))⟩
theorem radd_nil (A : Option Addr) (c : Nat) (w : World) : Calls Tryd.prog 8 #[.slice A 0 c] w fun e w' => e = .returned (.tuple #[.agg #[.int .i64 0, .int .i64 0], .int .i64 0]) ∧ Below w.heap.size w w' := by
  go_enter Tryd.func8, Tryd.ntmps8
  go_wp2_with fail
  go_loop [4] (fun i => i = .int .i64 0) (fun _ => 0)
  case atStart => rfl
  case round =>
    subst hrel
    go_wp2_with fail
    go_loop [6] (fun i => i = .int .i64 0) (fun _ => 0)
    case atStart => rfl
    case round =>
      subst hrel
      go_wp2_with fail
      exact bodyPost_ret (v := .tuple #[.agg #[.int .i64 0, .int .i64 0], .int .i64 0]) (by simp [results, Tryd.results8, go_sem]) rfl ⟨rfl, by (repeat (first | exact Below.refl _ _ | assumption | refine Below.drew ?_ | refine below_drewN ?_ _ | refine Below.setCell ?_ (by first | omega | (simp; done) | (simp; omega)) _ | refine Below.alloc ?_ (by first | omega | (simp; done) | (simp; omega)) _))⟩
theorem add_two (n : Nat) (F : Nat → Nat → Int) (hn : n ≤ 9223372036854775807) : ∃ h l x : Int, (∀ W a c, RowK W a n 2 F → Calls Tryd.prog 7 #[.slice a n c] W fun e w' => e = .returned (.tuple #[.agg #[.int .i64 h, .int .i64 l], .int .i64 x]) ∧ Below W.heap.size W w') ∧
    ∀ W a c, RowK W a n 2 F → Calls Tryd.prog 8 #[.slice a n c] W fun e w' => e = .returned (.tuple #[.agg #[.int .i64 h, .int .i64 l], .int .i64 x]) ∧ Below W.heap.size W w' := by
  rcases Nat.eq_zero_or_pos n with rfl | hp
  · exact ⟨0, 0, 0, fun W a c _ => add_nil a c W, fun W a c _ => radd_nil a c W⟩
  · have key : ∀ W a, RowK W a n 2 F → ∃ b off, a = some ⟨b, off, none⟩ ∧ ∀ i, i < n → W.cell? ⟨b, off + i * 2, none⟩ = some (.int .i64 (F i 0)) ∧ W.cell? ⟨b, off + i * 2 + 1, none⟩ = some (.int .i64 (F i 1)) := by
      intro W a h
      obtain ⟨b, off, ha, _, hc⟩ := h.at hp
      exact ⟨b, off, ha, fun i hi => ⟨hc i hi 0 (by omega), hc i hi 1 (by omega)⟩⟩
    have fin : ∃ h l x : Int, ∀ w e w', AddPost (fun i => F i 0) (fun i => F i 1) n w e w' → e = .returned (.tuple #[.agg #[.int .i64 h, .int .i64 l], .int .i64 x]) ∧ Below w.heap.size w w' := by
      by_cases hr : AllR (fun i => F i 0) (fun i => F i 1) n
      · by_cases hs : AllS (fun i => F i 0) (fun i => F i 1) n
        · refine ⟨(sumTo (fun i => F i 0) (fun i => F i 1) n).1, (sumTo (fun i => F i 0) (fun i => F i 1) n).2, 0, fun w e w' h => ?_⟩
          obtain ⟨hb, ⟨h, _⟩ | ⟨_, h, _⟩ | ⟨_, _, rfl⟩⟩ := h
          · exact absurd hr h
          · exact absurd hs h
          · exact ⟨rfl, hb⟩
        · refine ⟨0, 0, 4, fun w e w' h => ?_⟩
          obtain ⟨hb, ⟨h, _⟩ | ⟨_, _, rfl⟩ | ⟨_, h, _⟩⟩ := h
          · exact absurd hr h
          · exact ⟨rfl, hb⟩
          · exact absurd h hs
      · refine ⟨0, 0, 1, fun w e w' h => ?_⟩
        obtain ⟨hb, ⟨_, rfl⟩ | ⟨h, _⟩ | ⟨h, _⟩⟩ := h
        · exact ⟨rfl, hb⟩
        · exact absurd h hr
        · exact absurd h hr
    obtain ⟨h, l, x, hx⟩ := fin
    refine ⟨h, l, x, fun W a c hr => ?_, fun W a c hr => ?_⟩
    · obtain ⟨b, off, rfl, hc⟩ := key W a hr
      exact (add_any _ _ b off n c W hn hc).mono fun e w' q => hx W e w' q
    · obtain ⟨b, off, rfl, hc⟩ := key W a hr
      exact (radd_any _ _ b off n c W hn hc).mono fun e w' q => hx W e w' q
end Go.Proofs.YtjndajndllimhaaDoor
