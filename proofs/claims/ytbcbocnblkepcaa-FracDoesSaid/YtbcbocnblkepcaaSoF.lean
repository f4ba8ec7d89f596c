/-
  The library's stable sort over a row of at most 39 places.
-/
import Derived.Test.YtbcbocnblkepcaaSoE
namespace Go.Proofs.Ytbcbocnblkepcaa
open Go.RowKit

theorem ins_any (w0 : World) (g n cap : Nat) (c : Nat → Nat → Int) (T : Tot c) (V : Value) (C : CmpOK w0 n c V) (D0 : Nat → Nat) (a b : Nat) (A B : Int) (w : World) (h : PW w0 g n D0 w) (hn : n ≤ 1000000) (ha : a ≤ n) (hb : b ≤ n) (hd : DB D0 n) (h0 : ∀ t, a ≤ t → t < b → D0 t = t) (eA : A = a) (eB : B = b) :
    Calls Try.prog 55 #[.slice (some ⟨g, 0, none⟩) n cap, .int .i64 A, .int .i64 B, .func (.func 27) #[V] #[]] w fun e w' => e = .returned (.tuple #[]) ∧ ∃ D, Pm a b D0 D ∧ Srt c D a b ∧ PW w0 g n D w' := by
  subst eA eB
  by_cases q : a < b
  · exact insertion_ok w0 g n cap c T V C D0 a b w h hn q hb hd h0
  · exact (insertion_none n cap _ a b _ w (by omega) (by omega)).mono fun e w' ⟨he, hw⟩ => ⟨he, D0, Pm.refl _ _ _, Srt.tiny c D0 (by omega), by rw [hw]; exact h⟩

set_option maxRecDepth 100000 in
set_option maxHeartbeats 4000000 in
theorem stable_few (w0 : World) (g n cap : Nat) (c : Nat → Nat → Int) (T : Tot c) (V : Value) (C : CmpOK w0 n c V) (D0 : Nat → Nat) (w : World) (h : PW w0 g n D0 w) (hn : n < 20) (h0 : ∀ t, t < n → D0 t = t) :
    Calls Try.prog 47 #[.slice (some ⟨g, 0, none⟩) n cap, .int .i64 n, .func (.func 27) #[V] #[]] w fun e w' => e = .returned (.tuple #[]) ∧ ∃ D, Pm 0 n D0 D ∧ Srt c D 0 n ∧ PW w0 g n D w' := by
  have I := Lib.hid (ins_any w0 g n cap c T V C D0 0 n 0 n w h (by omega) (by omega) (Nat.le_refl _) (fun t ht => by rw [h0 t ht]; exact ht) (fun t _ ht => h0 t ht) rfl rfl)
  clear h T C h0
  have d1 : ¬ (20 : Int) ≤ (n : Int) := by omega
  have d2 : ¬ (20 : Int) < (n : Int) := by omega
  go_enter Try.func47, Try.ntmps47
  go_wp2_with fail
  refine wp_loop_rounds 1 ?_
  rw [rounds_succ]
  go_wp2_with fail
  ((with_reducible refine (I.out).mono ?_); rintro e w1 ⟨rfl, D, p1, s1, hP1⟩)
  have HP := Lib.hid (And.intro p1 (And.intro s1 hP1))
  clear p1 s1 hP1
  go_wp2_with fail
  refine wp_loop_rounds 1 ?_
  rw [rounds_succ]
  go_wp2
  go_end0
  exact ⟨rfl, D, HP.out⟩

set_option maxRecDepth 100000 in
set_option maxHeartbeats 4000000 in
theorem stable_more (w0 : World) (g n cap : Nat) (c : Nat → Nat → Int) (T : Tot c) (V : Value) (C : CmpOK w0 n c V) (D0 : Nat → Nat) (w : World) (h : PW w0 g n D0 w) (hn : 20 ≤ n) (hn2 : n < 40) (h0 : ∀ t, t < n → D0 t = t) :
    Calls Try.prog 47 #[.slice (some ⟨g, 0, none⟩) n cap, .int .i64 n, .func (.func 27) #[V] #[]] w fun e w' => e = .returned (.tuple #[]) ∧ ∃ D, Pm 0 n D0 D ∧ Srt c D 0 n ∧ PW w0 g n D w' := by
  have hd0 : DB D0 n := fun t ht => by rw [h0 t ht]; exact ht
  have I := Lib.hid (ins_any w0 g n cap c T V C D0 0 20 0 20 w h (by omega) (by omega) hn hd0 (fun t _ ht => h0 t (by omega)) rfl rfl)
  have J := Lib.hid (fun (D : Nat → Nat) (W : World) (p : Pm 0 20 D0 D) (hP : PW w0 g n D W) => ins_any w0 g n cap c T V C D 20 n 20 n W hP (by omega) hn (Nat.le_refl _) (hd0.pm p hn) (fun t h1 h2 => by rw [p.out (.inr h1)]; exact h0 t h2) rfl rfl)
  have K := Lib.hid (fun (E : Nat → Nat) (W : World) (q : 20 < n) (hP : PW w0 g n E W) (hd : DB E n) (P : Par c E 0 20 n) => sym_ok w0 g n cap c T V C (by omega) n 0 20 n E W 0 20 n (by omega) hP (by omega) q (Nat.le_refl _) hd P rfl rfl rfl)
  have HD := Lib.hid hd0
  have H0 := Lib.hid h0
  clear h T C h0 hd0
  have d1 : (20 : Int) ≤ (n : Int) := by omega
  have d2 : ¬ (40 : Int) ≤ (n : Int) := by omega
  have d3 : ¬ (40 : Int) < (n : Int) := by omega
  go_enter Try.func47, Try.ntmps47
  go_wp2_with fail
  refine wp_loop_rounds 2 ?_
  rw [rounds_succ]
  go_wp2_with fail
  ((with_reducible refine (I.out).mono ?_); rintro e w1 ⟨rfl, D, p1, s1, hP1⟩)
  have P1 := Lib.hid p1
  have S1 := Lib.hid s1
  have JJ := Lib.hid (J.out D w1 p1 hP1)
  clear p1 s1 hP1
  go_wp2_with fail
  rw [rounds_succ]
  go_wp2_with fail
  ((with_reducible refine (JJ.out).mono ?_); rintro e w2 ⟨rfl, E, p2, s2, hP2⟩)
  have P2 := Lib.hid p2
  have S2 := Lib.hid s2
  have HW := Lib.hid hP2
  have PE := Lib.hid ((P1.out.mono (Nat.le_refl _) hn).trans (p2.mono (by omega) (Nat.le_refl _)))
  have PP : Hid (Par c E 0 20 n) := Lib.hid ⟨fun s t h1 h2 h3 => by rw [p2.out (.inl (by omega)), p2.out (.inl h3)]; exact S1.out s t h1 h2 h3, s2, fun s t h1 h2 h3 h4 => by
    rw [p2.out (.inl h2)]
    obtain ⟨u, _, u2, e1⟩ := P1.out.at h1 h2
    obtain ⟨v, v1, v2, e2⟩ := p2.at h3 h4
    rw [e1, e2, P1.out.out (.inr v1), H0.out u (by omega), H0.out v v2]
    omega⟩
  clear p2 s2 hP2 I J JJ
  by_cases q : 20 < n
  · have q' : (20 : Int) < (n : Int) := by omega
    have KK := Lib.hid (K.out E w2 q HW.out (HD.out.pm PE.out (Nat.le_refl _)) PP.out)
    go_wp2_with fail
    refine wp_loop_rounds 2 ?_
    rw [rounds_succ]
    go_wp2_with fail
    refine wp_loop_rounds 1 ?_
    rw [rounds_succ]
    go_wp2_with fail
    ((with_reducible refine (KK.out).mono ?_); rintro e w3 ⟨rfl, G, p3, s3, hP3⟩)
    have HP := Lib.hid (And.intro (PE.out.trans p3) (And.intro s3 hP3))
    clear p3 s3 hP3 KK K
    go_wp2_with fail
    rw [rounds_succ]
    go_wp2
    go_end0
    exact ⟨rfl, G, HP.out⟩
  · obtain rfl : n = 20 := by omega
    go_wp2_with fail
    refine wp_loop_rounds 1 ?_
    rw [rounds_succ]
    go_wp2
    go_end0
    exact ⟨rfl, E, PE.out, PP.out.s1, HW.out⟩

theorem stable_ok (w0 : World) (g n cap : Nat) (c : Nat → Nat → Int) (T : Tot c) (V : Value) (C : CmpOK w0 n c V) (D0 : Nat → Nat) (w : World) (h : PW w0 g n D0 w) (hn : n < 40) (h0 : ∀ t, t < n → D0 t = t) :
    Calls Try.prog 47 #[.slice (some ⟨g, 0, none⟩) n cap, .int .i64 n, .func (.func 27) #[V] #[]] w fun e w' => e = .returned (.tuple #[]) ∧ ∃ D, Pm 0 n D0 D ∧ Srt c D 0 n ∧ PW w0 g n D w' := by
  by_cases q : n < 20
  · exact stable_few w0 g n cap c T V C D0 w h q h0
  · exact stable_more w0 g n cap c T V C D0 w h (by omega) hn h0
theorem sortStable_ok (w0 : World) (g n cap : Nat) (c : Nat → Nat → Int) (T : Tot c) (V : Value) (C : CmpOK w0 n c V) (D0 : Nat → Nat) (w : World) (h : PW w0 g n D0 w) (hn : n < 40) (h0 : ∀ t, t < n → D0 t = t) :
    Calls Try.prog 40 #[.slice (some ⟨g, 0, none⟩) n cap, .func (.func 27) #[V] #[]] w fun e w' => e = .returned (.tuple #[]) ∧ ∃ D, Pm 0 n D0 D ∧ Srt c D 0 n ∧ PW w0 g n D w' := by
  have S := Lib.hid (stable_ok w0 g n cap c T V C D0 w h hn h0)
  clear h T C h0
  go_enter Try.func40, Try.ntmps40
  go_wp2_with fail
  ((with_reducible refine (S.out).mono ?_); rintro e w1 ⟨rfl, D, hP⟩)
  have HP := Lib.hid hP
  clear hP
  go_wp2
  go_end0
  exact ⟨rfl, D, HP.out⟩
end Go.Proofs.Ytbcbocnblkepcaa
