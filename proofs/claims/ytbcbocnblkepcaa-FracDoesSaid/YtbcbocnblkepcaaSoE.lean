/-
  The library's stable sort over a row of places: merging.
-/
import Derived.Test.YtbcbocnblkepcaaSoD
import Derived.Deep.CutRange
namespace Go.Proofs.Ytbcbocnblkepcaa
open Go.RowKit

theorem Par.of_eq {c : Nat → Nat → Int} {E F : Nat → Nat} {a m b : Nat} (h : ∀ t, a ≤ t → F t = E t) (q : a ≤ m) (p : Par c E a m b) : Par c F a m b := by
  obtain ⟨s1, s2, cr⟩ := p
  refine ⟨fun s t h1 h2 h3 => ?_, fun s t h1 h2 h3 => ?_, fun s t h1 h2 h3 h4 => ?_⟩
  · rw [h s h1, h t (by omega)]; exact s1 s t h1 h2 h3
  · rw [h s (by omega), h t (by omega)]; exact s2 s t h1 h2 h3
  · rw [h s h1, h t (by omega)]; exact cr s t h1 h2 h3 h4
/-- Where the search of a merge stands. -/
structure Sch (c : Nat → Nat → Int) (D : Nat → Nat) (q S0 R0 s r : Nat) : Prop where
  lo : S0 ≤ s
  mi : s ≤ r
  hi : r ≤ R0
  A : s = S0 ∨ Rl c (D (s - 1)) (D (q - s))
  B : r = R0 ∨ Rl c (D (q - 1 - r)) (D r)
/-- Where it begins. -/
structure Beg (a m b mid S0 R0 : Nat) : Prop where
  sa : a ≤ S0
  sr : S0 ≤ R0
  rm : R0 ≤ m
  rd : R0 ≤ mid
  sb : mid + m ≤ b + S0
  e1 : S0 = a ∨ mid + m - S0 = b
  e2 : R0 = m ∨ mid + m - R0 = m
def HidP (s m e mid : Nat) : Prop := (s < m ↔ mid < e) ∧ (m < e ↔ s < mid)
theorem beg_up {a m b : Nat} (h1 : a < m) (_ : m < b) (h : (a + b) / 2 < m) : Beg a m b ((a + b) / 2) ((a + b) / 2 + m - b) ((a + b) / 2) := ⟨by omega, by omega, by omega, by omega, by omega, by omega, by omega⟩
theorem beg_down {a m b : Nat} (h1 : a < m) (_ : m < b) (h : ¬ (a + b) / 2 < m) : Beg a m b ((a + b) / 2) a m := ⟨by omega, by omega, by omega, by omega, by omega, by omega, by omega⟩

set_option maxRecDepth 100000 in
set_option maxHeartbeats 16000000 in
theorem sym_step (w0 : World) (g n cap : Nat) (c : Nat → Nat → Int) (T : Tot c) (V : Value) (C : CmpOK w0 n c V) (k : Nat)
    (IH : ∀ (a m b : Nat) (D : Nat → Nat) (w : World) (A M B : Int), b - a ≤ k → PW w0 g n D w → a < m → m < b → b ≤ n → DB D n → Par c D a m b → A = a → M = m → B = b →
      Calls Try.prog 56 #[.slice (some ⟨g, 0, none⟩) n cap, .int .i64 A, .int .i64 M, .int .i64 B, .func (.func 27) #[V] #[]] w fun e w' => e = .returned (.tuple #[]) ∧ ∃ E, Pm a b D E ∧ Srt c E a b ∧ PW w0 g n E w')
    (D : Nat → Nat) (a m b : Nat) (w : World) (hk : b - a ≤ k + 1) (h : PW w0 g n D w) (hn : n ≤ 1000000) (ham : a + 1 < m) (hmb : m + 1 < b) (hb : b ≤ n) (hd : DB D n) (P : Par c D a m b) :
    Calls Try.prog 56 #[.slice (some ⟨g, 0, none⟩) n cap, .int .i64 a, .int .i64 m, .int .i64 b, .func (.func 27) #[V] #[]] w fun e w' => e = .returned (.tuple #[]) ∧ ∃ E, Pm a b D E ∧ Srt c E a b ∧ PW w0 g n E w' := by
  have H := Lib.hid h
  have HC := Lib.hid C
  have HT := Lib.hid T
  have HD := Lib.hid hd
  have HP := Lib.hid P
  have HI := Lib.hid IH
  have dm : ((m : Int) - a == 1) = false := by rw [beq_eq_false_iff_ne]; omega
  have db : ((b : Int) - m == 1) = false := by rw [beq_eq_false_iff_ne]; omega
  clear h C T hd P IH
  obtain ⟨mid, hmid⟩ : ∃ mid, mid = (a + b) / 2 := ⟨_, rfl⟩
  obtain ⟨S0, R0, hSR, BG⟩ : ∃ S0 R0 : Nat, ((mid < m → mid + m = S0 + b ∧ R0 = mid) ∧ (¬ mid < m → S0 = a ∧ R0 = m)) ∧ Beg a m b mid S0 R0 := by
    rw [hmid]
    by_cases q : (a + b) / 2 < m
    · exact ⟨(a + b) / 2 + m - b, (a + b) / 2, ⟨fun _ => ⟨by omega, rfl⟩, fun x => absurd q x⟩, beg_up (by omega) (by omega) q⟩
    · exact ⟨_, _, ⟨fun x => absurd x q, fun _ => ⟨rfl, rfl⟩⟩, beg_down (by omega) (by omega) q⟩
  have m1 : a < mid := by omega
  have m2 : mid < b := by omega
  have em : ((a : Int) + b) / 2 = mid := by omega
  clear hmid
  go_enter Try.func56, Try.ntmps56
  have EM := Lib.hid em
  clear em
  go_upto_region 25 with fail
  rw [EM.out]
  go_upto_if 140 with fail
  go_cut [20, 21] from 138 to 146 (fun x y wx => x = .int .i64 S0 ∧ y = .int .i64 R0 ∧ wx = w)
  case first =>
    by_cases q : mid < m
    · obtain ⟨q1, q2⟩ := hSR.1 q
      go_wp2_with fail
      go_meet
      case rel => exact ⟨congrArg (Value.int .i64) (by omega), by rw [q2], rfl⟩
    · obtain ⟨q1, q2⟩ := hSR.2 q
      go_wp2_with fail
      go_meet
      case rel => exact ⟨by rw [q1], by rw [q2], rfl⟩
  case rest =>
    obtain ⟨rfl, rfl, rfl⟩ := hcut
    obtain ⟨b1, b2, b3, b4, b5, b6, b7⟩ := BG
    clear hSR
    go_wp2_with fail
    go_loopw [20, 21, 23] (fun x y _ wr => ∃ s r : Nat, x = .int .i64 s ∧ y = .int .i64 r ∧ Hid (Sch c D (mid + m) S0 R0 s r) ∧ PW w0 g n D wr) (fun x y _ _ => (intOf y).toNat - (intOf x).toNat)
    case atStart => exact ⟨S0, R0, rfl, rfl, Lib.hid ⟨Nat.le_refl _, b2, Nat.le_refl _, .inl rfl, .inl rfl⟩, H.out⟩
    case round =>
      obtain ⟨s, r, rfl, rfl, J, hP⟩ := hrel
      have HW := Lib.hid hP
      clear hP
      obtain ⟨j1, j2, j3, -, -⟩ := J.out
      by_cases hlt : s < r
      · obtain ⟨u, hu⟩ : ∃ u, u = (s + r) / 2 := ⟨_, rfl⟩
        obtain ⟨v, hv⟩ : ∃ v, v = mid + m - 1 - u := ⟨_, rfl⟩
        have e1 : IntKind.i64.wrap ((mid : Int) + m - 1 - ((s : Int) + r) / 2) = (mid : Int) + m - 1 - ((s : Int) + r) / 2 := IntWalk.i64_in _ (by omega)
        have p0 : (0 : Int) ≤ (mid : Int) + m - 1 - ((s : Int) + r) / 2 := by omega
        have q0 : (mid : Int) + m - 1 - ((s : Int) + r) / 2 < (n : Int) := by omega
        have t0 : ((mid : Int) + m - 1 - ((s : Int) + r) / 2).toNat = v := by omega
        have p1 : (0 : Int) ≤ ((s : Int) + r) / 2 := by omega
        have q1 : ((s : Int) + r) / 2 < (n : Int) := by omega
        have x0 : ∀ d : Of (PastS wr), d.world.cell? ⟨g, v, none⟩ = some (.int .i64 (D v)) := fun d => (HW.out.keep d.holds).cell v (by omega)
        have x1 : ∀ d : Of (PastS wr), d.world.cell? ⟨g, (s + r) / 2, none⟩ = some (.int .i64 (D u)) := fun d => by rw [← hu]; exact (HW.out.keep d.holds).cell u (by omega)
        have CC := Lib.hid (fun d => HC.out.class HW.out.below (HD.out v (by omega)) (HD.out u (by omega)) d)
        have ne : Nonempty (Of (PastS wr)) := ⟨⟨wr, Below.refl _ _⟩⟩
        have less : D u < D v := HP.out.cr u v (by omega) (by omega) (by omega) (by omega)
        obtain ⟨x, hx⟩ : ∃ x, x = D u := ⟨_, rfl⟩
        obtain ⟨y, hy⟩ : ∃ y, y = D v := ⟨_, rfl⟩
        by_cases z0 : c (D v) (D u) < 0
        · have ds : decide (c (D v) (D u) < 0) = true := decide_eq_true z0
          have HN : Hid (Sch c D (mid + m) S0 R0 s u) := Lib.hid ⟨j1, by omega, by omega, J.out.A, .inr (by rw [show mid + m - 1 - u = v from hv.symm]; exact .inl z0)⟩
          have hus : s ≤ u ∧ u < r := by omega
          generalize c (D v) (D u) = z at *
          rw [← hx] at x1 CC
          rw [← hy] at x0 CC
          have HU := Lib.hid hu
          clear z0 less hx hy hv hu
          go_wp2_with fail
          refine wp_region_class (S := PastS wr) (by kernel_rfl) (by kernel_rfl) (Below.refl _ _).drew ?_
          repeat (go_big_quiet_step (first | (go_at_call 27; exact CC.out _)))
          refine wpQuiet_nil ?_
          rintro _ ⟨d, rfl⟩
          have HQ := Lib.hid (HW.out.keep (show Below wr.heap.size wr d.world from d.holds))
          generalize d.world = wd at *
          clear x0 x1 CC ne HW e1 p0 q0 t0
          go_wp2
          go_roundw
          case rel => exact ⟨s, u, rfl, congrArg (Value.int .i64) (by have := HU.out; omega), HN, HQ.out⟩
          case measure => simp [intOf]; omega
        · have ds : decide (c (D v) (D u) < 0) = false := decide_eq_false z0
          have HN : Hid (Sch c D (mid + m) S0 R0 (u + 1) r) := Lib.hid ⟨by omega, by omega, j3, .inr (by rw [show mid + m - (u + 1) = v from by omega, Nat.add_sub_cancel]; exact HT.out.later less z0), J.out.B⟩
          have hus : s ≤ u ∧ u < r := by omega
          generalize c (D v) (D u) = z at *
          rw [← hx] at x1 CC
          rw [← hy] at x0 CC
          have HU := Lib.hid hu
          clear z0 less hx hy hv hu
          go_wp2_with fail
          refine wp_region_class (S := PastS wr) (by kernel_rfl) (by kernel_rfl) (Below.refl _ _).drew ?_
          repeat (go_big_quiet_step (first | (go_at_call 27; exact CC.out _)))
          refine wpQuiet_nil ?_
          rintro _ ⟨d, rfl⟩
          have HQ := Lib.hid (HW.out.keep (show Below wr.heap.size wr d.world from d.holds))
          generalize d.world = wd at *
          clear x0 x1 CC ne HW e1 p0 q0 t0
          go_wp2
          go_roundw
          case rel => exact ⟨u + 1, r, congrArg (Value.int .i64) (by have := HU.out; omega), rfl, HN, HQ.out⟩
          case measure => simp [intOf]; omega
      · obtain rfl : s = r := by omega
        have hnl : ¬ (s : Int) < s := by omega
        obtain ⟨e, he⟩ : ∃ e, e = mid + m - s := ⟨_, rfl⟩
        have f1 : a ≤ s := by omega
        have f2 : s ≤ m := by omega
        have f3 : m ≤ e := by omega
        have f4 : e ≤ b := by omega
        have f5 : mid = s + (e - m) := by omega
        have AA : s = a ∨ e = b ∨ Rl c (D (s - 1)) (D e) := by
          rcases J.out.A with q | q
          · rcases b6 with q2 | q2
            · exact .inl (by omega)
            · exact .inr (.inl (by rw [he, q]; exact q2))
          · exact .inr (.inr (by rw [he]; exact q))
        have BB : s = m ∨ m = e ∨ Rl c (D (e - 1)) (D s) := by
          rcases J.out.B with q | q
          · rcases b7 with q2 | q2
            · exact .inl (by omega)
            · exact .inr (.inl (by rw [he, q]; exact q2.symm))
          · exact .inr (.inr (by rw [he, show mid + m - s - 1 = mid + m - 1 - s from by omega]; exact q))
        have HH := Lib.hid (halves (mid := mid) (e := e) HT.out HP.out.s1 HP.out.s2 HP.out.cr f1 f2 f3 f4 f5 AA BB)
        have EE : Hid ((mid : Int) + m - s = (e : Int)) := Lib.hid (by omega)
        have PR : Hid (Pm a b D (rotD D s m e)) := Lib.hid ((Pm.rot D f2 f3).mono f1 f4)
        have HS : Hid (HidP s m e mid) := Lib.hid ⟨by omega, by omega⟩
        have f6 : s ≤ mid := by omega
        have f7 : mid ≤ e := by omega
        have W1 : ¬ s < m → rotD D s m e = D := fun q => by rw [show s = m from by omega]; exact rot_same_a D m e
        have W2 : ¬ m < e → rotD D s m e = D := fun q => by rw [show e = m from by omega]; exact rot_same_m D s m (by omega)
        have HW1 := Lib.hid W1
        have HW2 := Lib.hid W2
        have HF5 := Lib.hid f5
        clear AA BB he f5 J W1 W2 b1 b2 b3 b4 b5 b6 b7 j1 j2 j3 dm db
        go_upto_region 39 with fail
        rw [EE.out]
        go_cut [185] from 178 to 185 (fun x wx => x = .bool (decide (s < m ∧ m < e)) ∧ wx = wr)
        case first =>
          by_cases q1 : s < m
          · by_cases q2 : m < e
            · go_wp2_with fail
              go_meet
              case rel => exact ⟨congrArg Value.bool (decide_eq_true (show s < m ∧ m < e from ⟨q1, q2⟩)).symm, rfl⟩
            · go_wp2_with fail
              go_meet
              case rel => exact ⟨congrArg Value.bool (decide_eq_false (show ¬ (s < m ∧ m < e) from fun q => q2 q.2)).symm, rfl⟩
          · go_wp2_with fail
            go_meet
            case rel => exact ⟨congrArg Value.bool (decide_eq_false (show ¬ (s < m ∧ m < e) from fun q => q1 q.1)).symm, rfl⟩
        case rest =>
          obtain ⟨rfl, rfl⟩ := hcut
          obtain ⟨q, hq⟩ : ∃ q, q = decide (s < m ∧ m < e) := ⟨_, rfl⟩
          rw [← hq]
          have HQ := Lib.hid hq
          clear hq
          go_upto_if 185 with fail
          generalize hE : rotD D s m e = E at *
          have HE := Lib.hid hE
          clear hE
          have PEND : Hid (DB E n) := Lib.hid (HD.out.pm PR.out hb)
          go_cut [] from 178 to 191 (fun wx => PW w0 g n E wx)
          case first =>
            cases q with
            | true =>
              obtain ⟨q1, q2⟩ := of_decide_eq_true HQ.out.symm
              have R := Lib.hid (rotate_ok w0 g n cap D s m e (.func (.func 27) #[V] #[]) _ HW.out hn q1 q2 (by omega))
              rw [HE.out] at R
              go_wp2_with fail
              ((with_reducible refine (R.out).mono ?_); rintro e w1 ⟨rfl, hP1⟩)
              go_wp2_with fail
              go_meet
              case rel => exact hP1
            | false =>
              have nq := of_decide_eq_false HQ.out.symm
              have ED : E = D := by
                by_cases q1 : s < m
                · exact HW2.out (fun q2 => nq ⟨q1, q2⟩)
                · exact HW1.out q1
              have HED := Lib.hid ED
              clear nq ED
              go_wp2_with fail
              go_meet
              case rel => rw [HED.out]; exact HW.out
          case rest =>
            have HX := Lib.hid hcut
            clear hcut HW HW1 HW2 HQ
            obtain ⟨wd, ewd⟩ : ∃ wd, wd = wc := ⟨_, rfl⟩
            rw [← ewd] at HX ⊢
            clear ewd
            go_upto_region 41 with fail
            go_cut [199] from 192 to 199 (fun x wx => x = .bool (decide (a < s ∧ s < mid)) ∧ wx = wd)
            case first =>
              by_cases q1 : a < s
              · by_cases q2 : s < mid
                · go_wp2_with fail
                  go_meet
                  case rel => exact ⟨congrArg Value.bool (decide_eq_true (show a < s ∧ s < mid from ⟨q1, q2⟩)).symm, rfl⟩
                · go_wp2_with fail
                  go_meet
                  case rel => exact ⟨congrArg Value.bool (decide_eq_false (show ¬ (a < s ∧ s < mid) from fun q => q2 q.2)).symm, rfl⟩
              · go_wp2_with fail
                go_meet
                case rel => exact ⟨congrArg Value.bool (decide_eq_false (show ¬ (a < s ∧ s < mid) from fun q => q1 q.1)).symm, rfl⟩
            case rest =>
              obtain ⟨rfl, rfl⟩ := hcut
              clear q
              obtain ⟨q, hq⟩ : ∃ q, q = decide (a < s ∧ s < mid) := ⟨_, rfl⟩
              rw [← hq]
              have HQ := Lib.hid hq
              clear hq
              go_upto_if 199 with fail
              go_cut [] from 192 to 205 (fun wx => ∃ F, Hid (Pm a mid E F ∧ Srt c F a mid) ∧ PW w0 g n F wx)
              case first =>
                cases q with
                | true =>
                  obtain ⟨q1, q2⟩ := of_decide_eq_true HQ.out.symm
                  have R := Lib.hid (HI.out a s mid E _ a s mid (by omega) HX.out q1 q2 (by omega) PEND.out ⟨HH.out.s1, HH.out.s2, HH.out.x1⟩ rfl rfl rfl)
                  go_wp2_with fail
                  ((with_reducible refine (R.out).mono ?_); rintro e w1 ⟨rfl, F, hp1, hs1, hP1⟩)
                  have HP1 := Lib.hid (And.intro hp1 hs1)
                  clear hp1 hs1
                  go_wp2_with fail
                  go_meet
                  case rel => exact ⟨F, Lib.hid HP1.out, hP1⟩
                | false =>
                  have nq := of_decide_eq_false HQ.out.symm
                  have SE : Srt c E a mid := by
                    by_cases q1 : a < s
                    · have : s = mid := by omega
                      rw [← this]; exact HH.out.s1
                    · have : s = a := by omega
                      have z := HH.out.s2
                      rw [this] at z; exact z
                  have HSE := Lib.hid SE
                  clear nq SE
                  go_wp2_with fail
                  go_meet
                  case rel => exact ⟨E, Lib.hid ⟨Pm.refl _ _ _, HSE.out⟩, HX.out⟩
              case rest =>
                obtain ⟨F, HF, hP2⟩ := hcut
                have HY := Lib.hid hP2
                clear hP2 HX HQ q
                obtain ⟨we, ewe⟩ : ∃ we, we = wc := ⟨_, rfl⟩
                rw [← ewe] at HY ⊢
                clear ewe
                go_upto_region 43 with fail
                go_cut [213] from 206 to 213 (fun x wx => x = .bool (decide (mid < e ∧ e < b)) ∧ wx = we)
                case first =>
                  by_cases q1 : mid < e
                  · by_cases q2 : e < b
                    · go_wp2_with fail
                      go_meet
                      case rel => exact ⟨congrArg Value.bool (decide_eq_true (show mid < e ∧ e < b from ⟨q1, q2⟩)).symm, rfl⟩
                    · go_wp2_with fail
                      go_meet
                      case rel => exact ⟨congrArg Value.bool (decide_eq_false (show ¬ (mid < e ∧ e < b) from fun q => q2 q.2)).symm, rfl⟩
                  · go_wp2_with fail
                    go_meet
                    case rel => exact ⟨congrArg Value.bool (decide_eq_false (show ¬ (mid < e ∧ e < b) from fun q => q1 q.1)).symm, rfl⟩
                case rest =>
                  obtain ⟨rfl, rfl⟩ := hcut
                  obtain ⟨q, hq⟩ : ∃ q, q = decide (mid < e ∧ e < b) := ⟨_, rfl⟩
                  rw [← hq]
                  have HQ := Lib.hid hq
                  clear hq
                  have PR2 := Lib.hid (Par.of_eq (fun t ht => HF.out.1.out (.inr ht)) f7 (Par.mk HH.out.s3 HH.out.s4 HH.out.x2))
                  cases q with
                  | true =>
                    obtain ⟨q1, q2⟩ := of_decide_eq_true HQ.out.symm
                    have R := Lib.hid (HI.out mid e b F _ mid e b (by omega) HY.out q1 q2 hb (PEND.out.pm HF.out.1 (by omega)) PR2.out rfl rfl rfl)
                    go_wp2_with fail
                    ((with_reducible refine (R.out).mono ?_); rintro e w1 ⟨rfl, G, hp1, hs1, hP1⟩)
                    have HP1 := Lib.hid (And.intro hp1 hs1)
                    clear hp1 hs1
                    have M := Lib.hid (merged (by omega) (by omega) HH.out.lt HF.out.1 HF.out.2 HP1.out.1 HP1.out.2)
                    go_wp2
                    go_end0
                    exact ⟨rfl, G, PR.out.trans M.out.1, M.out.2, hP1⟩
                  | false =>
                    have nq := of_decide_eq_false HQ.out.symm
                    have SE : Srt c F mid b := by
                      by_cases q1 : mid < e
                      · have : e = b := by omega
                        have z := PR2.out.s1
                        rw [this] at z; exact z
                      · have : e = mid := by omega
                        have z := PR2.out.s2
                        rw [this] at z; exact z
                    have M := Lib.hid (merged (by omega) (by omega) HH.out.lt HF.out.1 HF.out.2 (Pm.refl mid b F) SE)
                    clear nq SE
                    go_wp2
                    go_end0
                    exact ⟨rfl, F, PR.out.trans M.out.1, M.out.2, HY.out⟩

theorem sym_ok (w0 : World) (g n cap : Nat) (c : Nat → Nat → Int) (T : Tot c) (V : Value) (C : CmpOK w0 n c V) (hn : n ≤ 1000000) :
    ∀ (k a m b : Nat) (D : Nat → Nat) (w : World) (A M B : Int), b - a ≤ k → PW w0 g n D w → a < m → m < b → b ≤ n → DB D n → Par c D a m b → A = a → M = m → B = b →
      Calls Try.prog 56 #[.slice (some ⟨g, 0, none⟩) n cap, .int .i64 A, .int .i64 M, .int .i64 B, .func (.func 27) #[V] #[]] w fun e w' => e = .returned (.tuple #[]) ∧ ∃ E, Pm a b D E ∧ Srt c E a b ∧ PW w0 g n E w' := by
  intro k
  induction k with
  | zero => intro a m b D w A M B hk _ h1 h2; omega
  | succ k ih =>
    intro a m b D w A M B hk hP h1 h2 h3 hd P eA eM eB
    subst eA eM eB
    by_cases q1 : m = a + 1
    · subst q1
      exact sym_left w0 g n cap c T V C D a b w hP hn h2 h3 hd P
    · by_cases q2 : b = m + 1
      · subst q2
        exact sym_right w0 g n cap c T V C D a m w hP hn (by omega) h3 hd P
      · exact sym_step w0 g n cap c T V C k (fun a m b D w A M B => ih a m b D w A M B) D a m b w hk hP hn (by omega) (by omega) h3 hd P
end Go.Proofs.Ytbcbocnblkepcaa
