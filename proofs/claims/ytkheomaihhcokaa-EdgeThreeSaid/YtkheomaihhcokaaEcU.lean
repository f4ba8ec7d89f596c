/-
  The program's package edge: spread.
-/
import Derived.Test.YtkheomaihhcokaaEcR
import Derived.Test.YtkheomaihhcokaaEcT
namespace Go.Proofs.Ytkheomaihhcokaa
open Go.RowKit

/-- What lies from block lo on, as it was in V. -/
def AbP (lo : Nat) (V W : World) : Prop := V.heap.size ≤ W.heap.size ∧ ∀ k, lo ≤ k → k < V.heap.size → W.heap[k]? = V.heap[k]?
theorem AbP.refl (lo : Nat) (V : World) : AbP lo V V := ⟨Nat.le_refl _, fun _ _ _ => rfl⟩
theorem AbP.keep {lo : Nat} {V W W' : World} (h : AbP lo V W) (hb : Below W.heap.size W W') : AbP lo V W' := ⟨Nat.le_trans h.1 hb.size, fun k h1 h2 => (hb.block k (Nat.lt_of_lt_of_le h2 h.1)).trans (h.2 k h1 h2)⟩
theorem AbP.set {lo : Nat} {V W : World} (h : AbP lo V W) {g i : Nat} (hg : g < lo) (x : Value) : AbP lo V (W.setCell ⟨g, i, none⟩ x) := ⟨by simpa using h.1, fun k h1 h2 => (Below.heap_setCell W ⟨g, i, none⟩ x k (by show k ≠ g; omega)).trans (h.2 k h1 h2)⟩
theorem AbP.grown {lo : Nat} {V W W' : World} {row : Option Nat} (h : AbP lo V W) (hg : W.grownBy W' row) (hr : ∀ g, row = some g → V.heap.size ≤ g) : AbP lo V W' := ⟨Nat.le_trans h.1 hg.size, fun k h1 h2 => (hg.block k (Nat.lt_of_lt_of_le h2 h.1) (fun e => by have := hr k e.symm; omega)).trans (h.2 k h1 h2)⟩
theorem own_single {W : World} {base : Nat} (x : Int) (h : base ≤ W.heap.size) : OwnI (W.alloc (.cells #[.int .i64 x] 3)) base (.slice (some ⟨W.heap.size, 0, none⟩) 1 1) [x] :=
  ⟨rfl, .inr ⟨W.heap.size, 1, _, rfl, h, Lok.new W 3 #[.int .i64 x], Nat.le_refl _, by unfold maxLen; omega, rfl, rfl⟩⟩
set_option maxRecDepth 100000 in
set_option maxHeartbeats 16000000 in
theorem spread_any (pa1 pa2 pa3 pa4 : Option Addr) (n1 n2 n3 n4 c1 c2 c3 c4 : Nat) (FV FT FN FC : Nat → Nat → Int) (w0 w : World) (gp c lo f gm gk b base : Nat) (P : List Int) (hm : MsW w0 pa1 pa2 pa3 pa4 n1 n2 n3 n4 FV FT FN FC) (hb0 : Below w0.heap.size w0 w) (h4 : n4 ≤ 500)
    (hF : ∀ i, i < n4 → ∀ j, j = 0 ∨ j = 3 ∨ j = 6 → 0 ≤ FC i j ∧ FC i j < 2000) (hN : NbW lo w gm gk b base pa1 pa2 pa3 pa4 n1 n2 n3 n4 c1 c2 c3 c4 FC) (hgp : w0.heap.size ≤ gp) (hlo : gp < lo) (hlw : lo ≤ w.heap.size) (hO : OwnI w w0.heap.size (.slice (some ⟨gp, 0, none⟩) n4 c) P) (hP : P.length = n4) (hfn : f < n4) :
    Calls Try.prog 40 #[.slice (some ⟨gp, 0, none⟩) n4 c, .int .i64 f, nbV gm gk] w fun e w' => e = .returned (.tuple #[]) ∧ (∃ Q R, SpI FC n4 f P R Q ∧ SpD FC n4 R Q R.length ∧ OwnI w' w0.heap.size (.slice (some ⟨gp, 0, none⟩) n4 c) Q) ∧ NbW lo w' gm gk b base pa1 pa2 pa3 pa4 n1 n2 n3 n4 c1 c2 c3 c4 FC ∧ Below w0.heap.size w0 w' ∧ w.heap.size ≤ w'.heap.size := by
  obtain ⟨iI, hI, hz0, hz1, hz2⟩ := info_parts infoI
  have CL := Lib.hid (fun W (h : Below w0.heap.size w0 W) (i : Nat) (hi : i < n4) (q : NbW lo W gm gk b base pa1 pa2 pa3 pa4 n1 n2 n3 n4 c1 c2 c3 c4 FC) => nbr_any pa1 pa2 pa3 pa4 n1 n2 n3 n4 c1 c2 c3 c4 FV FT FN FC i gm gk b base W (hm.keep h) hi hF (by omega) q.2.1 q.2.2.1 q.2.2.2)
  have hgw := (World.ownsRow.lt hO gp rfl).2
  obtain ⟨z1, z2⟩ := hO.cells (i := f) (by omega)
  have f0 : (0 : Int) ≤ (f : Int) := by omega
  have f1 : (f : Int) < (n4 : Int) := by omega
  have f2 : ((f : Int)).toNat = f := by omega
  have O0 := Lib.hid (hO.set f (f : Int))
  have B0 := Lib.hid (hb0.setCell (p := ⟨gp, f, none⟩) hgp (.int .i64 (f : Int)))
  have N0 := Lib.hid (hN.above (W' := w.setCell ⟨gp, f, none⟩ (.int .i64 (f : Int))) (fun k h1 _ => Below.heap_setCell w ⟨gp, f, none⟩ _ k (by show k ≠ gp; omega)))
  have S0 := Lib.hid (sp_start (F := FC) hP hfn)
  have hsz : w.heap.size = (w.setCell ⟨gp, f, none⟩ (.int .i64 (f : Int))).heap.size := by simp
  clear hm hF hN hO hb0
  go_enter Try.func40, Try.ntmps40
  unfold nbV
  go_upto_region 1 with fail
  clear z1 z2
  generalize w.setCell ⟨gp, f, none⟩ (.int .i64 (f : Int)) = V at *
  go_upto_region 2 with fail
  have hbv : Below V.heap.size V (V.alloc (.cells #[.int .i64 (f : Int)] 3)) := (Below.refl _ _).alloc (Nat.le_refl _) _
  have R0 := Lib.hid (own_single (W := V) (base := V.heap.size) (f : Int) (Nat.le_refl _))
  replace O0 := Lib.hid (O0.out.keep hbv)
  replace B0 := Lib.hid (B0.out.trans (hbv.mono B0.out.size))
  have A0 := Lib.hid ((AbP.refl lo V).keep hbv)
  have hgV : gp < V.heap.size := by rw [← hsz]; exact hgw
  have hlV : lo ≤ V.heap.size := by rw [← hsz]; exact hlw
  have HS := Lib.hid hsz
  clear hbv hsz
  generalize V.alloc (.cells #[.int .i64 (f : Int)] 3) = V1 at *
  go_wp2_with fail
  go_loopw [6, 7] (fun v x wr => ∃ (R Q : List Int) (m : Nat), x = .int .i64 m ∧ m ≤ R.length ∧ OwnI wr V.heap.size v R ∧ OwnI wr w0.heap.size (.slice (some ⟨gp, 0, none⟩) n4 c) Q ∧ SpI FC n4 f P R Q ∧ SpD FC n4 R Q m ∧ AbP lo V wr ∧ Below w0.heap.size w0 wr) (fun _ x _ => n4 - (intOf x).toNat)
  case atStart => exact ⟨[(f : Int)], P.set f f, 0, rfl, Nat.zero_le _, R0.out, O0.out, S0.out, fun a h => absurd h (by omega), A0.out, B0.out⟩
  case round =>
    clear R0 O0 S0 A0 B0
    obtain ⟨R, Q, m, rfl, hmR, hR, hQ, hS, hD, hA, hB⟩ := hrel
    have RR := Lib.hid hR
    have OQ := Lib.hid hQ
    have SI := Lib.hid hS
    have SD := Lib.hid hD
    have AB := Lib.hid hA
    have BV := Lib.hid hB
    have hRn := hS.short
    clear hR hQ hS hD hA hB
    by_cases hml : m < R.length
    · obtain ⟨i, hi, hin, -⟩ := SI.out.mem (R.getD m 0) (mem_at hml)
      have hiR : Hid ((i : Int) ∈ R) := Lib.hid (by rw [← hi]; exact mem_at hml)
      obtain ⟨aR, cR, rfl, -, -, -, hRI⟩ := rowI_of_own RR.out
      obtain ⟨g5, o5, rfl, hg5, hc5⟩ := hRI.at hml
      have r0 := hc5 m hml
      rw [hi] at r0
      have HI := Lib.hid hi
      have rl := Lib.hid (fun g hg => (World.ownsRow.lt RR.out g hg).2)
      have m0 : (0 : Int) ≤ (m : Int) := by omega
      have m1 : (m : Int) < (R.length : Int) := by omega
      have m2 : ((m : Int)).toNat = m := by omega
      have CC := Lib.hid (CL.out wr BV.out i hin (N0.out.above AB.out.2))
      clear hRI hc5 hi hg5
      go_wp2_with fail
      ((with_reducible refine CC.out.mono ?_); rintro e w5 ⟨⟨v5, rfl, hO5⟩, hb5⟩)
      clear r0 CC
      have OQ0 := OQ
      replace OQ := Lib.hid (OQ.out.keep hb5)
      replace RR := Lib.hid (RR.out.keep hb5)
      replace AB := Lib.hid (AB.out.keep hb5)
      replace BV := Lib.hid (BV.out.trans (hb5.mono BV.out.size))
      have AP5 : ∀ g, (Value.slice (some ⟨g5, o5, none⟩) R.length cR).ownBlock = some g → v5.ownBlock ≠ some g := fun g hg e => by
        have h1 := (World.ownsRow.lt hO5 g e).1
        have h2 := rl.out g hg
        omega
      have O5 := Lib.hid hO5
      generalize Value.slice (some ⟨g5, o5, none⟩) R.length cR = v3 at RR AP5 ⊢
      have AP := Lib.hid AP5
      have NX := Lib.hid (fun x => nx_mem (F := FC) (i := i) (x := x) (n := n4))
      have hXl := nxL_len FC i n4
      generalize nxL FC i n4 = X at *
      obtain ⟨a5, c5, rfl, -, -, -, -⟩ := rowI_of_own hO5
      clear hO5 hb5 AP5
      have h3g : gp < wr.heap.size := (World.ownsRow.lt OQ0.out gp rfl).2
      clear OQ0 rl
      generalize wr.heap.size = H3 at *
      go_wp2_with fail
      go_loopw [6, 29] (fun v y wr => ∃ (R Q : List Int) (q : Nat), y = .int .i64 q ∧ q ≤ X.length ∧ m < R.length ∧ R.getD m 0 = (i : Int) ∧ OwnI wr V.heap.size v R ∧ OwnI wr w0.heap.size (.slice (some ⟨gp, 0, none⟩) n4 c) Q ∧ SpI FC n4 f P R Q ∧ SpD FC n4 R Q m ∧ (∀ a, a < q → ∀ j : Nat, X.getD a 0 = (j : Int) → Q.getD j 0 ≠ -1) ∧ OwnI wr H3 (.slice a5 X.length c5) X ∧ (∀ g, v.ownBlock = some g → (Value.slice a5 X.length c5).ownBlock ≠ some g) ∧ AbP lo V wr ∧ Below w0.heap.size w0 wr) (fun _ y _ => X.length - (intOf y).toNat)
      case atStart => exact ⟨R, Q, 0, rfl, Nat.zero_le _, hml, HI.out, RR.out, OQ.out, SI.out, SD.out, fun a h => absurd h (by omega), O5.out, AP.out, AB.out, BV.out⟩
      case round =>
        clear RR OQ SI SD O5 AP AB BV HI hiR hml hmR hRn m1
        obtain ⟨R, Q, q, rfl, hq, hml, hi, hR, hQ, hS, hD, hT, hX, hP5, hA, hB⟩ := hrel
        have RR := Lib.hid hR
        have OQ := Lib.hid hQ
        have SI := Lib.hid hS
        have SD := Lib.hid hD
        have TT := Lib.hid hT
        have O5 := Lib.hid hX
        have AP := Lib.hid hP5
        have AB := Lib.hid hA
        have BV := Lib.hid hB
        have HI := Lib.hid hi
        have hRn := hS.short
        have hQl := hS.len
        have hiR : Hid ((i : Int) ∈ R) := Lib.hid (by rw [← hi]; exact mem_at hml)
        clear hR hQ hS hD hT hX hP5 hA hB hi
        by_cases hql : q < X.length
        · obtain ⟨k, hkn, hk, hnx⟩ := (NX.out _).1 (mem_at hql)
          obtain ⟨a6, c6, e6, -, -, -, hRX⟩ := rowI_of_own O5.out
          injection e6 with e7 _ e8
          subst e7 e8
          obtain ⟨g7, o7, rfl, hg7, hc7⟩ := hRX.at hql
          have x0 := hc7 q hql
          rw [hk] at x0
          obtain ⟨y0, y1⟩ := OQ.out.cells (i := k) (by omega)
          have HK := Lib.hid hk
          have q0 : (0 : Int) ≤ (q : Int) := by omega
          have q1 : (q : Int) < (X.length : Int) := by omega
          have q2 : ((q : Int)).toNat = q := by omega
          have k0 : (0 : Int) ≤ (k : Int) := by omega
          have k1 : (k : Int) < (n4 : Int) := by omega
          have k2 : ((k : Int)).toNat = k := by omega
          obtain ⟨x, hx⟩ : ∃ x, x = Q.getD k 0 := ⟨_, rfl⟩
          rw [← hx] at y0
          have HX := Lib.hid hx
          clear hRX hc7 hg7 hk hx
          by_cases hx1 : x = -1
          · have QX : Hid (Q.getD k 0 = -1) := Lib.hid (by rw [← HX.out]; exact hx1)
            subst hx1
            go_upto_region 10 with fail
            have hgl := (World.ownsRow.lt OQ.out gp rfl).2
            replace OQ := Lib.hid (OQ.out.set k (f : Int))
            replace BV := Lib.hid (BV.out.setCell (p := ⟨gp, k, none⟩) hgp (.int .i64 (f : Int)))
            replace AB := Lib.hid (AB.out.set (i := k) hlo (.int .i64 (f : Int)))
            replace RR := Lib.hid (ownI_set (i := k) (x := .int .i64 (f : Int)) RR.out hgV)
            replace O5 := Lib.hid (ownI_set (i := k) (x := .int .i64 (f : Int)) O5.out h3g)
            clear x0 y0 y1
            generalize wr.setCell ⟨gp, k, none⟩ (.int .i64 (f : Int)) = Va at *
            have hbk : Below Va.heap.size Va (Va.alloc (.cells #[.int .i64 (k : Int)] 3)) := (Below.refl _ _).alloc (Nat.le_refl _) _
            have OQb := Lib.hid (OQ.out.keep hbk)
            have BVb := Lib.hid (BV.out.trans (hbk.mono BV.out.size))
            have ABb := Lib.hid (AB.out.keep hbk)
            have RRb : Hid ((Va.alloc (.cells #[.int .i64 (k : Int)] 3)).ownsRow V.heap.size 3 1 u6 R.length (R.map (Value.int .i64))) := Lib.hid (RR.out.keep hbk)
            have O5b := Lib.hid (O5.out.keep hbk)
            have KC := Lib.hid (Lok.new Va 3 #[.int .i64 (k : Int)])
            have hcell : Hid (∀ (j : Nat) (u : Value), [Value.int .i64 (k : Int)][j]? = some u → (Va.alloc (.cells #[.int .i64 (k : Int)] 3)).cell? (Addr.add ⟨Va.heap.size, 0, none⟩ j) = some u) := Lib.hid (fun j u hu => by
              rw [Go.WideShapes.add_plain, Nat.zero_add]
              exact KC.out.cell (by rw [List.getElem?_toArray]; exact hu))
            have hone : Hid (∀ u ∈ [Value.int .i64 (k : Int)], u.oneCell' = true) := Lib.hid (fun u hu => by rw [List.mem_singleton] at hu; subst hu; rfl)
            have hbase : Hid (V.heap.size ≤ (Va.alloc (.cells #[.int .i64 (k : Int)] 3)).heap.size) := Lib.hid ABb.out.1
            have p1 : Hid (R.length + 1 ≤ maxLen) := Lib.hid (by unfold maxLen; omega)
            have p2 : Hid ((R.length + 1) * 8 ≤ 140737488355328) := Lib.hid (by omega)
            have hnew : Hid (∀ g, (Value.slice (some ⟨g7, o7, none⟩) X.length c5).ownBlock = some g → g < (Va.alloc (.cells #[.int .i64 (k : Int)] 3)).heap.size) := Lib.hid (fun g hg => (World.ownsRow.lt O5b.out g hg).2)
            clear hbk KC OQ BV AB RR O5
            go_wp2_with (at_builtin; refine wpList_append_own_at _ rfl _ _ 34 rfl V.heap.size 3 iI (.int .i64 0) 1 8 Try.underlying34 hI hz0 hz1 hz2 rfl (by decide) u6 R.length (R.map (Value.int .i64)) rfl RRb.out ⟨Va.heap.size, 0, none⟩ 1 1 [.int .i64 k] rfl rfl hcell.out hone.out p1.out p2.out hbase.out ?_)
            intro v6 w6 hown hg6 _ hloc
            have rb := Lib.hid (fun g (hg : u6.ownBlock = some g) => (World.ownsRow.lt RRb.out g hg).1)
            have O6 : Hid (OwnI w6 V.heap.size v6 (R ++ [(k : Int)])) := Lib.hid (by
              unfold OwnI
              rw [List.length_append, List.map_append]
              exact hown)
            have OQ6 := Lib.hid (ownI_grown OQb.out hg6 (fun g hg e => (by have h1 : gp = g := (by simpa [Value.ownBlock] using hg); have h2 := rb.out _ e; omega)))
            have O56 := Lib.hid (ownI_grown O5b.out hg6 (fun g hg e => AP.out g e hg))
            have AB6 := Lib.hid (ABb.out.grown hg6 (fun g hg => rb.out g hg))
            have BV6 := Lib.hid (BVb.out.grown hg6 BVb.out.size (fun g hg => by have := rb.out g hg; omega))
            have AP6 : Hid (∀ g, v6.ownBlock = some g → (Value.slice (some ⟨g7, o7, none⟩) X.length c5).ownBlock ≠ some g) := Lib.hid (fun g hg e => by
              rcases hloc with z | z
              · rw [z] at hg; exact AP.out g hg e
              · rw [z] at hg
                have h1 := hnew.out g e
                have h2 : (Va.alloc (.cells #[.int .i64 (k : Int)] 3)).heap.size = Va.heap.size + 1 := by simp
                simp at hg
                omega)
            have SI6 := Lib.hid (SI.out.more hfn hin hkn hiR.out hnx QX.out)
            have SD6 := Lib.hid (SD.out.more (k := k) (f := f) (Nat.le_of_lt hml))
            have HI6 : Hid ((R ++ [(k : Int)]).getD m 0 = (i : Int)) := Lib.hid (by
              rw [List.getD_eq_getElem?_getD, List.getElem?_append_left hml, ← List.getD_eq_getElem?_getD]; exact HI.out)
            have TT6 : Hid (∀ a, a < q + 1 → ∀ j : Nat, X.getD a 0 = (j : Int) → (Q.set k (f : Int)).getD j 0 ≠ -1) := Lib.hid (fun a ha j hj => by
              by_cases e : a = q
              · subst e
                rw [HK.out] at hj
                have : k = j := by omega
                rw [← this]
                exact set_self_told (by omega)
              · exact set_told (TT.out a (by omega) j hj))
            clear hown hg6 hloc hcell hone hbase p1 p2 hnew rb OQb BVb ABb RRb O5b AP
            go_wp2
            go_roundw
            case rel => exact ⟨_, _, q + 1, by go_num, hql, by rw [List.length_append]; omega, HI6.out, O6.out, OQ6.out, SI6.out, SD6.out, TT6.out, O56.out, AP6.out, AB6.out, BV6.out⟩
            case measure => simp [intOf]; omega
          · have x1 : (x == -1) = false := by rw [beq_eq_false_iff_ne]; exact hx1
            have TT6 : Hid (∀ a, a < q + 1 → ∀ j : Nat, X.getD a 0 = (j : Int) → Q.getD j 0 ≠ -1) := Lib.hid (fun a ha j hj => by
              by_cases e : a = q
              · subst e
                rw [HK.out] at hj
                have : k = j := by omega
                subst this
                rw [← HX.out]; exact hx1
              · exact TT.out a (by omega) j hj)
            go_wp2
            go_roundw
            case rel => exact ⟨R, Q, q + 1, by go_num, hql, hml, HI.out, RR.out, OQ.out, SI.out, SD.out, TT6.out, O5.out, AP.out, AB.out, BV.out⟩
            case measure => simp [intOf]; omega
        · obtain rfl : q = X.length := by omega
          have SD6 : Hid (SpD FC n4 R Q (m + 1)) := Lib.hid (fun a ha i' hi' j hj hx => by
            by_cases e : a = m
            · subst e
              rw [HI.out] at hi'
              have : i = i' := by omega
              subst this
              obtain ⟨a', ha', e'⟩ := List.mem_iff_getElem.1 ((NX.out (j : Int)).2 ⟨j, hj, rfl, hx⟩)
              exact TT.out a' ha' j (by rw [List.getD_eq_getElem?_getD, List.getElem?_eq_getElem ha']; exact e')
            · exact SD.out a (by omega) i' hi' j hj hx)
          go_wp2
          go_roundw
          case rel => exact ⟨R, Q, m + 1, by go_num, hml, RR.out, OQ.out, SI.out, SD6.out, AB.out, BV.out⟩
          case measure => simp [intOf]; omega
    · obtain rfl : m = R.length := by omega
      obtain ⟨aR, cR, rfl, -, -, -, -⟩ := rowI_of_own RR.out
      have NF := Lib.hid (N0.out.above AB.out.2)
      have HZ := Lib.hid (show w.heap.size ≤ wr.heap.size by rw [HS.out]; exact AB.out.1)
      go_wp2_with fail
      exact bodyPost_end (v := .tuple #[]) (by simp [results, Try.results40, go_sem]) rfl ⟨rfl, ⟨Q, R, SI.out, SD.out, OQ.out⟩, NF.out, BV.out, HZ.out⟩
end Go.Proofs.Ytkheomaihhcokaa
