/-
  The program's package edge: Edges. (gen/EcO.py)
-/
import Derived.Test.YtkheomaihhcokaaEcN
namespace Go.Proofs.Ytkheomaihhcokaa
open Go.RowKit Go.Sort

theorem ms_rng1 {n1 n2 n3 n4 : Nat} {FV FT FN FC : Nat → Nat → Int} (hr : msB n1 n2 n3 n4 FV FT FN FC = true) : ∀ i, i < n4 → ∀ j, j = 0 ∨ j = 3 ∨ j = 6 → 0 ≤ FC i j ∧ FC i j < (n1 : Int) := by
  unfold msB at hr
  rw [Bool.and_eq_true, Bool.and_eq_true, Bool.and_eq_true, Bool.and_eq_true] at hr
  intro i hi j hj
  have t := (allB_iff _ _).1 hr.2.2.2.2 i hi
  have t2 := fun k (hk : k < 3) => (cnB_iff.1 ((allB_iff _ _).1 t k hk)).1
  rcases hj with rfl | rfl | rfl
  · exact t2 0 (by omega)
  · exact t2 1 (by omega)
  · exact t2 2 (by omega)
set_option maxRecDepth 100000 in
set_option maxHeartbeats 16000000 in
theorem edgesE_any (pa1 pa2 pa3 pa4 : Option Addr) (n1 n2 n3 n4 c1 c2 c3 c4 : Nat) (FV FT FN FC : Nat → Nat → Int) (w : World) (hm : MsW w pa1 pa2 pa3 pa4 n1 n2 n3 n4 FV FT FN FC) (h20 : n1 ≤ 20) :
    Calls Try.prog 11 #[.agg #[.slice pa1 n1 c1, .slice pa2 n2 c2, .slice pa3 n3 c3, .slice pa4 n4 c4]] w fun e w' => (∃ v Z, e = .returned (.tuple #[v, .int .i64 (agE (msB n1 n2 n3 n4 FV FT FN FC))]) ∧ OwnE w' w.heap.size v Z ∧ Z.map edC = egA (msB n1 n2 n3 n4 FV FT FN FC) FC n4 n1) ∧ Below w.heap.size w w' := by
  have HB := Lib.hid (Below.refl w.heap.size w)
  have M := Lib.hid hm
  have IS := Lib.hid (fun W (h : Below w.heap.size w W) => mis_any pa1 pa2 pa3 pa4 n1 n2 n3 n4 c1 c2 c3 c4 FV FT FN FC W (hm.keep h))
  clear hm
  cases hr : msB n1 n2 n3 n4 FV FT FN FC with
  | false =>
    rw [hr] at IS
    clear hr
    rw [show agE false = 1 from rfl, show egA false FC n4 n1 = [] from rfl]
    go_enter Try.func11, Try.ntmps11
    go_upto_region 1 with fail
    have hbm := below_new1 w (.cells #[.slice pa1 n1 c1, .slice pa2 n2 c2, .slice pa3 n3 c3, .slice pa4 n4 c4] 26)
    have zm : (w.alloc (.cells #[.slice pa1 n1 c1, .slice pa2 n2 c2, .slice pa3 n3 c3, .slice pa4 n4 c4] 26)).heap.size = w.heap.size + 1 := by simp
    have HB := Lib.hid hbm
    have km := Lib.hid (Lok.new w 26 #[.slice pa1 n1 c1, .slice pa2 n2 c2, .slice pa3 n3 c3, .slice pa4 n4 c4])
    clear hbm
    generalize w.alloc (.cells #[.slice pa1 n1 c1, .slice pa2 n2 c2, .slice pa3 n3 c3, .slice pa4 n4 c4] 26) = Vm at *
    clear zm
    have m0 := km.out.cell (i := 0) rfl
    have m1 := km.out.cell (i := 1) rfl
    have m2 := km.out.cell (i := 2) rfl
    have m3 := km.out.cell (i := 3) rfl
    go_wp2_with fail
    clear m0 m1 m2 m3
    (((with_reducible refine (IS.out _ HB.out).mono ?_); rintro e w1 ⟨rfl, hb1⟩); replace HB := Lib.hid (HB.out.trans (hb1.mono HB.out.size)); replace km := Lib.hid (km.out.keep hb1); clear hb1)
    clear IS
    clear km
    go_wp2
    go_ret2
    exact ⟨⟨_, [], rfl, OwnE.nil _ _, rfl⟩, HB.out⟩
  | true =>
    rw [hr] at IS
    obtain ⟨h500, hF⟩ := ms_rng hr
    have hF1 := Lib.hid (ms_rng1 hr)
    clear hr
    rw [show agE true = 0 from rfl, show egA true FC n4 n1 = eaL FC n4 n1 n1 from rfl]
    have OW := Lib.hid (fun W (h : Below w.heap.size w W) => owners_any pa1 pa2 pa3 pa4 n1 n2 n3 n4 c1 c2 c3 c4 FV FT FN FC W (M.out.keep h) hF (by omega))
    clear hF M
    go_enter Try.func11, Try.ntmps11
    go_upto_region 1 with fail
    have hbm := below_new1 w (.cells #[.slice pa1 n1 c1, .slice pa2 n2 c2, .slice pa3 n3 c3, .slice pa4 n4 c4] 26)
    have zm : (w.alloc (.cells #[.slice pa1 n1 c1, .slice pa2 n2 c2, .slice pa3 n3 c3, .slice pa4 n4 c4] 26)).heap.size = w.heap.size + 1 := by simp
    have HB := Lib.hid hbm
    have km := Lib.hid (Lok.new w 26 #[.slice pa1 n1 c1, .slice pa2 n2 c2, .slice pa3 n3 c3, .slice pa4 n4 c4])
    clear hbm
    generalize w.alloc (.cells #[.slice pa1 n1 c1, .slice pa2 n2 c2, .slice pa3 n3 c3, .slice pa4 n4 c4] 26) = Vm at *
    clear zm
    have m0 := km.out.cell (i := 0) rfl
    have m1 := km.out.cell (i := 1) rfl
    have m2 := km.out.cell (i := 2) rfl
    have m3 := km.out.cell (i := 3) rfl
    go_wp2_with fail
    clear m0 m1 m2 m3
    (((with_reducible refine (IS.out _ HB.out).mono ?_); rintro e w1 ⟨rfl, hb1⟩); replace HB := Lib.hid (HB.out.trans (hb1.mono HB.out.size)); replace km := Lib.hid (km.out.keep hb1); clear hb1)
    clear IS
    have m0 := km.out.cell (i := 0) rfl
    have m1 := km.out.cell (i := 1) rfl
    have m2 := km.out.cell (i := 2) rfl
    have m3 := km.out.cell (i := 3) rfl
    go_wp2_with fail
    ((with_reducible refine (OW.out _ HB.out).mono ?_); rintro e w5 ⟨⟨b, base, rfl, hbl, hG⟩, hb5⟩)
    clear m0 m1 m2 m3 OW km
    have hbl2 : w.heap.size ≤ b := Nat.le_trans HB.out.size hbl
    replace HB := Lib.hid (HB.out.trans (hb5.mono HB.out.size))
    clear hb5 hbl
    have hbase := hG.lt
    obtain ⟨es, clock, hes, hst, f1, f2, f3, f4, f5⟩ := map_facts hG hF1.out h20
    have E1 := Lib.hid f1
    have E2 := Lib.hid f2
    have E3 := Lib.hid f3
    have E5 := Lib.hid f5
    have HES := Lib.hid hes
    have HST := Lib.hid hst
    clear f1 f2 f3 f5 hG hes hst
    go_wp2_with (refine wpList_rangeG rfl _ rfl (b := b) (es := es) (clock := clock) rfl HES.out HST.out ?_)
    intro w6 hI6 hb6 hz6
    have I6 := Lib.hid hI6
    have B6 := Lib.hid hb6
    clear hI6 hb6 HES HST
    obtain ⟨H1, hH1⟩ : ∃ H, H = w5.heap.size := ⟨_, rfl⟩
    rw [← hH1] at I6 B6 hz6 hbase
    rw [← hH1]
    have hw5 := HB.out.size
    rw [← hH1] at hw5
    have HH := Lib.hid hH1
    clear hH1
    go_wp2_with fail
    go_loopw [4] (fun v wr => ∃ (D : List SdE) (seen : Array Nat), (D ++ (leftOf es seen).toList.map toSd).Perm (es.toList.map toSd) ∧ wr.ownsRow (H1 + 1) 39 3 v D.length (D.flatMap encE) ∧ ItrG wr H1 b es seen ∧ Below H1 w5 wr) (fun _ wr => seenN wr H1 es)
    case atStart =>
      refine ⟨[], #[], ?_, World.ownsRow_nil _ _ _ _, I6.out, B6.out⟩
      rw [show leftOf es #[] = es from by unfold leftOf; simp]
      exact .refl _
    case round =>
      clear I6 B6
      obtain ⟨D, seen, hp, hO, hI, hB⟩ := hrel
      have HP := Lib.hid hp
      have OD := Lib.hid hO
      have II := Lib.hid hI
      have BV := Lib.hid hB
      have hdl : D.length ≤ 400 := by
        have := hp.length_eq
        rw [List.length_append, List.length_map, List.length_map] at this
        omega
      have hcnt := hI.count
      clear hp hO hI hB
      go_wp2_with (refine wpList_nextG rfl _ rfl (r := H1) (b := b) (es := es) (seen := seen) rfl II.out ?_ ?_)
      · intro h0
        have hempty : (leftOf es seen).toList = [] := List.eq_nil_of_length_eq_zero (by simpa using h0)
        have P2 : D.Perm (es.toList.map toSd) := by
          have z := HP.out
          rw [hempty, List.map_nil, List.append_nil] at z
          exact z
        have HP2 := Lib.hid P2
        have SO := Lib.hid (own_sortE (H1 + 1) u4 D wr OD.out (by omega))
        clear HP P2 hempty h0 hcnt II
        go_wp2_with fail
        ((with_reducible refine SO.out.mono ?_); rintro e w7 ⟨rfl, E, hp2, hso, hO7, hg7⟩)
        have B7 := Lib.hid (BV.out.grown hg7 (by have := BV.out.size; have := HH.out; omega) (fun g hg => by have := (World.ownsRow.lt hO7 g hg).1; omega))
        have O7 := Lib.hid hO7
        have PE := Lib.hid (hp2.trans HP2.out)
        have SE := Lib.hid hso
        clear SO hp2 hso hO7 hg7 HP2 OD BV
        have FIN : Hid (OwnE w7 w.heap.size u4 (E.map (edZ (ownS FC n4))) ∧ (E.map (edZ (ownS FC n4))).map edC = eaL FC n4 n1 n1) := Lib.hid (by
          have hmem : ∀ x ∈ E, ∃ e ∈ es.toList, toSd e = x := fun x hx => List.mem_map.1 ((PE.out.mem_iff).1 hx)
          have hkey : (E.map fun x => (x.1, x.2.1)).Nodup := ((PE.out.map (fun x => (x.1, x.2.1))).nodup_iff).2 E5.out
          refine ⟨⟨?_, ?_⟩, ?_⟩
          · rw [cells_edZ, List.length_map]
            exact ownR_mono O7.out (by omega)
          · intro z hz
            obtain ⟨x, hx, rfl⟩ := List.mem_map.1 hz
            obtain ⟨e, he, rfl⟩ := hmem x hx
            obtain ⟨a, c, q1, q2, q3⟩ := E1.out e he
            obtain ⟨p, n, cc, ev⟩ := ownI_slice q3
            have e1 : (edZ (ownS FC n4) (toSd e)).2.2.2 = e.val := by
              show Value.slice (slP e.val).1 (slP e.val).2.1 (slP e.val).2.2 = e.val
              rw [ev]; rfl
            have e2 : (edZ (ownS FC n4) (toSd e)).2.2.1 = ownS FC n4 a c := by
              show ownS FC n4 (kA e.key).1 (kA e.key).2 = _
              rw [q1, kA_key]
            rw [e1, e2]
            refine ⟨ownI_mono (ownI_block q3 fun g hg => B7.out.block g (by have := (World.ownsRow.lt q3 g hg).2; have := HH.out; omega)) (by omega), fun g hg hv => ?_⟩
            have h1 := (World.ownsRow.lt q3 g hg).2
            have h2 := (World.ownsRow.lt O7.out g hv).1
            have h3 := HH.out
            omega
          · have z := edges_all hF1.out (sorted_rise (S := ownS FC n4) hkey SE.out) (fun x hx => by
              obtain ⟨e, he, rfl⟩ := hmem x hx
              obtain ⟨a, c, q1, q2, _⟩ := E1.out e he
              show ownS FC n4 (kA e.key).1 (kA e.key).2 ≠ []
              rw [q1, kA_key]; exact q2) (fun a c hne => by
              obtain ⟨e, he, q⟩ := E2.out a c hne
              refine ⟨toSd e, (PE.out.mem_iff).2 (List.mem_map.2 ⟨e, he, rfl⟩), ?_, ?_⟩
              · show (kA e.key).1 = a; rw [q, kA_key]
              · show (kA e.key).2 = c; rw [q, kA_key])
            rw [List.map_map]
            exact z)
        have BF := Lib.hid (HB.out.trans (B7.out.mono hw5))
        clear PE SE O7 B7
        go_wp2
        go_ret2
        exact ⟨⟨_, _, rfl, FIN.out.1, FIN.out.2⟩, BF.out⟩
      · intro e w7 he hI7 hg7 hen
        replace he : e ∈ (leftOf es seen).toList := by simpa using he
        obtain ⟨a, c, q1, q2, q3⟩ := E1.out e (mem_left he).1
        obtain ⟨pv, nv, cv, ev⟩ := ownI_slice q3
        have hpl := left_perm (by obtain ⟨_, _, _, _, _, _, _, _, h5, _⟩ := II.out; exact h5) he
        have hlt := left_shrinks es seen e he
        have P7 : Hid (((D ++ [toSd e]) ++ (leftOf es (seen.push e.born)).toList.map toSd).Perm (es.toList.map toSd)) := Lib.hid (by
          refine List.Perm.trans ?_ HP.out
          rw [List.append_assoc]
          exact ((hpl.map toSd).symm.append_left D))
        have TS : Hid (encE (toSd e) = [.int .i64 a, .int .i64 c, .slice pv nv cv]) := Lib.hid (by
          show [Value.int .i64 (kA e.key).1, .int .i64 (kA e.key).2, .slice (slP e.val).1 (slP e.val).2.1 (slP e.val).2.2] = _
          rw [q1, kA_key, ev]; rfl)
        have hbz := HB.out.size
        replace OD := Lib.hid (World.ownsRow.kept OD.out hg7 (by
          cases hv : u4.ownBlock with
          | none => exact .inl rfl
          | some g => exact .inr (fun q => by have := (World.ownsRow.lt OD.out g hv).1; injection q with q; omega)))
        replace BV := Lib.hid (BV.out.grown hg7 (by have := BV.out.size; have := HH.out; omega) (fun g hg => by injection hg with hg; omega))
        replace II := Lib.hid hI7
        rw [q1, ev] at hen
        rw [q1, ev]
        have hc0 := II.out.count
        have HC : Hid (seenN wr H1 es = (leftOf es seen).size ∧ (leftOf es (seen.push e.born)).size < (leftOf es seen).size) := Lib.hid ⟨hcnt, hlt⟩
        generalize toSd e = sd at *
        have hrlt : H1 < w7.heap.size := II.out.lt.1
        clear hpl hI7 hg7 hcnt hlt hc0 q1 q2 q3 HP he ev
        unfold keyV at hen ⊢
        go_upto_region 7 with fail
        have hbt := Lib.hid ((Below.refl w7.heap.size w7).alloc (Nat.le_refl _) (.cells #[.int .i64 a, .int .i64 c] 58))
        have kt := Lib.hid (Lok.new w7 58 #[.int .i64 a, .int .i64 c])
        replace OD := Lib.hid (ownK_keep OD.out hbt.out)
        replace II := Lib.hid (II.out.keepB hbt.out hrlt II.out.lt.2)
        replace BV := Lib.hid (BV.out.trans (hbt.out.mono (by omega)))
        have hsz : H1 + 1 ≤ (w7.alloc (.cells #[.int .i64 a, .int .i64 c] 58)).heap.size := by simp; omega
        clear hen hbt
        generalize w7.alloc (.cells #[.int .i64 a, .int .i64 c] 58) = V7 at *
        generalize w7.heap.size = g7 at *
        have t0 := kt.out.cell (i := 0) rfl
        have t1 := kt.out.cell (i := 1) rfl
        have k1 : Hid ((D.length + 1) * 40 ≤ 140737488355328) := Lib.hid (by omega)
        have k2 : Hid (D.length ≤ 1000000) := Lib.hid (by omega)
        have k3 : Hid (∀ u ∈ [Value.int .i64 a, .int .i64 c, .slice pv nv cv], u.oneCell' = true) := Lib.hid (by
          intro u hu
          simp only [List.mem_cons, List.not_mem_nil, or_false] at hu
          rcases hu with rfl | rfl | rfl
          · rfl
          · rfl
          · rfl)
        go_wp2_with (at_builtin; refine app_one rfl _ _ 27 39 (.agg #[.int .i64 0, .int .i64 0, .slice none 0 0]) 3 40 Try.underlying27 infoE rfl (by decide) rfl (H1 + 1) u4 D.length (D.flatMap encE) [.int .i64 a, .int .i64 c, .slice pv nv cv] rfl k3.out rfl OD.out rfl k1.out k2.out hsz ?_)
        intro v8 w8 hO8 hb8
        have O8 : Hid (w8.ownsRow (H1 + 1) 39 3 v8 (D ++ [sd]).length ((D ++ [sd]).flatMap encE)) := Lib.hid (by
          rw [List.flatMap_append, List.length_append, List.flatMap_cons, List.flatMap_nil, List.append_nil, TS.out]
          exact hO8)
        have I8 := Lib.hid (II.out.keepB hb8 (by omega) (by omega))
        have B8 := Lib.hid (BV.out.trans (hb8.mono (by omega)))
        have C8 := Lib.hid I8.out.count
        clear hO8 hb8 t0 t1 kt OD II BV k1 k2 k3
        go_wp2
        go_roundw
        case rel => exact ⟨_, _, P7.out, O8.out, I8.out, B8.out⟩
        case measure => rw [C8.out, HC.out.1]; exact HC.out.2
end Go.Proofs.Ytkheomaihhcokaa
