/-
  The library's slices.Repeat of one number.
-/
import Derived.Test.YtkheomaihhcokaaEcI
import Derived.Laws.CopyRow
import Derived.Laws.CopyOwn
import Derived.Deep.OwnRows
namespace Go.Proofs.Ytkheomaihhcokaa
open Go.RowKit

def rpC (n k : Nat) : Array Value := (List.replicate k (Value.int .i64 (-1)) ++ List.replicate (n - k) (Value.int .i64 0)).toArray
theorem rpC_size {n k : Nat} (h : k ≤ n) : (rpC n k).size = n := by unfold rpC; simp; omega
theorem rpC_made (n : Nat) : madeCells #[Value.int .i64 0] n = rpC n 0 := by
  apply Array.ext
  · rw [size_madeCells, rpC_size (Nat.zero_le _)]
  · intro i h1 h2
    unfold madeCells rpC
    simp [Nat.mod_one]
theorem rpC_at {n k j : Nat} (h : j < k) : (rpC n k)[j]? = some (Value.int .i64 (-1)) := by
  unfold rpC
  rw [List.getElem?_toArray, List.getElem?_append_left (by simpa using h), List.getElem?_replicate, if_pos h]
theorem rpC_more {n k m : Nat} (h : k + m ≤ n) : ((rpC n k).toList.take k ++ List.replicate m (Value.int .i64 (-1)) ++ (rpC n k).toList.drop (k + (List.replicate m (Value.int .i64 (-1))).length)).toArray = rpC n (k + m) := by
  unfold rpC
  congr 1
  rw [List.length_replicate]
  have e1 : (List.replicate k (Value.int .i64 (-1)) ++ List.replicate (n - k) (Value.int .i64 0)).take k = List.replicate k (Value.int .i64 (-1)) := by
    rw [List.take_left' (by simp)]
  have e2 : (List.replicate k (Value.int .i64 (-1)) ++ List.replicate (n - k) (Value.int .i64 0)).drop (k + m) = List.replicate (n - (k + m)) (Value.int .i64 0) := by
    rw [List.drop_append, List.drop_eq_nil_of_le (by simp), List.length_replicate, List.drop_replicate, List.nil_append]
    congr 1; omega
  show List.take k (List.replicate k _ ++ _) ++ _ ++ List.drop (k + m) (List.replicate k _ ++ _) = _
  rw [e1, e2, List.replicate_append_replicate]
theorem wp_copyI (w : World) {o : Oper} {a : Act} {K : Act → World → Prop} {Q : Exit → Act → World → Prop} (d s : Operand) (t t' : TypeId)
    (ho : o.op = .call { callee := .builtin .copy, args := #[d, s], argTypes := #[t, t'] }) (v u : Value) (hd : a.eval d = v) (hs : a.eval s = u) {v' : Value} {w' : World}
    (hr : (Builtin.copy_ #[t, t'] o.type #[v, u]).run Try.prog w = .ok v' w') (h : K (a.put o.dst v') w') : o.wp Try.prog a w K Q := by
  unfold Oper.wp execOp
  simp only [ho, resolve, invoke, builtin, Sem.run_bind, Sem.run_pure, Result.andThen_ok, List.map_toArray, List.map_cons, List.map_nil, hd, hs, hr]
  exact h
theorem infoI1 : (Try.prog.info? 3).map (·.size) = some 1 := by
  obtain ⟨i, h1, _, h2, _⟩ := info_parts infoI
  rw [h1, Option.map_some, h2]
theorem copy_more {W : World} {g n k m : Nat} (ty : TypeId) (h : Lok W g 3 (rpC n k)) (hm : m = Nat.min k (n - k)) (hk : k ≤ n) :
    (Builtin.copy_ #[34, 34] ty #[.slice (some ⟨g, k, none⟩) (n - k) (n - k), .slice (some ⟨g, 0, none⟩) k n]).run Try.prog W = .ok (.int .i64 (m : Nat)) (W.setRow g (rpC n (k + m))) := by
  have hm1 : m ≤ k := by rw [hm]; exact Nat.min_le_left _ _
  have hm2 : m ≤ n - k := by rw [hm]; exact Nat.min_le_right _ _
  have z := run_copy_row (P := Try.prog) W 34 34 ty 3 g k (n - k) (n - k) ⟨g, 0, none⟩ k n (rpC n k) 3 (List.replicate m (Value.int .i64 (-1))) Try.underlying34 infoI1 h (by rw [List.length_replicate]; exact hm)
    (fun j v hj => by
      have hl : j < m := by
        have := (List.getElem?_eq_some_iff.1 hj).1
        simpa using this
      rw [List.getElem?_replicate, if_pos hl] at hj
      cases hj
      rw [Go.WideShapes.add_plain, Nat.zero_add]
      exact Lok.cell h (rpC_at (by omega)))
    (by rw [List.length_replicate, rpC_size hk]; omega) (fun v hv => by rw [List.eq_of_mem_replicate hv]; rfl)
  rw [rpC_more (by omega), List.length_replicate] at z
  exact z
theorem copy_first {W : World} {g g1 n : Nat} (ty : TypeId) (h : Lok W g 3 (rpC n 0)) (h1 : Lok W g1 3 #[.int .i64 (-1)]) (hn : 0 < n) :
    (Builtin.copy_ #[34, 34] ty #[.slice (some ⟨g, 0, none⟩) n n, .slice (some ⟨g1, 0, none⟩) 1 1]).run Try.prog W = .ok (.int .i64 1) (W.setRow g (rpC n 1)) := by
  have z := run_copy_row (P := Try.prog) W 34 34 ty 3 g 0 n n ⟨g1, 0, none⟩ 1 1 (rpC n 0) 3 (List.replicate 1 (Value.int .i64 (-1))) Try.underlying34 infoI1 h (by rw [List.length_replicate]; exact (Nat.min_eq_left hn).symm)
    (fun j v hj => by
      have hl : j < 1 := by
        have := (List.getElem?_eq_some_iff.1 hj).1
        simpa using this
      obtain rfl : j = 0 := by omega
      cases hj
      exact Lok.cell h1 rfl)
    (by rw [List.length_replicate, rpC_size (Nat.zero_le _)]; omega) (fun v hv => by rw [List.eq_of_mem_replicate hv]; rfl)
  have e := rpC_more (n := n) (k := 0) (m := 1) (by omega)
  rw [e, List.length_replicate] at z
  exact z
theorem setRow_below {W : World} {B g : Nat} (cs : Array Value) (h : B ≤ g) : Below B W (W.setRow g cs) := below_setRow (Below.refl _ _) h cs
theorem own_rep {W : World} {base g n : Nat} (h : Lok W g 3 (rpC n n)) (hb : base ≤ g) (hn : n ≤ 1000000) : OwnI W base (.slice (some ⟨g, 0, none⟩) n n) (List.replicate n (-1)) := by
  unfold OwnI
  rw [List.length_replicate]
  refine ⟨by simp, .inr ⟨g, n, _, rfl, hb, h, Nat.le_refl _, by unfold maxLen; omega, by rw [rpC_size (Nat.le_refl _)]; omega, ?_⟩⟩
  unfold rpC
  simp
def CpQ (W : World) (g : Nat) (v : Value) (m : Int) (cs : Array Value) : Prop := v = .int .i64 m ∧ Lok W g 3 cs
theorem CpQ.keep {W W' : World} {g : Nat} {v : Value} {m : Int} {cs : Array Value} (h : CpQ W g v m cs) (hb : Below W.heap.size W W') : CpQ W' g v m cs := ⟨h.1, Lok.keep h.2 hb⟩
set_option maxRecDepth 100000 in
set_option maxHeartbeats 16000000 in
theorem repeat_none (g : Nat) (w : World) : Calls Try.prog 39 #[.slice (some ⟨g, 0, none⟩) 1 1, .int .i64 0] w fun e w' => (∃ v, e = .returned v ∧ OwnI w' w.heap.size v []) ∧ Below w.heap.size w w' := by
  have MU : Hid (∀ W, Calls Try.prog 59 #[.int .u64 1, .int .u64 0] W fun e w' => e = .returned (.tuple #[.int .u64 0, .int .u64 0]) ∧ w' = W) := Lib.hid (fun W => Try.bits_Mul 1 0 (by omega) (by omega) W)
  have mk : ∀ W : World, (Instr.makeSlice 34 (.int .i64 0) (.int .i64 0)).run Try.prog W = .ok (.slice (some ⟨W.heap.size, 0, none⟩) 0 0) (W.alloc (.cells (rpC 0 0) 3)) := fun W => by
    rw [← rpC_made]
    exact run_make_row' (P := Try.prog) 34 3 (.int .i64 0) 8 Try.underlying34 infoI rfl .i64 .i64 0 (by omega) (by omega) W
  have cp : ∀ (W : World) (ty : TypeId) (d a : Option Addr), (Builtin.copy_ #[34, 34] ty #[.slice d 0 0, .slice a 1 1]).run Try.prog W = .ok (.int .i64 0) W := fun W ty d a => run_copy_none (P := Try.prog) W 34 34 ty 3 d a 0 0 1 1 Try.underlying34 infoI1 rfl
  have HB := Lib.hid (Below.refl w.heap.size w)
  go_enter Try.func39, Try.ntmps39
  go_wp2_with fail
  (refine (MU.out _).mono ?_; rintro e w5 ⟨rfl, rfl⟩)
  go_upto_region 7 with fail
  have kr := Lib.hid (Lok.new w5 3 (rpC 0 0))
  have BV := Lib.hid ((Below.refl w5.heap.size w5).alloc (Nat.le_refl _) (.cells (rpC 0 0) 3))
  generalize hV : w5.alloc (.cells (rpC 0 0) 3) = V at *
  clear hV
  generalize hgr : w5.heap.size = gr at *
  go_wp2_with fail
  go_loopw [8] (fun x wr => x = .int .i64 0 ∧ wr = V) (fun _ _ => 0)
  case atStart => exact ⟨rfl, rfl⟩
  case round =>
    obtain ⟨rfl, rfl⟩ := hrel
    go_wp2
    go_ret
    exact ⟨⟨_, rfl, own_rep (n := 0) kr.out (Nat.le_of_eq hgr) (by omega)⟩, by rw [hgr]; exact BV.out⟩
set_option maxRecDepth 100000 in
set_option maxHeartbeats 16000000 in
theorem repeat_any (g n : Nat) (w : World) (h : Lok w g 3 #[.int .i64 (-1)]) (hn : n ≤ 500) (hp : 0 < n) :
    Calls Try.prog 39 #[.slice (some ⟨g, 0, none⟩) 1 1, .int .i64 n] w fun e w' => (∃ v, e = .returned v ∧ OwnI w' w.heap.size v (List.replicate n (-1))) ∧ Below w.heap.size w w' := by
  have kg := Lib.hid h
  have hgl := Lok.lt h
  clear h
  have MU : Hid (∀ W, Calls Try.prog 59 #[.int .u64 1, .int .u64 (n : Int)] W fun e w' => e = .returned (.tuple #[.int .u64 0, .int .u64 (n : Int)]) ∧ w' = W) := Lib.hid (fun W => by
    have z := Try.bits_Mul 1 n (by omega) (by omega) W
    have e1 : 1 * n / 18446744073709551616 = 0 := by rw [Nat.one_mul]; exact Nat.div_eq_of_lt (by omega)
    have e2 : 1 * n % 18446744073709551616 = n := by rw [Nat.one_mul]; exact Nat.mod_eq_of_lt (by omega)
    rw [e1, e2] at z
    exact z)
  have n0 : (0 : Int) ≤ (n : Int) := by omega
  have n1 : ¬ (n : Int) < 0 := by omega
  have n2 : ¬ (9223372036854775807 : Int) < (n : Int) := by omega
  have u1 : IntKind.u64.wrap (n : Int) = (n : Int) := by simp [IntKind.wrap, IntKind.bits, IntKind.signed]; omega
  have i1 : IntKind.i64.wrap (n : Int) = (n : Int) := by simp [IntKind.wrap, IntKind.bits, IntKind.signed]; omega
  have mk : ∀ W : World, (Instr.makeSlice 34 (.int .i64 (n : Int)) (.int .i64 (n : Int))).run Try.prog W = .ok (.slice (some ⟨W.heap.size, 0, none⟩) n n) (W.alloc (.cells (rpC n 0) 3)) := fun W => by
    rw [← rpC_made]
    exact run_make_row' (P := Try.prog) 34 3 (.int .i64 0) 8 Try.underlying34 infoI rfl .i64 .i64 n (by omega) (by omega) W
  have HB := Lib.hid (Below.refl w.heap.size w)
  go_enter Try.func39, Try.ntmps39
  go_wp2_with fail
  (refine (MU.out _).mono ?_; rintro e w5 ⟨rfl, rfl⟩)
  go_upto_region 7 with fail
  have hgw : g < w5.heap.size := hgl
  have kr := Lib.hid (Lok.new w5 3 (rpC n 0))
  have BV := Lib.hid ((Below.refl w5.heap.size w5).alloc (Nat.le_refl _) (.cells (rpC n 0) 3))
  replace kg := Lib.hid (Lok.keep kg.out BV.out)
  generalize hV : w5.alloc (.cells (rpC n 0) 3) = V at *
  clear hV
  generalize hgr : w5.heap.size = gr at *
  have cp := fun ty => copy_first (W := V) (g := gr) (g1 := g) (n := n) ty kr.out kg.out hp
  have k1 := Lib.hid (setRow_heap V gr _ (rpC n 1) _ _ kr.out)
  replace BV := Lib.hid (BV.out.trans (setRow_below (W := V) (g := gr) (rpC n 1) (Nat.le_refl _)))
  clear kr kg MU mk HB
  generalize V.setRow gr (rpC n 1) = V1 at *
  go_wp2_with fail
  clear cp
  go_loopw [8] (fun x wr => ∃ k : Nat, x = .int .i64 k ∧ 1 ≤ k ∧ k ≤ n ∧ Lok wr gr 3 (rpC n k) ∧ Below gr w5 wr) (fun x _ => n - (intOf x).toNat)
  case atStart => exact ⟨1, by go_num, Nat.le_refl _, hp, k1.out, BV.out⟩
  case round =>
    clear k1 BV
    obtain ⟨k, rfl, hk1, hk, hL, hB⟩ := hrel
    have KL := Lib.hid hL
    have BV := Lib.hid hB
    have hbound : gr ≤ wr.heap.size := Nat.le_of_lt (Lok.lt hL)
    clear hL hB
    by_cases hlt : k < n
    · obtain ⟨m, hm⟩ : ∃ m, m = Nat.min k (n - k) := ⟨_, rfl⟩
      have hm1 : m ≤ k := by rw [hm]; exact Nat.min_le_left _ _
      have hm2 : m ≤ n - k := by rw [hm]; exact Nat.min_le_right _ _
      have hm3 : 1 ≤ m := by rw [hm]; exact Nat.le_min.2 ⟨hk1, by omega⟩
      have HM := Lib.hid hm
      clear hm
      have j0 : (0 : Int) ≤ (k : Int) := by omega
      have j1 : (k : Int) < (n : Int) := by omega
      have j2 : ((k : Int)).toNat = k := by omega
      have j3 : (k : Int) ≤ (n : Int) := by omega
      have j5 : ¬ n = k := by omega
      have j4 : IntKind.i64.wrap ((k : Int) + (m : Int)) = (k : Int) + (m : Int) := by simp [IntKind.wrap, IntKind.bits, IntKind.signed]; omega
      have o1 := KL.out
      go_upto_region 9 with fail
      refine wp_region_rel2 (by kernel_rfl) [8, 38, 39, 40, 41, 42, 43, 44, 45, 46] ?Fr1 ?hFr1
        (fun L u W => Below gr wr W ∧ (L 0 = true → u 38 = .int .i64 k) ∧ (L 1 = true → u 39 = .slice (some ⟨gr, 0, none⟩) n n) ∧ (L 2 = true → u 40 = .int .i64 k) ∧ (L 3 = true → u 41 = .slice (some ⟨gr, k, none⟩) (n - k) (n - k)) ∧ (L 4 = true → u 42 = .slice (some ⟨gr, 0, none⟩) n n) ∧ (L 5 = true → u 43 = .int .i64 k) ∧ (L 6 = true → u 44 = .slice (some ⟨gr, 0, none⟩) k n) ∧ (L 7 = true → CpQ W gr (u 45) m (rpC n (k + m))) ∧ (L 8 = true → u 46 = .int .i64 ((k : Int) + (m : Int))) ∧ (L 9 = true → u 8 = .int .i64 ((k : Int) + (m : Int))) ∧ (L 7 = false → Lok W gr 3 (rpC n k)) ∧ (L 9 = false → u 8 = .int .i64 k) ∧ (L 9 = true → L 0 = true) ∧ (L 9 = false → u 8 = .int .i64 k) ∧ (L 9 = true → L 2 = true) ∧ (L 9 = false → u 8 = .int .i64 k) ∧ (L 9 = true → L 5 = true)) (by kernel_rfl) (by kernel_rfl) 10 rfl ?h0r1 ?stepr1 ?finr1
      case hFr1 => intro u; simp only [putAll, Act.put, List.setIfInBounds_toArray, List.set]; exact rfl
      case h0r1 => intro L hL; exact ⟨(Below.refl _ _).drew, (fun h => by simp [hL] at h), (fun h => by simp [hL] at h), (fun h => by simp [hL] at h), (fun h => by simp [hL] at h), (fun h => by simp [hL] at h), (fun h => by simp [hL] at h), (fun h => by simp [hL] at h), (fun h => by simp [hL] at h), (fun h => by simp [hL] at h), (fun h => by simp [hL] at h), (fun _ => by assumption), (fun _ => by first | rfl | trivial), (fun h => by simp [hL] at h), (fun _ => by first | rfl | trivial), (fun h => by simp [hL] at h), (fun _ => by first | rfl | trivial), (fun h => by simp [hL] at h)⟩
      case stepr1 =>
        refine ops_all (ops_cons ?s0r1 (ops_cons ?s1r1 (ops_cons ?s2r1 (ops_cons ?s3r1 (ops_cons ?s4r1 (ops_cons ?s5r1 (ops_cons ?s6r1 (ops_cons ?s7r1 (ops_cons ?s8r1 (ops_cons ?s9r1 (ops_nil)))))))))))
        case s0r1 =>
          rintro L u W ⟨hB, c0, c1, c2, c3, c4, c5, c6, c7, c8, c9, pre0, ini0, id0, ini1, id1, ini2, id2⟩ hf hd K hK
          dsimp only at hK
          have ei0 := ini0 (by cases h : L 9 with | false => rfl | true => rw [id0 h] at hf; cases hf)
          rw [ei0] at hK
          clear hd
          go_simp
          refine hK _ _ ?_ (fun h => by cases h)
          intro s hs
          cases hs
          exact ⟨hB, (fun _ => rfl), c1, c2, c3, c4, c5, c6, c7, c8, c9, pre0, ini0, (fun _ => rfl), ini1, id1, ini2, id2⟩
        case s1r1 =>
          rintro L u W ⟨hB, c0, c1, c2, c3, c4, c5, c6, c7, c8, c9, pre0, ini0, id0, ini1, id1, ini2, id2⟩ hf hd K hK
          dsimp only at hK
          clear hd
          go_simp
          refine hK _ _ ?_ (fun h => by cases h)
          intro s hs
          cases hs
          exact ⟨hB, c0, (fun _ => rfl), c2, c3, c4, c5, c6, c7, c8, c9, pre0, ini0, id0, ini1, id1, ini2, id2⟩
        case s2r1 =>
          rintro L u W ⟨hB, c0, c1, c2, c3, c4, c5, c6, c7, c8, c9, pre0, ini0, id0, ini1, id1, ini2, id2⟩ hf hd K hK
          dsimp only at hK
          have ei1 := ini1 (by cases h : L 9 with | false => rfl | true => rw [id1 h] at hf; cases hf)
          rw [ei1] at hK
          clear hd
          go_simp
          refine hK _ _ ?_ (fun h => by cases h)
          intro s hs
          cases hs
          exact ⟨hB, c0, c1, (fun _ => rfl), c3, c4, c5, c6, c7, c8, c9, pre0, ini0, id0, ini1, (fun _ => rfl), ini2, id2⟩
        case s3r1 =>
          rintro L u W ⟨hB, c0, c1, c2, c3, c4, c5, c6, c7, c8, c9, pre0, ini0, id0, ini1, id1, ini2, id2⟩ hf hd K hK
          dsimp only at hK
          have hd1 : L 1 = true := (by first | (refine hd ⟨1, .data⟩ ?_ rfl; simp; done) | (refine hd ⟨1, .guard⟩ ?_ rfl; simp; done) | (refine hd ⟨1, .phase⟩ ?_ rfl; simp; done) | (refine hd ⟨1, .chain⟩ ?_ rfl; simp; done))
          have hd2 : L 2 = true := (by first | (refine hd ⟨2, .data⟩ ?_ rfl; simp; done) | (refine hd ⟨2, .guard⟩ ?_ rfl; simp; done) | (refine hd ⟨2, .phase⟩ ?_ rfl; simp; done) | (refine hd ⟨2, .chain⟩ ?_ rfl; simp; done))
          have e1 := c1 hd1
          rw [e1] at hK
          have e2 := c2 hd2
          rw [e2] at hK
          clear hd1
          clear hd2
          clear hd
          go_simp
          refine hK _ _ ?_ (fun h => by cases h)
          intro s hs
          cases hs
          exact ⟨hB, c0, c1, c2, (fun _ => rfl), c4, c5, c6, c7, c8, c9, pre0, ini0, id0, ini1, id1, ini2, id2⟩
        case s4r1 =>
          rintro L u W ⟨hB, c0, c1, c2, c3, c4, c5, c6, c7, c8, c9, pre0, ini0, id0, ini1, id1, ini2, id2⟩ hf hd K hK
          dsimp only at hK
          clear hd
          go_simp
          refine hK _ _ ?_ (fun h => by cases h)
          intro s hs
          cases hs
          exact ⟨hB, c0, c1, c2, c3, (fun _ => rfl), c5, c6, c7, c8, c9, pre0, ini0, id0, ini1, id1, ini2, id2⟩
        case s5r1 =>
          rintro L u W ⟨hB, c0, c1, c2, c3, c4, c5, c6, c7, c8, c9, pre0, ini0, id0, ini1, id1, ini2, id2⟩ hf hd K hK
          dsimp only at hK
          have ei2 := ini2 (by cases h : L 9 with | false => rfl | true => rw [id2 h] at hf; cases hf)
          rw [ei2] at hK
          clear hd
          go_simp
          refine hK _ _ ?_ (fun h => by cases h)
          intro s hs
          cases hs
          exact ⟨hB, c0, c1, c2, c3, c4, (fun _ => rfl), c6, c7, c8, c9, pre0, ini0, id0, ini1, id1, ini2, (fun _ => rfl)⟩
        case s6r1 =>
          rintro L u W ⟨hB, c0, c1, c2, c3, c4, c5, c6, c7, c8, c9, pre0, ini0, id0, ini1, id1, ini2, id2⟩ hf hd K hK
          dsimp only at hK
          have hd4 : L 4 = true := (by first | (refine hd ⟨4, .data⟩ ?_ rfl; simp; done) | (refine hd ⟨4, .guard⟩ ?_ rfl; simp; done) | (refine hd ⟨4, .phase⟩ ?_ rfl; simp; done) | (refine hd ⟨4, .chain⟩ ?_ rfl; simp; done))
          have hd5 : L 5 = true := (by first | (refine hd ⟨5, .data⟩ ?_ rfl; simp; done) | (refine hd ⟨5, .guard⟩ ?_ rfl; simp; done) | (refine hd ⟨5, .phase⟩ ?_ rfl; simp; done) | (refine hd ⟨5, .chain⟩ ?_ rfl; simp; done))
          have e4 := c4 hd4
          rw [e4] at hK
          have e5 := c5 hd5
          rw [e5] at hK
          clear hd4
          clear hd5
          clear hd
          go_simp
          refine hK _ _ ?_ (fun h => by cases h)
          intro s hs
          cases hs
          exact ⟨hB, c0, c1, c2, c3, c4, c5, (fun _ => rfl), c7, c8, c9, pre0, ini0, id0, ini1, id1, ini2, id2⟩
        case s7r1 =>
          rintro L u W ⟨hB, c0, c1, c2, c3, c4, c5, c6, c7, c8, c9, pre0, ini0, id0, ini1, id1, ini2, id2⟩ hf hd K hK
          dsimp only at hK
          have hd3 : L 3 = true := (by first | (refine hd ⟨3, .data⟩ ?_ rfl; simp; done) | (refine hd ⟨3, .guard⟩ ?_ rfl; simp; done) | (refine hd ⟨3, .phase⟩ ?_ rfl; simp; done) | (refine hd ⟨3, .chain⟩ ?_ rfl; simp; done))
          have hd6 : L 6 = true := (by first | (refine hd ⟨6, .data⟩ ?_ rfl; simp; done) | (refine hd ⟨6, .guard⟩ ?_ rfl; simp; done) | (refine hd ⟨6, .phase⟩ ?_ rfl; simp; done) | (refine hd ⟨6, .chain⟩ ?_ rfl; simp; done))
          have e3 := c3 hd3
          have e6 := c6 hd6
          clear hd3
          clear hd6
          clear hd
          refine Eq.mpr (if_pos rfl) ?_
          refine wp_copyI _ _ _ 34 34 rfl _ _ e3 e6 (copy_more _ (pre0 hf) HM.out hk) ?_
          have hb : Below gr W (W.setRow gr (rpC n (k + m))) := setRow_below _ (Nat.le_refl _)
          have q : CpQ (W.setRow gr (rpC n (k + m))) gr (.int .i64 (m : Int)) m (rpC n (k + m)) := ⟨rfl, setRow_heap W gr _ _ _ _ (pre0 hf)⟩
          refine hK _ _ ?_ (fun h => by cases h)
          intro s hs
          cases hs
          exact ⟨hB.trans hb, c0, c1, c2, c3, c4, c5, c6, (fun _ => q), c8, c9, (fun h => by cases h), ini0, id0, ini1, id1, ini2, id2⟩
        case s8r1 =>
          rintro L u W ⟨hB, c0, c1, c2, c3, c4, c5, c6, c7, c8, c9, pre0, ini0, id0, ini1, id1, ini2, id2⟩ hf hd K hK
          dsimp only at hK
          have hd0 : L 0 = true := (by first | (refine hd ⟨0, .data⟩ ?_ rfl; simp; done) | (refine hd ⟨0, .guard⟩ ?_ rfl; simp; done) | (refine hd ⟨0, .phase⟩ ?_ rfl; simp; done) | (refine hd ⟨0, .chain⟩ ?_ rfl; simp; done))
          have hd7 : L 7 = true := (by first | (refine hd ⟨7, .data⟩ ?_ rfl; simp; done) | (refine hd ⟨7, .guard⟩ ?_ rfl; simp; done) | (refine hd ⟨7, .phase⟩ ?_ rfl; simp; done) | (refine hd ⟨7, .chain⟩ ?_ rfl; simp; done))
          have e0 := c0 hd0
          rw [e0] at hK
          have e7 := c7 hd7
          obtain ⟨e45, -⟩ := e7
          rw [e45] at hK
          clear hd0
          clear hd7
          clear hd
          go_simp
          refine hK _ _ ?_ (fun h => by cases h)
          intro s hs
          cases hs
          exact ⟨hB, c0, c1, c2, c3, c4, c5, c6, c7, (fun _ => rfl), c9, pre0, ini0, id0, ini1, id1, ini2, id2⟩
        case s9r1 =>
          rintro L u W ⟨hB, c0, c1, c2, c3, c4, c5, c6, c7, c8, c9, pre0, ini0, id0, ini1, id1, ini2, id2⟩ hf hd K hK
          dsimp only at hK
          have hdi0 : L 0 = true := (by first | (refine hd ⟨0, .data⟩ ?_ rfl; simp; done) | (refine hd ⟨0, .phase⟩ ?_ rfl; simp; done) | (refine hd ⟨0, .chain⟩ ?_ rfl; simp; done))
          replace hdi0 := Lib.hid hdi0
          have hdi1 : L 2 = true := (by first | (refine hd ⟨2, .data⟩ ?_ rfl; simp; done) | (refine hd ⟨2, .phase⟩ ?_ rfl; simp; done) | (refine hd ⟨2, .chain⟩ ?_ rfl; simp; done))
          replace hdi1 := Lib.hid hdi1
          have hdi2 : L 5 = true := (by first | (refine hd ⟨5, .data⟩ ?_ rfl; simp; done) | (refine hd ⟨5, .phase⟩ ?_ rfl; simp; done) | (refine hd ⟨5, .chain⟩ ?_ rfl; simp; done))
          replace hdi2 := Lib.hid hdi2
          have hd8 : L 8 = true := (by first | (refine hd ⟨8, .data⟩ ?_ rfl; simp; done) | (refine hd ⟨8, .guard⟩ ?_ rfl; simp; done) | (refine hd ⟨8, .phase⟩ ?_ rfl; simp; done) | (refine hd ⟨8, .chain⟩ ?_ rfl; simp; done))
          have e8 := c8 hd8
          rw [e8] at hK
          clear hd8
          clear hd
          go_simp
          refine hK _ _ ?_ (fun h => by cases h)
          intro s hs
          cases hs
          exact ⟨hB, c0, c1, c2, c3, c4, c5, c6, c7, c8, (fun _ => rfl), pre0, (fun h => by cases h), (fun _ => hdi0.out), (fun h => by cases h), (fun _ => hdi1.out), (fun h => by cases h), (fun _ => hdi2.out)⟩
      case finr1 =>
        rintro L u W hL ⟨hB, c0, c1, c2, c3, c4, c5, c6, c7, c8, c9, pre0, ini0, id0, ini1, id1, ini2, id2⟩
        have e0 := c0 (hL 0 (by decide))
        have e1 := c1 (hL 1 (by decide))
        have e2 := c2 (hL 2 (by decide))
        have e3 := c3 (hL 3 (by decide))
        have e4 := c4 (hL 4 (by decide))
        have e5 := c5 (hL 5 (by decide))
        have e6 := c6 (hL 6 (by decide))
        have kq7 := c7 (hL 7 (by decide))
        have e8 := c8 (hL 8 (by decide))
        have e9 := c9 (hL 9 (by decide))
        clear hL c0 c1 c2 c3 c4 c5 c6 c7 c8 c9 pre0 ini0 id0 ini1 id1 ini2 id2
        try simp only [e0, e1, e2, e3, e4, e5, e6, e8, e9]
        clear e0 e1 e2 e3 e4 e5 e6 e8 e9
        have LQ := Lib.hid kq7.2
        have BZ := Lib.hid (BV.out.trans hB)
        clear kq7 hB
        go_wp2
        go_roundw
        case rel => exact ⟨k + m, by go_num, by omega, by omega, LQ.out, BZ.out⟩
        case measure => simp [intOf]; omega
    · obtain rfl : k = n := by omega
      go_wp2
      go_ret
      exact ⟨⟨_, rfl, own_rep KL.out (Nat.le_of_eq hgr) (by omega)⟩, by rw [hgr]; exact BV.out⟩
end Go.Proofs.Ytkheomaihhcokaa
