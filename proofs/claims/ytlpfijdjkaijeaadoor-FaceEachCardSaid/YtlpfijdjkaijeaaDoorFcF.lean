/-
  The reference of layer 7: cut.
-/
import Derived.Test.YtlpfijdjkaijeaaDoorAppG
import Derived.Test.YtlpfijdjkaijeaaDoorFcA
import Derived.Test.YtlpfijdjkaijeaaDoorItS
namespace Go.Proofs.YtlpfijdjkaijeaaDoor
open Go.RowKit

theorem infoS : (Tryd.prog.info? 9).map (fun i => (i.zero, i.size, i.bytes)) = some (some (.string ⟨#[]⟩), 1, 16) := by kernel_rfl
def seg (l : List UInt8) (a i : Nat) : List UInt8 := (l.drop a).take (i - a)
theorem seg_nil (l : List UInt8) (i : Nat) : seg l i i = [] := by unfold seg; simp
theorem seg_snoc (s : ByteArray) (a i : Nat) (ha : a ≤ i) (h : i < s.size) : seg s.data.toList a (i + 1) = seg s.data.toList a i ++ [s[i]'h] := by
  have hl : s.data.toList.length = s.size := by simp
  unfold seg
  rw [show i + 1 - a = i - a + 1 from by omega, List.take_succ_eq_append_getElem (by rw [List.length_drop]; omega)]
  congr 2
  rw [List.getElem_drop]
  simp only [show a + (i - a) = i from by omega]
  rfl
theorem seg_end (s : ByteArray) (a : Nat) : seg s.data.toList a s.size = s.data.toList.drop a := by
  unfold seg
  exact List.take_of_length_le (by rw [List.length_drop]; simp)
theorem ext_seg (s : ByteArray) (a i : Nat) : (s.extract a i).data.toList = seg s.data.toList a i := by
  rw [ByteArray.data_extract, Array.toList_extract]; rfl
def RetCutR (s : List UInt8) (w : World) (e : Ending) (w' : World) : Prop :=
  Below w.heap.size w w' ∧ ∃ (L : List ByteArray) (a : Option Addr) (c : Nat), e = .returned (.slice a L.length c) ∧ RowS w' a L.length c (fun i => (L[i]?).getD ⟨#[]⟩) ∧ c ≤ 9223372036854775807 ∧ L.map (fun x => x.data.toList) = allA [] s

set_option maxRecDepth 100000 in
set_option maxHeartbeats 4000000 in
theorem rcut_any (s : ByteArray) (w : World) (hs : s.size ≤ 1000) :
    Calls Tryd.prog 23 #[.string s] w (RetCutR s.data.toList w) := by
  have HB := Lib.hid (Below.refl w.heap.size w)
  have HL : Hid (s.data.toList.length = s.size) := Lib.hid (by simp)
  have HA : Hid (allA [] s.data.toList = allA (seg s.data.toList 0 0) (s.data.toList.drop 0)) := Lib.hid (by rw [seg_nil, List.drop_zero])
  go_enter Tryd.func23, Tryd.ntmps23
  go_wp2_with fail
  go_loopw [3, 4, 5] (fun v f x wr => ∃ (i fr : Nat) (L : List ByteArray), f = .int .i64 fr ∧ x = .int .i64 i ∧ fr ≤ i ∧ i ≤ s.size ∧ L.length ≤ i ∧ wr.ownsRow w.heap.size 9 1 v L.length (L.map Value.string) ∧
    L.map (fun x => x.data.toList) ++ allA (seg s.data.toList fr i) (s.data.toList.drop i) = allA [] s.data.toList ∧ Below w.heap.size w wr) (fun _ _ x _ => s.size - (intOf x).toNat)
  case atStart => exact ⟨0, 0, [], rfl, rfl, Nat.le_refl _, Nat.zero_le _, Nat.le_refl _, World.ownsRow_nil _ _ _ _, by rw [HA.out]; rfl, HB.out⟩
  case round =>
    clear HA HB
    obtain ⟨i, fr, L, rfl, rfl, hf, hi, hL, hO, hA, hB⟩ := hrel
    have HB := Lib.hid hB
    have HO := Lib.hid hO
    have HA := Lib.hid hA
    clear hB hO hA
    have hbs := HB.out.size
    have hkk : (L.length + 1) * 16 ≤ 140737488355328 := by omega
    have hk2 : L.length ≤ 1000000 := by omega
    by_cases hlt : i < s.size
    · have i0 : (0 : Int) ≤ (i : Int) := by omega
      have i1 : (i : Int) < s.size := by omega
      have R := Lib.hid (rest_at s i hlt)
      have SN := Lib.hid (seg_snoc s fr i hf hlt)
      have hnt := (s[i]'hlt).toNat_lt
      obtain ⟨b, hb⟩ : ∃ b, s[i]'hlt = b := ⟨_, rfl⟩
      have HBB := Lib.hid hb
      rw [hb] at R SN hnt
      have f0 : (0 : Int) ≤ (fr : Int) := by omega
      have f1 : (fr : Int) ≤ (i : Int) := by omega
      have f2 : (i : Int) ≤ s.size := by omega
      have q1 : IntKind.i64.wrap ((i : Int) + 1) = (i : Int) + 1 := by rw [IntKind.wrap_i64]; omega
      by_cases h47 : b = 47
      · have q0 : ((b.toNat : Int) == 47) = true := by rw [h47]; rfl
        have E1 : Hid (L.map (fun x => x.data.toList) ++ allA (seg s.data.toList fr i) (s.data.toList.drop i) = (L ++ [s.extract fr i]).map (fun x => x.data.toList) ++ allA (seg s.data.toList (i + 1) (i + 1)) (s.data.toList.drop (i + 1))) := Lib.hid (by
          rw [R.out, allA_cons, if_pos h47, seg_nil, List.map_append, List.map_singleton, ext_seg, List.append_assoc]; rfl)
        have LL : Hid ((L ++ [s.extract fr i]).length = L.length + 1) := Lib.hid (by simp)
        have LM : Hid (L.map Value.string ++ [.string (s.extract fr i)] = (L ++ [s.extract fr i]).map Value.string) := Lib.hid (by simp)
        clear h47
        have hO := HO.out
        go_wp2_with (at_builtin; refine app_one rfl _ _ 24 9 (.string ⟨#[]⟩) 1 16 Tryd.underlying24 infoS rfl (by decide) rfl w.heap.size u3 L.length (L.map Value.string) [.string (s.extract fr i)] rfl (fun u hu => by rw [List.mem_singleton] at hu; subst hu; rfl) rfl hO rfl hkk hk2 hbs ?_)
        intro v' w3 hO3 hB3
        rw [LM.out, ← LL.out] at hO3
        replace HB := Lib.hid (HB.out.trans hB3)
        have LX := LL.out
        generalize L ++ [s.extract fr i] = L' at *
        clear hB3 HO hO LM LL
        go_wp2_with fail
        go_roundw
        case rel => exact ⟨i + 1, i + 1, L', by go_num, by go_num, Nat.le_refl _, hlt, by omega, hO3, by rw [← E1.out]; exact HA.out, HB.out⟩
        case measure => simp [intOf]; omega
      · have q0 : ((b.toNat : Int) == 47) = false := by rw [beq_eq_false_iff_ne]; intro q; exact h47 (UInt8.toNat_inj.1 (by show b.toNat = 47; omega))
        have E1 : Hid (L.map (fun x => x.data.toList) ++ allA (seg s.data.toList fr i) (s.data.toList.drop i) = L.map (fun x => x.data.toList) ++ allA (seg s.data.toList fr (i + 1)) (s.data.toList.drop (i + 1))) := Lib.hid (by
          rw [R.out, allA_cons, if_neg h47, SN.out])
        clear h47
        go_wp2_with fail
        go_roundw
        case rel => exact ⟨i + 1, fr, L, rfl, by go_num, by omega, hlt, by omega, HO.out, by rw [← E1.out]; exact HA.out, HB.out⟩
        case measure => simp [intOf]; omega
    · obtain rfl : i = s.size := by omega
      have f0 : (0 : Int) ≤ (fr : Int) := by omega
      have f1 : (fr : Int) ≤ (s.size : Int) := by omega
      have E1 : Hid (L.map (fun x => x.data.toList) ++ allA (seg s.data.toList fr s.size) (s.data.toList.drop s.size) = (L ++ [s.extract fr s.size]).map (fun x => x.data.toList)) := Lib.hid (by
          rw [List.drop_eq_nil_of_le (by simp), List.map_append, List.map_singleton, ext_seg]; rfl)
      have LL : Hid ((L ++ [s.extract fr s.size]).length = L.length + 1) := Lib.hid (by simp)
      have LM : Hid (L.map Value.string ++ [.string (s.extract fr s.size)] = (L ++ [s.extract fr s.size]).map Value.string) := Lib.hid (by simp)
      have hO := HO.out
      go_wp2_with (at_builtin; refine app_one rfl _ _ 24 9 (.string ⟨#[]⟩) 1 16 Tryd.underlying24 infoS rfl (by decide) rfl w.heap.size u3 L.length (L.map Value.string) [.string (s.extract fr s.size)] rfl (fun u hu => by rw [List.mem_singleton] at hu; subst hu; rfl) rfl hO rfl hkk hk2 hbs ?_)
      intro v' w3 hO3 hB3
      rw [LM.out, ← LL.out] at hO3
      replace HB := Lib.hid (HB.out.trans hB3)
      obtain ⟨hlen, a, c, rfl, hnc, hc, hr⟩ := rowS_of_own hO3
      have HR := Lib.hid hr
      generalize L ++ [s.extract fr s.size] = L' at *
      clear hB3 HO hO LM LL hO3 hr
      go_wp2_with fail
      go_ret
      exact ⟨HB.out, L', a, c, rfl, HR.out, hc, by rw [← E1.out]; exact HA.out⟩
end Go.Proofs.YtlpfijdjkaijeaaDoor
