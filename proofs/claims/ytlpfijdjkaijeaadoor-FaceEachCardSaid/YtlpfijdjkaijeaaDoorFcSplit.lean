/-
  The library's SplitN at one stroke, three parts at most.
-/
import Derived.Test.YtlpfijdjkaijeaaDoorRel
import Derived.Test.YtlpfijdjkaijeaaDoorRwS
import Derived.Test.YtlpfijdjkaijeaaDoorFcPure
import Derived.Test.YtlpfijdjkaijeaaDoorShelf
namespace Go.Proofs.YtlpfijdjkaijeaaDoor
open Go.RowKit

theorem splitN_core (s : ByteArray) (w : World) (hs : s.size ≤ 1000) :
    Calls Tryd.prog 38 #[.string s, .string ⟨#[47]⟩, .int .i64 0, .int .i64 3] w fun e w' =>
      e = .returned (.slice (some ⟨w.heap.size, 0, none⟩) (Lib.splitB ⟨#[47]⟩ 0 (min 3 (s.size + 1) - 1) s).length (min 3 (s.size + 1))) ∧ w' = w.alloc (.cells (Lib.cellsOf (Lib.splitB ⟨#[47]⟩ 0 (min 3 (s.size + 1) - 1) s) (min 3 (s.size + 1))) 9) :=
  Any.strings_genSplit_core Tryd.lays221 (by kernel_rfl) s ⟨#[47]⟩ 0 3 (min 3 (s.size + 1)) w (by omega) (by decide) (Nat.zero_le _)
    (fun x c _ => (Tryd.strings_Index_one x 47 _).mono fun e w' ⟨he, hw⟩ => ⟨he.trans (congrArg (fun z => Ending.returned (.int .i64 z)) (Lib.index_one _ _).symm), hw⟩)
    ((Tryd.strings_Count_one s 47 w).mono fun e w' ⟨he, hw⟩ => ⟨by rw [he]; show _ = Ending.returned (Value.int .i64 ((Lib.count s.data.toList [47] : Nat) : Int)); rw [Lib.count_one]; rfl, hw⟩)
    (by decide) (by decide) (by rw [if_neg (by decide)]; omega)
set_option maxHeartbeats 1000000 in
theorem splitN_any (s : ByteArray) (w : World) (hs : s.size ≤ 1000) :
    Calls Tryd.prog 31 #[.string s, .string ⟨#[47]⟩, .int .i64 3] w fun e w' =>
      e = .returned (.slice (some ⟨w.heap.size, 0, none⟩) (Lib.splitB ⟨#[47]⟩ 0 (min 3 (s.size + 1) - 1) s).length (min 3 (s.size + 1))) ∧ w' = w.alloc (.cells (Lib.cellsOf (Lib.splitB ⟨#[47]⟩ 0 (min 3 (s.size + 1) - 1) s) (min 3 (s.size + 1))) 9) := by
  have C := Lib.hid (splitN_core s w hs)
  obtain ⟨sep, hsep⟩ : ∃ x : ByteArray, (⟨#[47]⟩ : ByteArray) = x := ⟨_, rfl⟩
  rw [hsep] at C ⊢
  clear hsep
  go_enter Tryd.func31, Tryd.ntmps31
  go_wp2_with (go_at_call 38; refine C.out.mono ?_; rintro e w' ⟨rfl, hw⟩; rw [hw])
  go_ret
  exact ⟨rfl, rfl⟩
/-- The parts, as the program holds them: L of them in a block of N cells. -/
def RetSplit (l : List UInt8) (w : World) (e : Ending) (w' : World) : Prop :=
  ∃ (L N : Nat) (F : Nat → ByteArray), e = .returned (.slice (some ⟨w.heap.size, 0, none⟩) L N) ∧ 1 ≤ L ∧ L ≤ 3 ∧ L ≤ N ∧ N ≤ 3 ∧ Below w.heap.size w w' ∧
    (∀ i, i < L → w'.cell? ⟨w.heap.size, i, none⟩ = some (.string (F i))) ∧ (List.range L).map (fun i => (F i).data.toList) = partsS l ∧ w.heap.size < w'.heap.size ∧ ∀ i, (F i).size ≤ l.length
theorem split_any (s : ByteArray) (w : World) (hs : s.size ≤ 1000) :
    Calls Tryd.prog 31 #[.string s, .string ⟨#[47]⟩, .int .i64 3] w (RetSplit s.data.toList w) := by
  refine (splitN_any s w hs).mono fun e w' ⟨he, hw⟩ => ?_
  have hl : s.data.toList.length = s.size := by simp
  have hp := Lib.splitB_data ⟨#[47]⟩ 0 (min 3 (s.size + 1) - 1) s
  rw [show (⟨#[47]⟩ : ByteArray).data.toList = [47] from rfl, ← hl, split_parts, hl] at hp
  have hle := Lib.splitB_length_le ⟨#[47]⟩ 0 (min 3 (s.size + 1) - 1) s
  generalize Lib.splitB ⟨#[47]⟩ 0 (min 3 (s.size + 1) - 1) s = P at *
  have hP : 1 ≤ P.length ∧ P.length ≤ 3 := by
    have e1 : P.length = (partsS s.data.toList).length := by rw [← hp]; simp
    rcases parts_cases s.data.toList with ⟨a, h⟩ | ⟨a, b, h⟩ | ⟨a, b, c, h⟩ <;> rw [h] at e1 <;> simp only [List.length_cons, List.length_nil] at e1 <;> omega
  have hsz : ∀ x ∈ P, x.size ≤ s.data.toList.length := by
    have hh : ∀ t ∈ partsS s.data.toList, t.length ≤ s.data.toList.length := by
      unfold partsS
      intro t ht
      cases h : cutS s.data.toList with
      | none => rw [h] at ht; simp only [List.mem_singleton] at ht; subst ht; exact Nat.le_refl _
      | some p =>
        obtain ⟨a, r⟩ := p
        have e1 := congrArg List.length (cut_some _ a r h).2.1
        simp only [List.length_append, List.length_cons] at e1
        rw [h] at ht
        cases h' : cutS r with
        | none =>
          simp only [h'] at ht
          rcases List.mem_cons.1 ht with q | q
          · subst q; omega
          · rw [List.mem_singleton] at q; subst q; omega
        | some q =>
          obtain ⟨b, c⟩ := q
          have e2 := congrArg List.length (cut_some _ b c h').2.1
          simp only [List.length_append, List.length_cons] at e2
          simp only [h'] at ht
          rcases List.mem_cons.1 ht with q | q
          · subst q; omega
          · rcases List.mem_cons.1 q with q | q
            · subst q; omega
            · rw [List.mem_singleton] at q; subst q; omega
    intro x hx
    have := hh x.data.toList (by rw [← hp]; exact List.mem_map_of_mem hx)
    simpa using this
  have hN : P.length ≤ min 3 (s.size + 1) := by omega
  subst hw
  refine ⟨P.length, min 3 (s.size + 1), fun i => (P[i]?).getD ⟨#[]⟩, he, hP.1, hP.2, hN, by omega, below_new1 _ _, fun i hi => ?_, ?_, by simp, fun i => ?_⟩
  · refine alloc_cell rfl ?_
    unfold Lib.cellsOf
    rw [List.getElem?_toArray, List.getElem?_append_left (by simpa using hi), List.getElem?_map, List.getElem?_eq_getElem hi]
    simp [hi]
  · rw [← hp]
    apply List.ext_getElem
    · simp
    · intro i h1 h2
      have hi : i < P.length := by simpa using h1
      simp [hi]
  · show ((P[i]?).getD ⟨#[]⟩).size ≤ _
    rcases Nat.lt_or_ge i P.length with q | q
    · rw [List.getElem?_eq_getElem q]; exact hsz _ (List.getElem_mem q)
    · rw [List.getElem?_eq_none q]; exact Nat.zero_le _
end Go.Proofs.YtlpfijdjkaijeaaDoor
