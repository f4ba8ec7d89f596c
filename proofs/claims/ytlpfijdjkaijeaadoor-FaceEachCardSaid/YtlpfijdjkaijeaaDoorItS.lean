/-
  A text's iterator in memory, and where it stands.
-/
import Derived.Test.YtlpfijdjkaijeaaDoorRel
import Derived.Lib.OthersKept
import Derived.BigRegion
import Derived.RegionTactic
import Derived.Deep.Cut
namespace Go.Proofs.YtlpfijdjkaijeaaDoor
open Go.RowKit

/-- A text's iterator, and where it stands. -/
def ItAt (W : World) (k : Nat) (s : ByteArray) (i : Nat) : Prop := W.heap[k]? = some (.stringIter s i)
theorem ItAt.lt {W : World} {k : Nat} {s : ByteArray} {i : Nat} (h : ItAt W k s i) : k < W.heap.size := (Array.getElem?_eq_some_iff.1 h).1
theorem ItAt.keep {W W' : World} {k : Nat} {s : ByteArray} {i : Nat} (h : ItAt W k s i) (hb : Below W.heap.size W W') : ItAt W' k s i := (hb.block k h.lt).trans h
theorem ItAt.set {W : World} {k g o : Nat} {s : ByteArray} {i : Nat} {v : Value} (h : ItAt W k s i) (hn : k ≠ g) : ItAt (W.setCell ⟨g, o, none⟩ v) k s i := (Below.heap_setCell W ⟨g, o, none⟩ v k hn).trans h
theorem ItAt.next {W : World} {k : Nat} {s : ByteArray} {i : Nat} (h : ItAt W k s i) (j : Nat) : ItAt (W.iterAt k s j) k s j := Lib.iterAt_heap W k s i j h
theorem ItAt.new (W : World) (s : ByteArray) : ItAt (W.iter s 0) W.heap.size s 0 := World.iter_heap W s 0
theorem ItAt.pos {W : World} {k : Nat} {s : ByteArray} {i : Nat} (h : ItAt W k s i) : W.iterPos k = i := iterPos_of h
theorem Lok.iterAt {W : World} {g k : Nat} {t : TypeId} {cs : Array Value} {s : ByteArray} {j : Nat} (h : Lok W g t cs) (hn : g ≠ k) : Lok (W.iterAt k s j) g t cs := (Lib.iterAt_other W k g s j hn).trans h
theorem Lok.iter {W : World} {g : Nat} {t : TypeId} {cs : Array Value} {s : ByteArray} (h : Lok W g t cs) : Lok (W.iter s 0) g t cs := Lok.keep h ((Below.refl _ W).alloc (Nat.le_refl _) _)
theorem rest_at (s : ByteArray) (i : Nat) (h : i < s.size) : s.data.toList.drop i = s[i] :: s.data.toList.drop (i + 1) := by
  have h' : i < s.data.toList.length := by simpa using h
  rw [List.drop_eq_getElem_cons h']
  rfl
theorem rune_of (s : ByteArray) (i : Nat) (h : i < s.size) : ∃ r wd : Nat, Utf8.decode s i = (r, wd) ∧ ((s[i]'h).toNat < 128 → r = (s[i]'h).toNat ∧ wd = 1) ∧ (128 ≤ (s[i]'h).toNat → 128 ≤ r) ∧ r ≤ 2147483647 := by
  refine ⟨(Utf8.decode s i).1, (Utf8.decode s i).2, rfl, fun ha => ?_, fun ha => (decode_high s i h ha).1, decode_le s i⟩
  have e := decode_ascii s i h ha
  exact ⟨congrArg Prod.fst e, congrArg Prod.snd e⟩
theorem next_at {W : World} {k : Nat} {s : ByteArray} {i r wd : Nat} (h : ItAt W k s i) (hi : i < s.size) (hd : Utf8.decode s i = (r, wd)) :
    ∀ ty, (Instr.next (.pointer (some ⟨k, 0, none⟩)) true ty).run Tryd.prog W = .ok (.tuple #[.bool true, .int .i64 i, .int .i32 r]) (W.iterAt k s (i + wd)) := fun ty => by
  rw [Lib.run_next_any_at W k s i ty h hi, hd]
theorem next_end {W : World} {k : Nat} {s : ByteArray} {i : Nat} (h : ItAt W k s i) (hi : ¬ i < s.size) :
    ∀ ty, (Instr.next (.pointer (some ⟨k, 0, none⟩)) true ty).run Tryd.prog W = .ok (.tuple #[.bool false]) W := fun ty => Lib.run_next_end_at W k s i ty h hi

end Go.Proofs.YtlpfijdjkaijeaaDoor
