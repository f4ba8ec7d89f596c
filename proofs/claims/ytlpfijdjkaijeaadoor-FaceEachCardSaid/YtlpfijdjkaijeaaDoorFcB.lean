/-
  Package face: cut.
-/
import Derived.Test.YtlpfijdjkaijeaaDoorFcA
import Derived.Test.YtlpfijdjkaijeaaDoorFcSplit
import Derived.Laws.CopyOwn
namespace Go.Proofs.YtlpfijdjkaijeaaDoor
open Go.RowKit

/-- A block holds L texts. -/
def StrAt (W : World) (g L : Nat) (F : Nat → ByteArray) : Prop := g < W.heap.size ∧ ∀ i, i < L → W.cell? ⟨g, i, none⟩ = some (.string (F i))
theorem StrAt.keep {W W' : World} {g L : Nat} {F : Nat → ByteArray} (h : StrAt W g L F) (hb : Below W.heap.size W W') : StrAt W' g L F :=
  ⟨Nat.lt_of_lt_of_le h.1 hb.size, fun i hi => keepc hb (h.2 i hi)⟩
theorem StrAt.cells {W : World} {g L : Nat} {F : Nat → ByteArray} (h : StrAt W g L F) : ∀ j v, ((List.range L).map fun i => Value.string (F i))[j]? = some v → W.cell? ((⟨g, 0, none⟩ : Addr).add j) = some v := by
  intro j v hj
  rw [List.getElem?_map] at hj
  obtain ⟨i, hi, rfl⟩ := Option.map_eq_some_iff.1 hj
  rcases Nat.lt_or_ge j L with q | q
  · rw [List.getElem?_range q] at hi
    cases hi
    have := h.2 j q
    rw [Go.WideShapes.add_plain, Nat.zero_add]; exact this
  · rw [List.getElem?_eq_none (by simpa using q)] at hi; cases hi
def RetCut (l : List UInt8) (w : World) (e : Ending) (w' : World) : Prop :=
  Below w.heap.size w w' ∧ ((formS (partsS l) = none ∧ e = .returned (.tuple #[.agg #[.string ⟨#[]⟩, .string ⟨#[]⟩, .string ⟨#[]⟩], .bool false])) ∨
    ∃ a b c : ByteArray, formS (partsS l) = some (a.data.toList, b.data.toList, c.data.toList) ∧ e = .returned (.tuple #[.agg #[.string a, .string b, .string c], .bool true]))
/-- May part j of L stand there? -/
def okP (L : Nat) (F : Nat → ByteArray) (j : Nat) : Prop := wOK (F j).data.toList = true ∨ ((F j).data.toList = [] ∧ j = 1 ∧ L = 3)
def nE : ByteArray := ⟨#[]⟩
def pieceF (L : Nat) (F : Nat → ByteArray) (j : Nat) : ByteArray := if j < L then F j else nE
theorem form_ok {L : Nat} {F : Nat → ByteArray} (h1 : 1 ≤ L) (h3 : L ≤ 3) (h : ∀ j, j < L → okP L F j) :
    formS ((List.range L).map fun i => (F i).data.toList) = some ((pieceF L F 0).data.toList, (pieceF L F 1).data.toList, (pieceF L F 2).data.toList) := by
  have e0 : (nE.data.toList : List UInt8) = [] := rfl
  rcases (by omega : L = 1 ∨ L = 2 ∨ L = 3) with rfl | rfl | rfl
  · have a := h 0 (by decide)
    show (if wOK (F 0).data.toList = true then some ((F 0).data.toList, [], []) else none) = _
    rw [if_pos (by rcases a with a | a; exact a; omega)]; rfl
  · have a := h 0 (by decide)
    have b := h 1 (by decide)
    show (if wOK (F 0).data.toList = true ∧ wOK (F 1).data.toList = true then some ((F 0).data.toList, (F 1).data.toList, []) else none) = _
    rw [if_pos ⟨by rcases a with a | a; exact a; omega, by rcases b with b | b; exact b; omega⟩]; rfl
  · have a := h 0 (by decide)
    have b := h 1 (by decide)
    have c := h 2 (by decide)
    show (if wOK (F 0).data.toList = true ∧ ((F 1).data.toList = [] ∨ wOK (F 1).data.toList = true) ∧ wOK (F 2).data.toList = true then some ((F 0).data.toList, (F 1).data.toList, (F 2).data.toList) else none) = _
    rw [if_pos ⟨by rcases a with a | a; exact a; omega, by rcases b with b | b; exact .inr b; exact .inl b.1, by rcases c with c | c; exact c; omega⟩]; rfl
theorem form_no {L : Nat} {F : Nat → ByteArray} (h1 : 1 ≤ L) (h3 : L ≤ 3) {j : Nat} (hj : j < L) (h : ¬ okP L F j) :
    formS ((List.range L).map fun i => (F i).data.toList) = none := by
  have hn : ¬ wOK (F j).data.toList = true := fun q => h (.inl q)
  rcases (by omega : L = 1 ∨ L = 2 ∨ L = 3) with rfl | rfl | rfl
  · obtain rfl : j = 0 := by omega
    show (if wOK (F 0).data.toList = true then some ((F 0).data.toList, ([] : List UInt8), ([] : List UInt8)) else none) = _
    rw [if_neg hn]
  · show (if wOK (F 0).data.toList = true ∧ wOK (F 1).data.toList = true then some ((F 0).data.toList, (F 1).data.toList, ([] : List UInt8)) else none) = _
    rw [if_neg]
    rintro ⟨a, b⟩
    rcases (by omega : j = 0 ∨ j = 1) with rfl | rfl
    · exact hn a
    · exact hn b
  · show (if wOK (F 0).data.toList = true ∧ ((F 1).data.toList = [] ∨ wOK (F 1).data.toList = true) ∧ wOK (F 2).data.toList = true then some ((F 0).data.toList, (F 1).data.toList, (F 2).data.toList) else none) = _
    rw [if_neg]
    rintro ⟨a, b, c⟩
    rcases (by omega : j = 0 ∨ j = 1 ∨ j = 2) with rfl | rfl | rfl
    · exact hn a
    · rcases b with b | b
      · exact h (.inr ⟨b, rfl, rfl⟩)
      · exact hn b
    · exact hn c
theorem splice_p {L : Nat} (h1 : 1 ≤ L) (h3 : L ≤ 3) (F : Nat → ByteArray) : ((#[Value.string ⟨#[]⟩, Value.string ⟨#[]⟩, Value.string ⟨#[]⟩] : Array Value).toList.take 0 ++ ((List.range L).map fun i => Value.string (F i)) ++ (#[Value.string ⟨#[]⟩, Value.string ⟨#[]⟩, Value.string ⟨#[]⟩] : Array Value).toList.drop (0 + ((List.range L).map fun i => Value.string (F i)).length)).toArray = #[.string (pieceF L F 0), .string (pieceF L F 1), .string (pieceF L F 2)] := by
  rcases (by omega : L = 1 ∨ L = 2 ∨ L = 3) with rfl | rfl | rfl <;> rfl
theorem empty_iff (s : ByteArray) : s.data.toList = [] ↔ s.size = 0 := by
  rw [← List.length_eq_zero_iff]; simp
theorem info3 : (Tryd.prog.info? 9).map (·.size) = some 1 := by kernel_rfl

set_option maxRecDepth 100000 in
set_option maxHeartbeats 4000000 in
theorem cut_any3 (s : ByteArray) (w : World) (hs : s.size ≤ 1000) :
    Calls Tryd.prog 22 #[.string s] w (RetCut s.data.toList w) := by
  have C0 := Lib.hid (fun W => split_any s W hs)
  clear hs
  go_enter Tryd.func22, Tryd.ntmps22
  go_upto_region 1 with fail
  have hb0 := below_new1 w (.cells #[.string ⟨#[]⟩, .string ⟨#[]⟩, .string ⟨#[]⟩] 48)
  have z0 : (w.alloc (.cells #[.string ⟨#[]⟩, .string ⟨#[]⟩, .string ⟨#[]⟩] 48)).heap.size = w.heap.size + 1 := by simp
  have HB := Lib.hid hb0
  have k0 := Lib.hid (Lok.new w 48 #[.string ⟨#[]⟩, .string ⟨#[]⟩, .string ⟨#[]⟩])
  clear hb0
  generalize w.alloc (.cells #[.string ⟨#[]⟩, .string ⟨#[]⟩, .string ⟨#[]⟩] 48) = V0 at *
  have g00 := k0.out.lt
  clear z0
  go_wp2_with fail
  (with_reducible refine (C0.out _).mono ?_); rintro e w1 ⟨L, N, F, rfl, hL1, hL3, hLN, hN3, hb, hcell, hP, hlt, -⟩
  clear C0
  replace HB := Lib.hid (HB.out.trans (hb.mono HB.out.size))
  replace k0 := Lib.hid (k0.out.keep hb)
  have k1 : Hid (StrAt w1 V0.heap.size L F) := Lib.hid ⟨hlt, hcell⟩
  have HP := Lib.hid hP
  have g01 : w.heap.size < V0.heap.size := g00
  clear hb hcell hP hlt g00
  generalize V0.heap.size = g1 at *
  go_wp2_with fail
  go_loopw [14] (fun x wr => ∃ k : Nat, x = .int .i64 k ∧ k ≤ L ∧ (∀ j, j < k → okP L F j) ∧ Lok wr w.heap.size 48 #[.string ⟨#[]⟩, .string ⟨#[]⟩, .string ⟨#[]⟩] ∧ StrAt wr g1 L F ∧ Below w.heap.size w wr) (fun x _ => L - (intOf x).toNat)
  case atStart => exact ⟨0, rfl, Nat.zero_le _, fun j hj => by omega, k0.out, k1.out, HB.out⟩
  case round =>
    clear HB
    obtain ⟨k, rfl, hk, hO, hK0, hK1, hB⟩ := hrel
    have HO := Lib.hid hO
    have HB := Lib.hid hB
    have K0 := Lib.hid hK0
    have K1 := Lib.hid hK1
    clear hO hB hK0 hK1 k0 k1
    by_cases hlt : k < L
    · have c1 := K1.out.2 k hlt
      have C := Lib.hid (fun W => whole_any (F k) W)
      have E : Hid (okP L F k ↔ (wholeS (F k).data.toList).2 = 0 ∨ ((F k).size = 0 ∧ k = 1 ∧ L = 3)) := Lib.hid (by unfold okP; rw [wOK_iff, empty_iff])
      have ES := empty_iff (F k)
      generalize wholeS (F k).data.toList = p at *
      obtain ⟨n, x⟩ := p
      unfold retW at C
      obtain ⟨S, hS⟩ : ∃ S, F k = S := ⟨_, rfl⟩
      rw [hS] at c1 C E ES
      dsimp only at C E
      clear hS
      have i0 : (0 : Int) ≤ (k : Int) := by omega
      have i1 : (k : Int) < L := by omega
      by_cases hz : S.size = 0
      · have e1 : S.toList.isEmpty = true := by rw [Lib.toList_data, ES.2 hz]; rfl
        by_cases hk1 : k = 1
        · subst hk1
          by_cases hL : L = 3
          · subst hL
            have OK : Hid (okP 3 F 1) := Lib.hid (E.out.2 (.inr ⟨hz, rfl, rfl⟩))
            clear E C ES
            go_wp2_with fail
            go_roundw
            case rel => exact ⟨2, by go_num, by decide, fun j hj => by rcases (by omega : j < 1 ∨ j = 1) with q | q; exact HO.out j q; subst q; exact OK.out, K0.out, K1.out, HB.out⟩
            case measure => simp [intOf]
          · have e3 : ((L : Int) == 3) = false := by rw [beq_eq_false_iff_ne]; omega
            clear ES
            by_cases h0 : x = 0
            · subst h0
              have OK : Hid (okP L F 1) := Lib.hid (E.out.2 (.inl rfl))
              clear E
              go_wp2_with fail
              (((with_reducible refine (C.out _).mono ?_); rintro e w2 ⟨rfl, hb2⟩); replace HB := Lib.hid (HB.out.trans (hb2.mono HB.out.size)); replace K0 := Lib.hid (K0.out.keep hb2); replace K1 := Lib.hid (K1.out.keep hb2); clear hb2)
              go_wp2_with fail
              go_roundw
              case rel => exact ⟨2, by go_num, by omega, fun j hj => by rcases (by omega : j < 1 ∨ j = 1) with q | q; exact HO.out j q; subst q; exact OK.out, K0.out, K1.out, HB.out⟩
              case measure => simp [intOf]; omega
            · have x1 : (x != 0) = true := by simp [h0]
              have NO : Hid (¬ okP L F 1) := Lib.hid (fun q => by rcases E.out.1 q with r | r; exact h0 r; omega)
              clear E
              go_wp2_with fail
              (((with_reducible refine (C.out _).mono ?_); rintro e w2 ⟨rfl, hb2⟩); replace HB := Lib.hid (HB.out.trans (hb2.mono HB.out.size)); replace K0 := Lib.hid (K0.out.keep hb2); clear hb2)
              have g01' : w.heap.size < w2.heap.size := K0.out.lt
              have z0 := K0.out.cell (i := 0) rfl
              have z1 := K0.out.cell (i := 1) rfl
              have z2 := K0.out.cell (i := 2) rfl
              have f0 := K0.out.frozen 0
              have f1 := K0.out.frozen 1
              have f2 := K0.out.frozen 2
              go_wp2_with fail
              exact bodyPost_ret (v := .tuple #[.agg #[.string ⟨#[]⟩, .string ⟨#[]⟩, .string ⟨#[]⟩], .bool false]) (by simp [results, Tryd.results22, go_sem, z0, z1, z2]) rfl ⟨((HB.out.setCell (by simp) _).setCell (by simp) _).setCell (by simp) _, .inl ⟨by rw [← HP.out]; exact form_no hL1 hL3 hlt NO.out, rfl⟩⟩
        · have e2 : ((k : Int) == 1) = false := by rw [beq_eq_false_iff_ne]; omega
          clear ES
          by_cases h0 : x = 0
          · subst h0
            have OK : Hid (okP L F k) := Lib.hid (E.out.2 (.inl rfl))
            clear E
            go_wp2_with fail
            (((with_reducible refine (C.out _).mono ?_); rintro e w2 ⟨rfl, hb2⟩); replace HB := Lib.hid (HB.out.trans (hb2.mono HB.out.size)); replace K0 := Lib.hid (K0.out.keep hb2); replace K1 := Lib.hid (K1.out.keep hb2); clear hb2)
            go_wp2_with fail
            go_roundw
            case rel => exact ⟨k + 1, by go_num, hlt, fun j hj => by rcases (by omega : j < k ∨ j = k) with q | q; exact HO.out j q; subst q; exact OK.out, K0.out, K1.out, HB.out⟩
            case measure => simp [intOf]; omega
          · have x1 : (x != 0) = true := by simp [h0]
            have NO : Hid (¬ okP L F k) := Lib.hid (fun q => by rcases E.out.1 q with r | r; exact h0 r; omega)
            clear E
            go_wp2_with fail
            (((with_reducible refine (C.out _).mono ?_); rintro e w2 ⟨rfl, hb2⟩); replace HB := Lib.hid (HB.out.trans (hb2.mono HB.out.size)); replace K0 := Lib.hid (K0.out.keep hb2); clear hb2)
            have g01' : w.heap.size < w2.heap.size := K0.out.lt
            have z0 := K0.out.cell (i := 0) rfl
            have z1 := K0.out.cell (i := 1) rfl
            have z2 := K0.out.cell (i := 2) rfl
            have f0 := K0.out.frozen 0
            have f1 := K0.out.frozen 1
            have f2 := K0.out.frozen 2
            go_wp2_with fail
            exact bodyPost_ret (v := .tuple #[.agg #[.string ⟨#[]⟩, .string ⟨#[]⟩, .string ⟨#[]⟩], .bool false]) (by simp [results, Tryd.results22, go_sem, z0, z1, z2]) rfl ⟨((HB.out.setCell (by simp) _).setCell (by simp) _).setCell (by simp) _, .inl ⟨by rw [← HP.out]; exact form_no hL1 hL3 hlt NO.out, rfl⟩⟩
      · have e1 : S.toList.isEmpty = false := by
          rw [Lib.toList_data]
          cases h : S.data.toList with
          | nil => exact absurd (ES.1 h) hz
          | cons _ _ => rfl
        clear ES
        by_cases h0 : x = 0
        · subst h0
          have OK : Hid (okP L F k) := Lib.hid (E.out.2 (.inl rfl))
          clear E
          go_wp2_with fail
          (((with_reducible refine (C.out _).mono ?_); rintro e w2 ⟨rfl, hb2⟩); replace HB := Lib.hid (HB.out.trans (hb2.mono HB.out.size)); replace K0 := Lib.hid (K0.out.keep hb2); replace K1 := Lib.hid (K1.out.keep hb2); clear hb2)
          go_wp2_with fail
          go_roundw
          case rel => exact ⟨k + 1, by go_num, hlt, fun j hj => by rcases (by omega : j < k ∨ j = k) with q | q; exact HO.out j q; subst q; exact OK.out, K0.out, K1.out, HB.out⟩
          case measure => simp [intOf]; omega
        · have x1 : (x != 0) = true := by simp [h0]
          have NO : Hid (¬ okP L F k) := Lib.hid (fun q => by rcases E.out.1 q with r | r; exact h0 r; omega)
          clear E
          go_wp2_with fail
          (((with_reducible refine (C.out _).mono ?_); rintro e w2 ⟨rfl, hb2⟩); replace HB := Lib.hid (HB.out.trans (hb2.mono HB.out.size)); replace K0 := Lib.hid (K0.out.keep hb2); clear hb2)
          have g01' : w.heap.size < w2.heap.size := K0.out.lt
          have z0 := K0.out.cell (i := 0) rfl
          have z1 := K0.out.cell (i := 1) rfl
          have z2 := K0.out.cell (i := 2) rfl
          have f0 := K0.out.frozen 0
          have f1 := K0.out.frozen 1
          have f2 := K0.out.frozen 2
          go_wp2_with fail
          exact bodyPost_ret (v := .tuple #[.agg #[.string ⟨#[]⟩, .string ⟨#[]⟩, .string ⟨#[]⟩], .bool false]) (by simp [results, Tryd.results22, go_sem, z0, z1, z2]) rfl ⟨((HB.out.setCell (by simp) _).setCell (by simp) _).setCell (by simp) _, .inl ⟨by rw [← HP.out]; exact form_no hL1 hL3 hlt NO.out, rfl⟩⟩
    · obtain rfl : k = L := by omega
      have FO : Hid (formS (partsS s.data.toList) = some ((pieceF k F 0).data.toList, (pieceF k F 1).data.toList, (pieceF k F 2).data.toList)) := Lib.hid (by rw [← HP.out]; exact form_ok hL1 hL3 HO.out)
      clear HO
      have K00 := K0.out.lt
      have SP := Lib.hid (splice_p hL1 hL3 F)
      have hmin : Nat.min k 3 = k := Nat.min_eq_left hL3
      go_upto_region 11 with fail
      have hbt := below_new1 wr (.cells #[.string ⟨#[]⟩, .string ⟨#[]⟩, .string ⟨#[]⟩] 48)
      replace K0 := Lib.hid (K0.out.keep hbt)
      replace K1 := Lib.hid (K1.out.keep hbt)
      have zt : (wr.alloc (.cells #[.string ⟨#[]⟩, .string ⟨#[]⟩, .string ⟨#[]⟩] 48)).heap.size = wr.heap.size + 1 := by simp
      replace HB := Lib.hid (HB.out.trans (hbt.mono HB.out.size))
      have kt := Lib.hid (Lok.new wr 48 #[.string ⟨#[]⟩, .string ⟨#[]⟩, .string ⟨#[]⟩])
      clear hbt
      generalize wr.alloc (.cells #[.string ⟨#[]⟩, .string ⟨#[]⟩, .string ⟨#[]⟩] 48) = Vt at *
      have hgt : w.heap.size ≤ wr.heap.size := by have := K0.out.lt; have := zt; have := HB.out.size; omega
      have hg0 : w.heap.size < wr.heap.size := K00
      clear zt
      generalize wr.heap.size = gt at *
      have hrun := run_copy_row (P := Tryd.prog) Vt 24 24 3 9 gt 0 3 3 ⟨g1, 0, none⟩ k N #[.string ⟨#[]⟩, .string ⟨#[]⟩, .string ⟨#[]⟩] 48 ((List.range k).map fun i => .string (F i)) Tryd.underlying24 info3 kt.out (by simp only [List.length_map, List.length_range]; exact hmin.symm) K1.out.cells (by simp; omega) (fun v hv => by obtain ⟨i, -, rfl⟩ := List.mem_map.1 hv; rfl)
      rw [SP.out] at hrun
      have kr : Hid (Lok (Vt.setRow gt #[.string (pieceF k F 0), .string (pieceF k F 1), .string (pieceF k F 2)]) gt 48 #[.string (pieceF k F 0), .string (pieceF k F 1), .string (pieceF k F 2)]) := Lib.hid (setRow_heap Vt gt _ _ _ _ kt.out)
      replace K0 : Hid (Lok (Vt.setRow gt #[.string (pieceF k F 0), .string (pieceF k F 1), .string (pieceF k F 2)]) w.heap.size 48 #[.string ⟨#[]⟩, .string ⟨#[]⟩, .string ⟨#[]⟩]) := Lib.hid ((setRow_other Vt gt _ _ (by omega)).trans K0.out)
      replace HB : Hid (Below w.heap.size w (Vt.setRow gt #[.string (pieceF k F 0), .string (pieceF k F 1), .string (pieceF k F 2)])) := Lib.hid (below_setRow HB.out hgt _)
      obtain ⟨W2, hW2⟩ : ∃ W2, Vt.setRow gt #[.string (pieceF k F 0), .string (pieceF k F 1), .string (pieceF k F 2)] = W2 := ⟨_, rfl⟩
      rw [hW2] at hrun kr K0 HB
      clear hW2 SP K1 kt hmin
      obtain ⟨a, ha⟩ : ∃ a, pieceF k F 0 = a := ⟨_, rfl⟩
      obtain ⟨b, hb⟩ : ∃ a, pieceF k F 1 = a := ⟨_, rfl⟩
      obtain ⟨c, hc⟩ : ∃ a, pieceF k F 2 = a := ⟨_, rfl⟩
      rw [ha, hb, hc] at FO
      rw [ha, hb, hc] at kr
      clear ha hb hc
      have x0 := kr.out.cell (i := 0) rfl
      have x1 := kr.out.cell (i := 1) rfl
      have x2 := kr.out.cell (i := 2) rfl
      have z0 := K0.out.cell (i := 0) rfl
      have z1 := K0.out.cell (i := 1) rfl
      have z2 := K0.out.cell (i := 2) rfl
      have f0 := K0.out.frozen 0
      have f1 := K0.out.frozen 1
      have f2 := K0.out.frozen 2
      go_wp2_with fail
      exact bodyPost_ret (v := .tuple #[.agg #[.string a, .string b, .string c], .bool true]) (by simp [results, Tryd.results22, go_sem, z0, z1, z2]) rfl ⟨((HB.out.setCell (by simp) _).setCell (by simp) _).setCell (by simp) _, .inr ⟨a, b, c, FO.out, rfl⟩⟩
end Go.Proofs.YtlpfijdjkaijeaaDoor
