/-
  Package scan: a decimal's digits are taken (add), of no program and in the walk.
-/
import Derived.Test.YtehfmapbodjppaaDoorScA
import Derived.Test.YtehfmapbodjppaaDoorRel
import Derived.Lib.MinMax
namespace Go.Proofs.YtehfmapbodjppaaDoor
open Go.RowKit

/-- A decimal's cells: its sign, its point, its digits. -/
def decC (bl pt : Bool) (A B : List UInt8) : Array Value := #[.bool bl, .bool pt, .int .i64 ((A.length + B.length : Nat) : Int), .int .u64 (capD A : Nat), .int .u64 (valD B : Nat), .int .u64 ((10 ^ B.length : Nat) : Int)]
def stP (W : World) (g : Nat) (n p sc : Int) : World := ((W.setCell ⟨g, 2, none⟩ (.int .i64 n)).setCell ⟨g, 4, none⟩ (.int .u64 p)).setCell ⟨g, 5, none⟩ (.int .u64 sc)
def stW (W : World) (g : Nat) (n p : Int) : World := (W.setCell ⟨g, 2, none⟩ (.int .i64 n)).setCell ⟨g, 3, none⟩ (.int .u64 p)

set_option maxRecDepth 100000 in
theorem add_point (W : World) (g : Nat) (bl : Bool) (n wh pa sc d : Int) (h : Lok W g 42 #[.bool bl, .bool true, .int .i64 n, .int .u64 wh, .int .u64 pa, .int .u64 sc])
    (h0 : 0 ≤ n ∧ n ≤ 1000) (h1 : 0 ≤ pa ∧ pa < 1000000000000000000) (h2 : 0 ≤ sc ∧ sc ≤ 1000000000000000000) (h3 : 0 ≤ d ∧ d ≤ 9) :
    Calls Tryd.prog 31 #[.pointer (some ⟨g, 0, none⟩), .int .u64 d] W fun e W' => e = .returned (.tuple #[]) ∧ W' = stP W g (n + 1) (10 * pa + d) (sc * 10) := by
  have c1 := h.cell (i := 1) rfl
  have c2 := h.cell (i := 2) rfl
  have c4 := h.cell (i := 4) rfl
  have c5 := h.cell (i := 5) rfl
  have f2 := h.frozen 2
  have f4 := h.frozen 4
  have f5 := h.frozen 5
  have z1 : IntKind.i64.wrap (n + 1) = n + 1 := by rw [IntKind.wrap_i64]; omega
  have z2 : IntKind.u64.wrap (10 * pa) = 10 * pa := by rw [IntKind.wrap_u64]; omega
  have z3 : IntKind.u64.wrap (10 * pa + d) = 10 * pa + d := by rw [IntKind.wrap_u64]; omega
  have z4 : IntKind.u64.wrap (sc * 10) = sc * 10 := by rw [IntKind.wrap_u64]; omega
  clear h
  go_enter Tryd.func31, Tryd.ntmps31
  go_wp2_with fail
  exact bodyPost_ret (v := .tuple #[]) (by simp [results, Tryd.results31]) rfl ⟨rfl, rfl⟩
set_option maxRecDepth 100000 in
theorem add_whole (W : World) (g : Nat) (bl : Bool) (n wh pa sc d m : Int) (h : Lok W g 42 #[.bool bl, .bool false, .int .i64 n, .int .u64 wh, .int .u64 pa, .int .u64 sc])
    (h0 : 0 ≤ n ∧ n ≤ 1000) (h1 : 0 ≤ wh ∧ wh ≤ 1048576) (h3 : 0 ≤ d ∧ d ≤ 9) (hm : min (10 * wh + d) 1048576 = m) :
    Calls Tryd.prog 31 #[.pointer (some ⟨g, 0, none⟩), .int .u64 d] W fun e W' => e = .returned (.tuple #[]) ∧ W' = stW W g (n + 1) m := by
  have c1 := h.cell (i := 1) rfl
  have c2 := h.cell (i := 2) rfl
  have c3 := h.cell (i := 3) rfl
  have f2 := h.frozen 2
  have f3 := h.frozen 3
  have z1 : IntKind.i64.wrap (n + 1) = n + 1 := by rw [IntKind.wrap_i64]; omega
  have z2 : IntKind.u64.wrap (10 * wh) = 10 * wh := by rw [IntKind.wrap_u64]; omega
  have z3 : IntKind.u64.wrap (10 * wh + d) = 10 * wh + d := by rw [IntKind.wrap_u64]; omega
  clear h
  go_enter Tryd.func31, Tryd.ntmps31
  go_wp2_with fail
  exact bodyPost_end (v := .tuple #[]) (by simp [results, Tryd.results31]) rfl ⟨rfl, rfl⟩

/-! what the loop has read -/
/-- A text's sign, and its digits. -/
def startS : List UInt8 → Option (Bool × (List UInt8 × List UInt8))
  | [] => (scanB [] false).map (fun r => (false, r))
  | b :: t => if b.toNat = 45 then (scanB t false).map (fun r => (true, r)) else if b.toNat = 43 then (scanB t false).map (fun r => (false, r)) else (scanB (b :: t) false).map (fun r => (false, r))
theorem start_cons (b : UInt8) (t : List UInt8) : startS (b :: t) = if b.toNat = 45 then (scanB t false).map (fun r => (true, r)) else if b.toNat = 43 then (scanB t false).map (fun r => (false, r)) else (scanB (b :: t) false).map (fun r => (false, r)) := rfl
def ansO : Option (Bool × (List UInt8 × List UInt8)) → Int × Int
  | none => (0, 6)
  | some (bl, r) => ansB bl (some r)
theorem ansO_map (bl : Bool) (o : Option (List UInt8 × List UInt8)) : ansB bl o = ansO (o.map (fun r => (bl, r))) := by cases o <;> rfl
theorem parse_start (l : List UInt8) : parseS l = if 20 < l.length then (0, 6) else ansO (startS l) := by
  unfold parseS
  split
  · rfl
  · match l with
    | [] => exact ansO_map false _
    | b :: t =>
      rw [start_cons]
      show (if _ then _ else if _ then _ else _) = _
      split
      · exact ansO_map true _
      · split
        · exact ansO_map false _
        · exact ansO_map false _
/-- What is told when i bytes have been read. -/
def goS (i : Nat) (bl pt : Bool) (A B : List UInt8) (rest : List UInt8) : Option (Bool × (List UInt8 × List UInt8)) :=
  if i = 0 then startS rest else (goesOn A B (scanB rest pt)).map (fun r => (bl, r))
theorem goS_end (i : Nat) (bl pt : Bool) (A B : List UInt8) (h : i = 0 → bl = false ∧ A = [] ∧ B = []) : goS i bl pt A B [] = some (bl, (A, B)) := by
  unfold goS
  split
  · rename_i z; obtain ⟨rfl, rfl, rfl⟩ := h z; rfl
  · rw [goesOn_end]; rfl
theorem start_other (b : UInt8) (t : List UInt8) (h : ¬ b.toNat = 45) (h2 : ¬ b.toNat = 43) : startS (b :: t) = (goesOn [] [] (scanB (b :: t) false)).map (fun r => (false, r)) := by
  rw [goesOn_nil, start_cons, if_neg h, if_neg h2]
/-- All but a sign at the start: as if it had begun. -/
theorem goS_any (i : Nat) (bl pt : Bool) (A B : List UInt8) (b : UInt8) (t : List UInt8) (h : i = 0 → bl = false ∧ pt = false ∧ A = [] ∧ B = []) (hb : ¬ (i = 0 ∧ (b.toNat = 45 ∨ b.toNat = 43))) :
    goS i bl pt A B (b :: t) = (goesOn A B (scanB (b :: t) pt)).map (fun r => (bl, r)) := by
  unfold goS
  split
  · rename_i z; obtain ⟨rfl, rfl, rfl, rfl⟩ := h z; exact start_other b t (by omega) (by omega)
  · rfl
theorem goS_dig0 (i : Nat) (bl : Bool) (A B : List UInt8) (b : UInt8) (t : List UInt8) (h : i = 0 → bl = false ∧ false = false ∧ A = [] ∧ B = []) (hb : isD b = true) :
    goS i bl false A B (b :: t) = goS (i + 1) bl false (A ++ [b]) B t := by
  have := (isD_iff b).1 hb
  rw [goS_any i bl false A B b t h (by omega), goesOn_dig0 _ _ _ _ hb]
  unfold goS; rw [if_neg (by omega)]
theorem goS_dig1 (i : Nat) (bl : Bool) (A B : List UInt8) (b : UInt8) (t : List UInt8) (h : i = 0 → bl = false ∧ true = false ∧ A = [] ∧ B = []) (hb : isD b = true) :
    goS i bl true A B (b :: t) = goS (i + 1) bl true A (B ++ [b]) t := by
  have := (isD_iff b).1 hb
  rw [goS_any i bl true A B b t h (by omega), goesOn_dig1 _ _ _ _ hb]
  unfold goS; rw [if_neg (by omega)]
theorem goS_point (i : Nat) (bl : Bool) (A B : List UInt8) (b : UInt8) (t : List UInt8) (h : i = 0 → bl = false ∧ false = false ∧ A = [] ∧ B = []) (hb : b.toNat = 46) :
    goS i bl false A B (b :: t) = goS (i + 1) bl true A B t := by
  rw [goS_any i bl false A B b t h (by omega), goesOn_point _ _ _ _ (by rw [isD_iff]; omega) hb]
  unfold goS; rw [if_neg (by omega)]
theorem goS_sign (bl pt : Bool) (b : UInt8) (t : List UInt8) (hb : b.toNat = 45 ∨ b.toNat = 43) :
    goS 0 bl pt [] [] (b :: t) = goS (0 + 1) (decide (b.toNat = 45)) false [] [] t := by
  unfold goS
  rw [if_pos rfl, if_neg (by omega), goesOn_nil, start_cons]
  rcases hb with hb | hb
  · rw [if_pos hb, decide_eq_true hb]
  · rw [if_neg (by omega), if_pos hb, decide_eq_false (by omega)]
theorem goS_stop (i : Nat) (bl pt : Bool) (A B : List UInt8) (b : UInt8) (t : List UInt8) (h : i = 0 → bl = false ∧ pt = false ∧ A = [] ∧ B = []) (h1 : ¬ (48 ≤ b.toNat ∧ b.toNat ≤ 57)) (h2 : ¬ (b.toNat = 46 ∧ pt = false)) (h3 : ¬ (i = 0 ∧ (b.toNat = 45 ∨ b.toNat = 43))) :
    goS i bl pt A B (b :: t) = none := by
  rw [goS_any i bl pt A B b t h h3, goesOn_stop _ _ _ _ _ (by rw [isD_iff]; exact h1) h2]; rfl
end Go.Proofs.YtehfmapbodjppaaDoor
