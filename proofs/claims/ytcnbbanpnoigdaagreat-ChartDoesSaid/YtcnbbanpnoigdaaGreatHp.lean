import Derived.Test.YtcnbbanpnoigdaaGreatHn
import Derived.Test.YtcnbbanpnoigdaaGreatHh
namespace Go.Proofs.YtcnbbanpnoigdaaGreat
open Go.RowKit

def srV (bl bo : Nat) : Value := .func (.func 56) #[] #[.pointer (some ⟨bl, 0, none⟩), .pointer (some ⟨bo, 0, none⟩)]
def SrW (W : World) (bl bo gl : Nat) (f : Value) : Prop := Lok W bl 69 #[.pointer (some ⟨gl, 0, none⟩)] ∧ Lok W bo 51 #[f]
theorem SrW.keep {W W' : World} {bl bo gl : Nat} {f : Value} (h : SrW W bl bo gl f) (hb : Below W.heap.size W W') : SrW W' bl bo gl f := ⟨h.1.keep hb, h.2.keep hb⟩
theorem SrW.exc {C : GrC} {B : Nat} {W W' : World} {bl bo gl : Nat} {f : Value} (h : SrW W bl bo gl f) (hx : C.Exc B W W') (hs : C.Sep) (h1 : C.hi ≤ bl ∧ bl < B) (h2 : C.hi ≤ bo ∧ bo < B) : SrW W' bl bo gl f :=
 ⟨hx.lok h.1 h1.2 (fun q => by have := (hs.four _ q).2; omega), hx.lok h.2 h2.2 (fun q => by have := (hs.four _ q).2; omega)⟩
def fndV : Option Nat → Int
 | none => -1
 | some i => (i : Int)
set_option maxRecDepth 100000 in
set_option maxHeartbeats 4000000 in
theorem search_any (gl g fn : Nat) (w : World) :
  Calls Tryz.prog 30 #[.pointer (some ⟨gl, 0, none⟩), .func (.func fn) #[.pointer (some ⟨g, 0, none⟩)] #[]] w fun e w' => (∃ bl bo, e = .returned (srV bl bo) ∧ SrW w' bl bo gl (.func (.func fn) #[.pointer (some ⟨g, 0, none⟩)] #[]) ∧ w.heap.size ≤ bl ∧ w.heap.size ≤ bo) ∧ Below w.heap.size w w' := by
 go_enter Tryz.func30, Tryz.ntmps30
 go_upto_region 1 with fail
 have hbl := below_new1 w (.cells #[.pointer (some ⟨gl, 0, none⟩)] 69)
 have zl : (w.alloc (.cells #[.pointer (some ⟨gl, 0, none⟩)] 69)).heap.size = w.heap.size + 1 := by simp
 have HB := Lib.hid hbl;have kl := Lib.hid (Lok.new w 69 #[.pointer (some ⟨gl, 0, none⟩)]);clear hbl;generalize w.alloc (.cells #[.pointer (some ⟨gl, 0, none⟩)] 69) = Vl at *;have hbo := below_new1 Vl (.cells #[.func (.func fn) #[.pointer (some ⟨g, 0, none⟩)] #[]] 51);replace kl := Lib.hid (kl.out.keep hbo)
 have zo : (Vl.alloc (.cells #[.func (.func fn) #[.pointer (some ⟨g, 0, none⟩)] #[]] 51)).heap.size = Vl.heap.size + 1 := by simp
 replace HB := Lib.hid (HB.out.trans (hbo.mono HB.out.size));have ko := Lib.hid (Lok.new Vl 51 #[.func (.func fn) #[.pointer (some ⟨g, 0, none⟩)] #[]]);clear hbo;generalize Vl.alloc (.cells #[.func (.func fn) #[.pointer (some ⟨g, 0, none⟩)] #[]] 51) = Vo at *;rw [zl] at ko zo;clear zl zo
 go_wp2
 go_ret
 exact ⟨⟨_, _, rfl, ⟨kl.out, ko.out⟩, Nat.le_refl _, by omega⟩, HB.out⟩
def waV (g : Nat) : Value := .func (.func 31) #[.pointer (some ⟨g, 0, none⟩)] #[]
def fiV2 (g : Nat) : Value := .func (.func 38) #[.pointer (some ⟨g, 0, none⟩)] #[]
set_option maxRecDepth 100000 in
set_option maxHeartbeats 8000000 in
theorem firstW {C : GrC} {w0 : World} {pa1 pa2 pa3 pa4 : Option Addr} {n1 n2 n3 n4 c1 c2 c3 c4 : Nat} {FV FC : Nat → Nat → Int} {EL : List EdL} (F : GrFor C w0 pa1 pa2 pa3 pa4 n1 n2 n3 n4 c1 c2 c3 c4 FV FC EL) (T : List Int) (bl bo : Nat) (w : World) (h : C.Wk w T) (hs : SrW w bl bo C.gl (waV C.g)) :
  Calls Tryz.prog 56 #[.pointer (some ⟨bl, 0, none⟩), .pointer (some ⟨bo, 0, none⟩)] w fun e w' => e = .returned (.int .i64 (fndV ((List.range n4).find? fun i : Nat => (chF true n4 FV FC).wtB T (i : Int)))) ∧ Below w.heap.size w w' := by
 have FI := Lib.hid (fun (i : Nat) (hi : i < n4) (x : World) (q : C.Wk x T) => waitsG F T i x q hi);have HS := Lib.hid hs;have HG := Lib.hid h
 have LD := Lib.hid (fun (x : World) (q : C.Wk x T) => by
  obtain ⟨ax, sd, v, rc, op, s⟩ := q;have z := s.st.land;rw [F.mc] at z
  exact z)
 have h4 := F.few;have b0 := hs.1.cell (i := 0) rfl;have m3 := (LD.out w h).cell (i := 3) (v := .slice pa4 n4 c4) rfl;clear hs h
 go_enter Tryz.func56, Tryz.ntmps56
 go_wp2_with fail
 clear b0 m3
 go_loopw [10] (fun x wr => ∃ k : Nat, x = .int .i64 k ∧ k ≤ n4 ∧ (List.range k).find? (fun i : Nat => (chF true n4 FV FC).wtB T (i : Int)) = none ∧ Below w.heap.size w wr) (fun x _ => n4 - (intOf x).toNat)
 case atStart => exact ⟨0, rfl, Nat.zero_le _, rfl, Below.refl _ _⟩
 case round =>
  obtain ⟨k, rfl, hk, hR, hB⟩ := hrel;have HR := Lib.hid hR;have HB := Lib.hid hB;have s1 := Lib.hid (HS.out.keep hB);clear hR hB
  by_cases hlt : k < n4
  ·have o0 := s1.out.2.cell (i := 0) rfl
   have k0 : (0 : Int) ≤ (k : Int) := by omega
   have k1 : (k : Int) < (n4 : Int) := by omega
   have k2 : ((k : Int)).toNat = k := by omega
   have CF := Lib.hid (FI.out k hlt wr (HG.out.keep HB.out));have YES : Hid ((chF true n4 FV FC).wtB T (k : Int) = true → (List.range n4).find? (fun i : Nat => (chF true n4 FV FC).wtB T (i : Int)) = some k) := Lib.hid (fun q => range_hit HR.out q hlt);have NO : Hid ((chF true n4 FV FC).wtB T (k : Int) = false → (List.range (k + 1)).find? (fun i : Nat => (chF true n4 FV FC).wtB T (i : Int)) = none) := Lib.hid (fun q => range_miss HR.out q)
   cases hp : (chF true n4 FV FC).wtB T (k : Int) with
   | true =>
    rw [hp] at CF;have E := Lib.hid (YES.out hp);clear YES NO hp;unfold waV at o0
    go_wp2_with fail
    ((with_reducible refine CF.out.mono ?_); rintro e w1 ⟨rfl, hb1⟩);have B1 := Lib.hid (HB.out.trans (hb1.mono HB.out.size));clear hb1 CF o0
    go_wp2
    go_ret
    exact ⟨by rw [E.out]; rfl, B1.out⟩
   | false =>
    rw [hp] at CF;have E := Lib.hid (NO.out hp);clear YES NO hp;unfold waV at o0
    go_wp2_with fail
    ((with_reducible refine CF.out.mono ?_); rintro e w1 ⟨rfl, hb1⟩);have B1 := Lib.hid (HB.out.trans (hb1.mono HB.out.size));clear hb1 CF o0
    go_wp2
    go_roundw
    case rel => exact ⟨k + 1, by go_num, hlt, E.out, B1.out⟩
    case measure => simp [intOf]; omega
  ·obtain rfl : k = n4 := by omega
   go_wp2
   go_ret
   exact ⟨by rw [HR.out]; rfl, HB.out⟩
set_option maxRecDepth 100000 in
set_option maxHeartbeats 8000000 in
theorem firstF {C : GrC} {w0 : World} {pa1 pa2 pa3 pa4 : Option Addr} {n1 n2 n3 n4 c1 c2 c3 c4 : Nat} {FV FT FN FC : Nat → Nat → Int} {EL : List EdL} (F : GrFor C w0 pa1 pa2 pa3 pa4 n1 n2 n3 n4 c1 c2 c3 c4 FV FC EL) (hm : MsW w0 pa1 pa2 pa3 pa4 n1 n2 n3 n4 FV FT FN FC) (ht : tmB n1 n2 n3 n4 FV FT FN FC = true) (T : List Int) (ax sd : Int) (l : List Int) (B bl bo : Nat) (w : World) (h0 : Below w0.heap.size w0 w) (h : C.Gs n4 FV FC EL w T ax sd l B) (hB : C.hi ≤ B) (hBw : B ≤ w.heap.size) (hl : ∀ x ∈ l, 0 ≤ x ∧ x < (n4 : Int)) (hll : l.length ≤ 1000000) (hs : SrW w bl bo C.gl (fiV2 C.g)) (h1 : C.hi ≤ bl ∧ bl < B) (h2 : C.hi ≤ bo ∧ bo < B) :
  Calls Tryz.prog 56 #[.pointer (some ⟨bl, 0, none⟩), .pointer (some ⟨bo, 0, none⟩)] w fun e w' => e = .returned (.int .i64 (fndV ((List.range n4).find? fun i : Nat => (chF true n4 FV FC).pfB EL T ax sd l (i : Int)))) ∧ C.Gs n4 FV FC EL w' T ax sd l B ∧ C.Exc B w w' := by
 have hlh : C.lo ≤ B := by
  obtain ⟨v, op, q, _⟩ := h;have := q.sep.four C.g (.inl rfl)
  omega
 have FI := Lib.hid (fun (i : Nat) (x : World) (q0 : Below w0.heap.size w0 x) (q : C.Gs n4 FV FC EL x T ax sd l B) (hBx : B ≤ x.heap.size) => fitsG F hm ht T ax sd l B (i : Int) x q0 q hB hBx hl hll);have HS := Lib.hid hs;have HG := Lib.hid h;have H0 := Lib.hid h0;have SEP := Lib.hid h.wk.sep
 have LD := Lib.hid (fun (x : World) (q : C.Gs n4 FV FC EL x T ax sd l B) => by
  obtain ⟨v, op, s, _⟩ := q;have z := s.st.land;rw [F.mc] at z
  exact z)
 have h4 := F.few;have b0 := hs.1.cell (i := 0) rfl;have m3 := (LD.out w h).cell (i := 3) (v := .slice pa4 n4 c4) rfl;clear hs h h0
 go_enter Tryz.func56, Tryz.ntmps56
 go_wp2_with fail
 clear b0 m3
 go_loopw [10] (fun x wr => ∃ k : Nat, x = .int .i64 k ∧ k ≤ n4 ∧ (List.range k).find? (fun i : Nat => (chF true n4 FV FC).pfB EL T ax sd l (i : Int)) = none ∧ C.Gs n4 FV FC EL wr T ax sd l B ∧ C.Exc B w wr ∧ w.heap.size ≤ wr.heap.size) (fun x _ => n4 - (intOf x).toNat)
 case atStart => exact ⟨0, rfl, Nat.zero_le _, rfl, HG.out, GrC.Exc.refl _ _ _, Nat.le_refl _⟩
 case round =>
  clear HG;obtain ⟨k, rfl, hk, hR, hG, hX, hz⟩ := hrel;have HR := Lib.hid hR;have HG := Lib.hid hG;have HX := Lib.hid hX;clear hR hG hX;have hbl := HX.out.below SEP.out hlh;rw [F.lo] at hbl;have B1 := Lib.hid (H0.out.trans hbl);have s1 := Lib.hid (HS.out.exc HX.out SEP.out h1 h2);clear hbl
  by_cases hlt : k < n4
  ·have o0 := s1.out.2.cell (i := 0) rfl
   have k0 : (0 : Int) ≤ (k : Int) := by omega
   have k1 : (k : Int) < (n4 : Int) := by omega
   have k2 : ((k : Int)).toNat = k := by omega
   have CF := Lib.hid (FI.out k wr B1.out HG.out (Nat.le_trans hBw hz));have YES : Hid ((chF true n4 FV FC).pfB EL T ax sd l (k : Int) = true → (List.range n4).find? (fun i : Nat => (chF true n4 FV FC).pfB EL T ax sd l (i : Int)) = some k) := Lib.hid (fun q => range_hit HR.out q hlt);have NO : Hid ((chF true n4 FV FC).pfB EL T ax sd l (k : Int) = false → (List.range (k + 1)).find? (fun i : Nat => (chF true n4 FV FC).pfB EL T ax sd l (i : Int)) = none) := Lib.hid (fun q => range_miss HR.out q)
   cases hp : (chF true n4 FV FC).pfB EL T ax sd l (k : Int) with
   | true =>
    rw [hp] at CF;have E := Lib.hid (YES.out hp);clear YES NO hp;unfold fiV2 at o0
    go_wp2_with fail
    ((with_reducible refine CF.out.mono ?_); rintro e w1 ⟨rfl, q1, q2⟩);have G1 := Lib.hid q1;have X1 := Lib.hid (HX.out.trans q2);have hz1 := Nat.le_trans hz q2.size;clear q1 q2 CF o0
    go_wp2
    go_ret
    exact ⟨by rw [E.out]; rfl, G1.out, X1.out⟩
   | false =>
    rw [hp] at CF;have E := Lib.hid (NO.out hp);clear YES NO hp;unfold fiV2 at o0
    go_wp2_with fail
    ((with_reducible refine CF.out.mono ?_); rintro e w1 ⟨rfl, q1, q2⟩);have G1 := Lib.hid q1;have X1 := Lib.hid (HX.out.trans q2);have hz1 := Nat.le_trans hz q2.size;clear q1 q2 CF o0
    go_wp2
    go_roundw
    case rel => exact ⟨k + 1, by go_num, hlt, E.out, G1.out, X1.out, hz1⟩
    case measure => simp [intOf]; omega
  ·obtain rfl : k = n4 := by omega
   go_wp2
   go_ret
   exact ⟨by rw [HR.out]; rfl, HG.out, HX.out⟩
end Go.Proofs.YtcnbbanpnoigdaaGreat
namespace Go.Proofs.YtcnbbanpnoigdaaGreat
open Go.RowKit

def triN (W : World) (g : Nat) : Nat := match W.cell? ⟨g, 6, none⟩ with | some (.slice _ n _) => n | _ => 0
theorem GrC.Gs.triN {C : GrC} {n4 : Nat} {FV FC : Nat → Nat → Int} {EL : List EdL} {W : World} {T : List Int} {ax sd : Int} {l : List Int} {B : Nat} (h : C.Gs n4 FV FC EL W T ax sd l B) : triN W C.g = l.length := by
 obtain ⟨v, op, h1, h2, _⟩ := h;obtain ⟨a, c, rfl, _⟩ := rowI_of_own h2;unfold Go.Proofs.YtcnbbanpnoigdaaGreat.triN;rw [h1.gro.cell (i := 6) (v := .slice a l.length c) rfl]
theorem GrC.Gs.t {C : GrC} {n4 : Nat} {FV FC : Nat → Nat → Int} {EL : List EdL} {W : World} {T T' : List Int} {ax sd : Int} {l l' : List Int} {B : Nat} (h : C.Gs n4 FV FC EL W T ax sd l B) (e : T = T') (e2 : l = l') : C.Gs n4 FV FC EL W T' ax sd l' B := by
 subst e; subst e2; exact h
theorem fnd_yes (i : Nat) : (((i : Nat) : Int) == -1) = false ∧ (((i : Nat) : Int) != -1) = true := by
 have h : (((i : Nat) : Int) == -1) = false := by rw [beq_eq_false_iff_ne]; omega
 exact ⟨h, by rw [bne, h]; rfl⟩
set_option maxRecDepth 100000 in
set_option maxHeartbeats 8000000 in
theorem growG {C : GrC} {w0 : World} {pa1 pa2 pa3 pa4 : Option Addr} {n1 n2 n3 n4 c1 c2 c3 c4 : Nat} {FV FT FN FC : Nat → Nat → Int} {EL : List EdL} (F : GrFor C w0 pa1 pa2 pa3 pa4 n1 n2 n3 n4 c1 c2 c3 c4 FV FC EL) (hm : MsW w0 pa1 pa2 pa3 pa4 n1 n2 n3 n4 FV FT FN FC) (ht : tmB n1 n2 n3 n4 FV FT FN FC = true) (HA : (chF true n4 FV FC).Hang EL) (P : List Int) (k : Nat) (hk : k < n4) (hK : (chF true n4 FV FC).K k = true) (hP : ¬ (k : Int) ∈ P) (hw : ∀ j : Nat, j < k → (chF true n4 FV FC).K j = true → (j : Int) ∈ P) (b : Bool) (w : World) (h0 : Below w0.heap.size w0 w) (h : C.Wk w P) (hhi : C.hi ≤ w.heap.size) :
  Calls Tryz.prog 32 #[.pointer (some ⟨C.g, 0, none⟩), .agg #[.int .i64 ((chF true n4 FV FC).A k), .int .i64 ((chF true n4 FV FC).S k), .bool b]] w fun e w' => (∃ v, e = .returned (.agg #[.int .i64 ((chF true n4 FV FC).A k), .int .i64 ((chF true n4 FV FC).S k), v]) ∧ OwnI w' w.heap.size v ((chF true n4 FV FC).grC ((chF true n4 FV FC).A k) ((chF true n4 FV FC).S k) P n4 [(k : Int)]) ∧ C.Wk w' (P ++ (chF true n4 FV FC).grC ((chF true n4 FV FC).A k) ((chF true n4 FV FC).S k) P n4 [(k : Int)])) ∧ C.Exc w.heap.size w w' := by
 have HM := Lib.hid hm;have H0 := Lib.hid h0;have HW := Lib.hid h;have SEP := Lib.hid h.sep;have LST := Lib.hid (fun c (q : (chF true n4 FV FC).Wy ((chF true n4 FV FC).A k) ((chF true n4 FV FC).S k) P k c) => (show ((List.range n4).find? fun i : Nat => (chF true n4 FV FC).pfB EL (P ++ c) ((chF true n4 FV FC).A k) ((chF true n4 FV FC).S k) c (i : Int)) = (chF true n4 FV FC).least ((chF true n4 FV FC).A k) ((chF true n4 FV FC).S k) P c from (chF true n4 FV FC).pf_least EL HA (P := P) q.face));have MORE := Lib.hid (fun c i (q : (chF true n4 FV FC).Wy ((chF true n4 FV FC).A k) ((chF true n4 FV FC).S k) P k c) (z : (chF true n4 FV FC).least ((chF true n4 FV FC).A k) ((chF true n4 FV FC).S k) P c = some i) => ChF.Wy.more (F := chF true n4 FV FC) hk hK hP hw q z);have DONE := Lib.hid (fun c (q : (chF true n4 FV FC).Wy ((chF true n4 FV FC).A k) ((chF true n4 FV FC).S k) P k c) (z : (chF true n4 FV FC).least ((chF true n4 FV FC).A k) ((chF true n4 FV FC).S k) P c = none) => ChF.Wy.done (F := chF true n4 FV FC) hk hK hP hw q z);have hn4 := F.few;have BG := Lib.hid (fun x (q : C.Wk x P) => beginG C n4 FV FC EL P ((chF true n4 FV FC).A k) ((chF true n4 FV FC).S k) x q);have FI := Lib.hid (fun c B bl bo x (q0 : Below w0.heap.size w0 x) (q : C.Gs n4 FV FC EL x (P ++ c) ((chF true n4 FV FC).A k) ((chF true n4 FV FC).S k) c B) (q1 : C.hi ≤ B) (q2 : B ≤ x.heap.size) (q3 : (chF true n4 FV FC).Wy ((chF true n4 FV FC).A k) ((chF true n4 FV FC).S k) P k c) (q4 : SrW x bl bo C.gl (fiV2 C.g)) (q5 : C.hi ≤ bl ∧ bl < B) (q6 : C.hi ≤ bo ∧ bo < B) => firstF F hm ht (P ++ c) _ _ c B bl bo x q0 q q1 q2 (fun x hx => chF_place ((ChF.fb_iff _).1 (q3.face _ x hx)).1) (Nat.le_trans (q3.len _) hn4) q4 q5 q6);have PU := Lib.hid (fun c B i (hi : i < n4) x (q : C.Gs n4 FV FC EL x (P ++ c) ((chF true n4 FV FC).A k) ((chF true n4 FV FC).S k) c B) (q1 : C.hi ≤ B) (q2 : B ≤ x.heap.size) (q3 : (chF true n4 FV FC).Wy ((chF true n4 FV FC).A k) ((chF true n4 FV FC).S k) P k c) => putG F (P ++ c) _ _ c B i x q q1 q2 hi (Nat.le_trans (q3.len _) hn4))
 have LEN := Lib.hid (fun c (q : (chF true n4 FV FC).Wy ((chF true n4 FV FC).A k) ((chF true n4 FV FC).S k) P k c) => (q.len _ : c.length ≤ n4));have LT := Lib.hid (fun c i (z : (chF true n4 FV FC).least ((chF true n4 FV FC).A k) ((chF true n4 FV FC).S k) P c = some i) => ((chF true n4 FV FC).least_some z).1);have W0 : Hid ((chF true n4 FV FC).Wy ((chF true n4 FV FC).A k) ((chF true n4 FV FC).S k) P k []) := Lib.hid (.inl rfl);have hlo := Lib.hid F.lo;clear hm h0 h hw HA hK;obtain ⟨X, hX⟩ : ∃ X, X = (chF true n4 FV FC).grC ((chF true n4 FV FC).A k) ((chF true n4 FV FC).S k) P n4 [(k : Int)] := ⟨_, rfl⟩;rw [← hX];have HX := Lib.hid hX;clear hX;generalize (chF true n4 FV FC).A k = ax at *;generalize (chF true n4 FV FC).S k = sd at *
 go_enter Tryz.func32, Tryz.ntmps32
 go_upto_region 1 with fail
 have hbf := below_new1 w (.cells #[.int .i64 ax, .int .i64 sd, .bool b] 53);replace HW := Lib.hid (HW.out.keep hbf)
 have zf : (w.alloc (.cells #[.int .i64 ax, .int .i64 sd, .bool b] 53)).heap.size = w.heap.size + 1 := by simp
 have HB := Lib.hid hbf;have kf := Lib.hid (Lok.new w 53 #[.int .i64 ax, .int .i64 sd, .bool b]);clear hbf;generalize w.alloc (.cells #[.int .i64 ax, .int .i64 sd, .bool b] 53) = Vf at *;have hbr := below_new1 Vf (.cells #[.int .i64 0, .int .i64 0, .slice none 0 0] 29);replace kf := Lib.hid (kf.out.keep hbr);replace HW := Lib.hid (HW.out.keep hbr)
 have zr : (Vf.alloc (.cells #[.int .i64 0, .int .i64 0, .slice none 0 0] 29)).heap.size = Vf.heap.size + 1 := by simp
 replace HB := Lib.hid (HB.out.trans (hbr.mono HB.out.size));have kr := Lib.hid (Lok.new Vf 29 #[.int .i64 0, .int .i64 0, .slice none 0 0]);clear hbr;generalize Vf.alloc (.cells #[.int .i64 0, .int .i64 0, .slice none 0 0] 29) = Vr at *;rw [zf] at kr zr;clear zf;have f0 := kf.out.cell (i := 0) rfl;have f1 := kf.out.cell (i := 1) rfl
 go_wp2_with fail
 ((with_reducible refine (BG.out _ HW.out).mono ?_); rintro e w1 ⟨rfl, hg, hx⟩);clear f0 f1 kf BG HW;have GA := Lib.hid hg;have X1 := Lib.hid hx
 have hrl : w.heap.size + 1 < Vr.heap.size := by rw [zr]; omega
 have kr1 := Lib.hid (hx.lok kr.out hrl (fun q => by have := (SEP.out.four _ q).2; omega));have hb01 := (X1.out.mono (Nat.le_of_lt (Nat.lt_of_le_of_lt (Nat.le_succ _) hrl))).below SEP.out (by have := SEP.out.four C.g (.inl rfl); omega);have BX := Lib.hid (H0.out.trans (HB.out.mono H0.out.size));rw [hlo.out] at hb01;have B1 := Lib.hid (BX.out.trans hb01);have XW := Lib.hid ((GrC.Exc.of (C := C) HB.out).trans (X1.out.mono (Nat.le_of_lt (Nat.lt_of_le_of_lt (Nat.le_succ _) hrl))));have hs1 := X1.out.size;clear hg hx kr hb01 X1 HB BX;obtain ⟨v0, op0, s0, _, _⟩ := GA.out 0;have g0 := s0.gro.cell (i := 0) (v := .pointer (some ⟨C.gl, 0, none⟩)) rfl;clear s0
 go_wp2_with fail
 ((with_reducible refine (search_any C.gl C.g 38 w1).mono ?_); rintro e w2 ⟨⟨bl, bo, rfl, hs, hb1, hb2⟩, hb⟩);clear g0;have S2 := Lib.hid (show SrW w2 bl bo C.gl (fiV2 C.g) from hs);have hbl2 := hs.1.lt;have hbo2 := hs.2.lt;have G2 : Hid (C.Gs n4 FV FC EL w2 (P ++ []) ax sd [] w2.heap.size) := Lib.hid (((GA.out _).keep hb).t (List.append_nil P).symm rfl);have kr2 := Lib.hid (kr1.out.keep hb);have B2 := Lib.hid (B1.out.trans (hb.mono B1.out.size));have XW2 := Lib.hid (XW.out.trans (GrC.Exc.of (C := C) (hb.mono (by omega))));have hs2 := hb.size;clear hs hb GA kr1 B1 XW
 have hhi2 : C.hi ≤ w2.heap.size := by omega
 have C1 := Lib.hid (FI.out [] w2.heap.size bl bo w2 B2.out G2.out hhi2 (Nat.le_refl _) W0.out S2.out ⟨by omega, hbl2⟩ ⟨by omega, hbo2⟩);rw [LST.out [] W0.out] at C1;unfold srV
 go_wp2_with fail
 ((with_reducible refine C1.out.mono ?_); rintro e w3 ⟨rfl, q1, q2⟩);have G3 := Lib.hid q1;have X3 := Lib.hid q2;clear q1 q2 C1 G2;have hz3 := X3.out.size
 go_wp2_with fail
 go_loopw [6] (fun x wr => ∃ c, (chF true n4 FV FC).Wy ax sd P k c ∧ x = .int .i64 (fndV ((chF true n4 FV FC).least ax sd P c)) ∧ C.Gs n4 FV FC EL wr (P ++ c) ax sd c w2.heap.size ∧ C.Exc w2.heap.size w2 wr) (fun _ wr => n4 - triN wr C.g)
 case atStart => exact ⟨[], W0.out, rfl, G3.out, X3.out⟩
 case round =>
  clear G3 X3 hz3;obtain ⟨c, hc, rfl, hG, hX⟩ := hrel;have HC := Lib.hid hc;have HG := Lib.hid hG;have XR := Lib.hid hX;have hzr := hX.size;have TN := Lib.hid hG.triN;clear hc hG hX;have hblr := XR.out.below SEP.out (by have := SEP.out.four C.g (.inl rfl); omega);rw [hlo.out] at hblr;have BR := Lib.hid (B2.out.trans hblr);clear hblr;have SR := Lib.hid (S2.out.exc XR.out SEP.out ⟨by omega, hbl2⟩ ⟨by omega, hbo2⟩)
  cases hle : (chF true n4 FV FC).least ax sd P c with
  | some i =>
   have hi : i < n4 := LT.out c i hle;obtain ⟨d1, d2⟩ := fnd_yes i;have HC2 := Lib.hid (MORE.out c i HC.out hle);have hln : (c ++ [(i : Int)]).length ≤ n4 := LEN.out _ HC2.out;rw [List.length_append, List.length_singleton] at hln;rw [show fndV (some i) = (i : Int) from rfl];clear hle;have PC := Lib.hid (PU.out c w2.heap.size i hi wr HG.out hhi2 hzr HC.out)
   go_wp2_with fail
   ((with_reducible refine PC.out.mono ?_); rintro e w5 ⟨rfl, q1, q2⟩);clear PC HG;have G5 := Lib.hid (q1.t (List.append_assoc P c [(i : Int)]) rfl);have X5 := Lib.hid (XR.out.trans q2);have hz5 := Nat.le_trans hzr q2.size;have hbl5 := q2.below SEP.out (by have := SEP.out.four C.g (.inl rfl); omega);rw [hlo.out] at hbl5;have B5 := Lib.hid (BR.out.trans hbl5);clear q1 q2 XR BR SR hbl5;have S5 := Lib.hid (S2.out.exc X5.out SEP.out ⟨by omega, hbl2⟩ ⟨by omega, hbo2⟩);have C5 := Lib.hid (FI.out (c ++ [(i : Int)]) w2.heap.size bl bo w5 B5.out G5.out hhi2 hz5 HC2.out S5.out ⟨by omega, hbl2⟩ ⟨by omega, hbo2⟩);rw [LST.out _ HC2.out] at C5
   go_wp2_with fail
   ((with_reducible refine C5.out.mono ?_); rintro e w6 ⟨rfl, q1, q2⟩);have G6 := Lib.hid q1;have X6 := Lib.hid (X5.out.trans q2);have T6 := Lib.hid q1.triN;clear q1 q2 C5 G5 X5 B5 S5
   go_wp2
   go_roundw
   case rel => exact ⟨_, HC2.out, rfl, G6.out, X6.out⟩
   case measure =>
    rw [T6.out, TN.out, List.length_append, List.length_singleton]
    omega
  | none =>
   have E := Lib.hid (DONE.out c HC.out hle);clear hle;rw [show fndV none = -1 from rfl];obtain ⟨v, op, s1, s2, s3⟩ := HG.out;obtain ⟨av, cv, ev, -⟩ := rowI_of_own s2;generalize c.length = lv at ev;subst ev;have g4 := s1.gro.cell (i := 4) (v := .int .i64 ax) rfl;have g5 := s1.gro.cell (i := 5) (v := .int .i64 sd) rfl;have g6 := s1.gro.cell (i := 6) (v := (.slice av lv cv)) rfl;have KR := Lib.hid (XR.out.lok kr2.out (by omega) (fun q => by have := (SEP.out.four _ q).2; omega));have r0 := KR.out.cell (i := 0) rfl;have r1 := KR.out.cell (i := 1) rfl;have r2 := KR.out.cell (i := 2) rfl;have q0 := KR.out.frozen 0;have q1 := KR.out.frozen 1;have q2 := KR.out.frozen 2;have hbs : Below (w.heap.size + 1) wr (((wr.setCell ⟨w.heap.size + 1, 0, none⟩ (.int .i64 ax)).setCell ⟨w.heap.size + 1, 1, none⟩ (.int .i64 sd)).setCell ⟨w.heap.size + 1, 2, none⟩ (.slice av lv cv)) := (((Below.refl (w.heap.size + 1) wr).setCell (p := ⟨w.heap.size + 1, 0, none⟩) (Nat.le_refl (w.heap.size + 1)) (.int .i64 ax)).setCell (p := ⟨w.heap.size + 1, 1, none⟩) (Nat.le_refl (w.heap.size + 1)) (.int .i64 sd)).setCell (p := ⟨w.heap.size + 1, 2, none⟩) (Nat.le_refl (w.heap.size + 1)) (.slice av lv cv)
   have hr2 : w.heap.size + 1 < w2.heap.size := by omega
   have on0 : OwnI (wr.setCell ⟨w.heap.size + 1, 0, none⟩ (.int .i64 ax)) w2.heap.size (.slice av lv cv) c := ownI_set s2 hr2;have on1 : OwnI ((wr.setCell ⟨w.heap.size + 1, 0, none⟩ (.int .i64 ax)).setCell ⟨w.heap.size + 1, 1, none⟩ (.int .i64 sd)) w2.heap.size (.slice av lv cv) c := ownI_set on0 hr2;have on2 : OwnI (((wr.setCell ⟨w.heap.size + 1, 0, none⟩ (.int .i64 ax)).setCell ⟨w.heap.size + 1, 1, none⟩ (.int .i64 sd)).setCell ⟨w.heap.size + 1, 2, none⟩ (.slice av lv cv)) w2.heap.size (.slice av lv cv) c := ownI_set on1 hr2;have ON := Lib.hid (ownI_mono on2 (show w.heap.size ≤ w2.heap.size by omega));clear on0 on1 on2;have WN : Hid (C.Wk (((wr.setCell ⟨w.heap.size + 1, 0, none⟩ (.int .i64 ax)).setCell ⟨w.heap.size + 1, 1, none⟩ (.int .i64 sd)).setCell ⟨w.heap.size + 1, 2, none⟩ (.slice av lv cv)) (P ++ c)) := Lib.hid ⟨ax, sd, (.slice av lv cv), _, op, s1.keepB hbs (show C.hi ≤ w.heap.size + 1 by omega)⟩;have xn0 : C.Exc w.heap.size w wr := XW2.out.trans (XR.out.mono (show w.heap.size ≤ w2.heap.size by omega));have XN : Hid (C.Exc w.heap.size w (((wr.setCell ⟨w.heap.size + 1, 0, none⟩ (.int .i64 ax)).setCell ⟨w.heap.size + 1, 1, none⟩ (.int .i64 sd)).setCell ⟨w.heap.size + 1, 2, none⟩ (.slice av lv cv))) := Lib.hid (xn0.trans (GrC.Exc.of (C := C) (hbs.mono (Nat.le_succ _))));clear xn0;clear s1 s2 s3 hbs KR kr2
   go_wp2_with fail
   refine bodyPost_ret (v := .agg #[.int .i64 ax, .int .i64 sd, (.slice av lv cv)]) (by simp [results, Tryz.results32, go_sem, r0, r1, r2]) rfl ?_
   have EX : X = c := by rw [HX.out]; exact E.out.symm
   exact ⟨⟨(.slice av lv cv), rfl, by rw [EX]; exact ON.out, by rw [EX]; exact WN.out⟩, XN.out⟩
end Go.Proofs.YtcnbbanpnoigdaaGreat
namespace Go.Proofs.YtcnbbanpnoigdaaGreat
open Go.RowKit

theorem take_more {l : List Int} {k : Nat} (h : k < l.length) : l.take (k + 1) = l.take k ++ [l.getD k 0] := by
 rw [List.take_add_one, List.getD_eq_getElem?_getD, List.getElem?_eq_getElem h]; rfl
set_option maxRecDepth 100000 in
set_option maxHeartbeats 8000000 in
theorem followG {C : GrC} {w0 : World} {pa1 pa2 pa3 pa4 : Option Addr} {n1 n2 n3 n4 c1 c2 c3 c4 : Nat} {FV FT FN FC : Nat → Nat → Int} {EL : List EdL} (F : GrFor C w0 pa1 pa2 pa3 pa4 n1 n2 n3 n4 c1 c2 c3 c4 FV FC EL) (hm : MsW w0 pa1 pa2 pa3 pa4 n1 n2 n3 n4 FV FT FN FC) (ht : tmB n1 n2 n3 n4 FV FT FN FC = true) (T : List Int) (ax sd : Int) (a : Option Addr) (m c : Nat) (l : List Int) (hr : RowI w0 a m l) (hm2 : m ≤ 1000000) (w : World) (h0 : Below w0.heap.size w0 w) (h : C.Wk w T) (hhi : C.hi ≤ w.heap.size) :
  Calls Tryz.prog 43 #[.pointer (some ⟨C.g, 0, none⟩), .agg #[.int .i64 ax, .int .i64 sd, .slice a m c]] w fun e w' => e = .returned (.bool ((chF true n4 FV FC).folB EL T ax sd l)) ∧ ((chF true n4 FV FC).folB EL T ax sd l = true → C.Wk w' (T ++ l)) ∧ C.Exc w.heap.size w w' := by
 have hlm := hr.1;have RL := Lib.hid hr;have H0 := Lib.hid h0;have HW := Lib.hid h;have SEP := Lib.hid h.sep;have BG := Lib.hid (fun x (q : C.Wk x T) => beginG C n4 FV FC EL T ax sd x q);have FT1 := Lib.hid (fun k (_ : k ≤ l.length) B x (q0 : Below w0.heap.size w0 x) (q : C.Gs n4 FV FC EL x (T ++ l.take k) ax sd (l.take k) B) (q1 : C.hi ≤ B) (q2 : B ≤ x.heap.size) (q3 : ∀ y ∈ l.take k, (chF true n4 FV FC).fb y ax sd = true) => fitsG F hm ht (T ++ l.take k) ax sd (l.take k) B (l.getD k 0) x q0 q q1 q2 (fun y hy => chF_place ((ChF.fb_iff _).1 (q3 y hy)).1) (by rw [List.length_take]; omega));have PU := Lib.hid (fun k (_ : k ≤ l.length) B i (hi : i < n4) x (q : C.Gs n4 FV FC EL x (T ++ l.take k) ax sd (l.take k) B) (q1 : C.hi ≤ B) (q2 : B ≤ x.heap.size) => putG F (T ++ l.take k) ax sd (l.take k) B i x q q1 q2 hi (by rw [List.length_take]; omega));have FACE := Lib.hid (fun k (hk : k ≤ l.length) (q : ∀ j, j < k → (chF true n4 FV FC).pfB EL (T ++ l.take j) ax sd (l.take j) (l.getD j 0) = true) => (chF true n4 FV FC).take_face EL (T := T) hk q);have hlo := Lib.hid F.lo;have PFB := Lib.hid (fun k (q : (chF true n4 FV FC).pfB EL (T ++ l.take k) ax sd (l.take k) (l.getD k 0) = true) => (fb_place ((chF true n4 FV FC).pf_face EL q).1).1);obtain ⟨X, hX⟩ : ∃ X, X = (chF true n4 FV FC).folB EL T ax sd l := ⟨_, rfl⟩;rw [← hX];have HX := Lib.hid hX;clear hX hm h0 h hr
 go_enter Tryz.func43, Tryz.ntmps43
 go_upto_region 1 with fail
 have hbf := below_new1 w (.cells #[.int .i64 ax, .int .i64 sd, .slice a m c] 29);replace HW := Lib.hid (HW.out.keep hbf)
 have zf : (w.alloc (.cells #[.int .i64 ax, .int .i64 sd, .slice a m c] 29)).heap.size = w.heap.size + 1 := by simp
 have HB := Lib.hid hbf;have kf := Lib.hid (Lok.new w 29 #[.int .i64 ax, .int .i64 sd, .slice a m c]);clear hbf;generalize w.alloc (.cells #[.int .i64 ax, .int .i64 sd, .slice a m c] 29) = Vf at *;clear zf;have f0 := kf.out.cell (i := 0) rfl;have f1 := kf.out.cell (i := 1) rfl
 go_wp2_with fail
 ((with_reducible refine (BG.out _ HW.out).mono ?_); rintro e w1 ⟨rfl, hg, hx⟩);clear f0 f1 BG HW;have hfl : w.heap.size < Vf.heap.size := kf.out.lt;have kf1 := Lib.hid (hx.lok kf.out hfl (fun q => by have := (SEP.out.four _ q).2; omega));have XW := Lib.hid ((GrC.Exc.of (C := C) HB.out).trans (hx.mono (Nat.le_of_lt hfl)));have hb01 := XW.out.below SEP.out (by have := SEP.out.four C.g (.inl rfl); omega);rw [hlo.out] at hb01;have B1 := Lib.hid (H0.out.trans hb01)
 have hs1 : w.heap.size < w1.heap.size := by have := hx.size; omega
 have G1 : Hid (C.Gs n4 FV FC EL w1 (T ++ l.take 0) ax sd (l.take 0) w1.heap.size) := Lib.hid ((hg _).t (by rw [List.take_zero, List.append_nil]) List.take_zero.symm)
 have hhi1 : C.hi ≤ w1.heap.size := by omega
 clear hg hx kf HB hb01;have f2 := kf1.out.cell (i := 2) rfl
 go_wp2_with fail
 clear f2
 go_loopw [16] (fun x wr => ∃ k : Nat, x = .int .i64 k ∧ k ≤ m ∧ (∀ j, j < k → (chF true n4 FV FC).pfB EL (T ++ l.take j) ax sd (l.take j) (l.getD j 0) = true) ∧ C.Gs n4 FV FC EL wr (T ++ l.take k) ax sd (l.take k) w1.heap.size ∧ C.Exc w1.heap.size w1 wr) (fun x _ => m - (intOf x).toNat)
 case atStart => exact ⟨0, rfl, Nat.zero_le _, fun j h => absurd h (by omega), G1.out, GrC.Exc.refl _ _ _⟩
 case round =>
  clear G1;obtain ⟨k, rfl, hk, hR, hG, hXr⟩ := hrel;have HR := Lib.hid hR;have HG := Lib.hid hG;have XR := Lib.hid hXr;have hzr := hXr.size;clear hR hG hXr;have hbr := XR.out.below SEP.out (by have := SEP.out.four C.g (.inl rfl); omega);rw [hlo.out] at hbr;have BR := Lib.hid (B1.out.trans hbr);have KR := Lib.hid (XR.out.lok kf1.out hs1 (fun q => by have := (SEP.out.four _ q).2; omega));have XN := Lib.hid (XW.out.trans (XR.out.mono (Nat.le_of_lt hs1)));clear hbr
  by_cases hlt : k < m
  ·obtain ⟨b, o, rfl, hb, hc⟩ := (RL.out.keep BR.out).at hlt
   have x0 := hc k hlt
   have hkl : k < l.length := by omega
   have k0 : (0 : Int) ≤ (k : Int) := by omega
   have k1 : (k : Int) < (m : Int) := by omega
   have k2 : ((k : Int)).toNat = k := by omega
   have CF := Lib.hid (FT1.out k (Nat.le_of_lt hkl) w1.heap.size wr BR.out HG.out hhi1 hzr (FACE.out k (Nat.le_of_lt hkl) HR.out));have TM := Lib.hid (take_more hkl)
   have NO : Hid ((chF true n4 FV FC).pfB EL (T ++ l.take k) ax sd (l.take k) (l.getD k 0) = false → X = false) := Lib.hid (fun q => by
    rw [HX.out]
    cases z : (chF true n4 FV FC).folB EL T ax sd l with
    | false => rfl
    | true =>
     unfold ChF.folB at z;rw [Bool.and_eq_true, List.all_eq_true] at z;rw [z.2 k (List.mem_range.2 hkl)] at q
     cases q)
   have YES : Hid ((chF true n4 FV FC).pfB EL (T ++ l.take k) ax sd (l.take k) (l.getD k 0) = true → ∀ j, j < k + 1 → (chF true n4 FV FC).pfB EL (T ++ l.take j) ax sd (l.take j) (l.getD j 0) = true) := Lib.hid (fun q j hj => by
    by_cases e : j = k
    ·rw [e]; exact q
    ·exact HR.out j (by omega))
   have PL := Lib.hid (PFB.out k);clear hc hb;generalize hxk : l.getD k 0 = xk at *;replace hxk := Lib.hid hxk
   cases hp : (chF true n4 FV FC).pfB EL (T ++ l.take k) ax sd (l.take k) xk with
   | false =>
    rw [hp] at CF;have E := Lib.hid (NO.out hp);clear NO YES hp PL
    go_wp2_with fail
    ((with_reducible refine CF.out.mono ?_); rintro e w5 ⟨rfl, q1, q2⟩);have X5 := Lib.hid (XN.out.trans (q2.mono (Nat.le_of_lt hs1)));clear q1 q2 CF x0
    go_wp2
    go_ret
    exact ⟨by rw [E.out]; rfl, (fun q => by rw [E.out] at q; exact absurd q Bool.false_ne_true), X5.out⟩
   | true =>
    rw [hp] at CF;have E := Lib.hid (YES.out hp);obtain ⟨i, rfl, hi⟩ := PL.out hp;clear NO YES hp PL
    go_wp2_with fail
    ((with_reducible refine CF.out.mono ?_); rintro e w5 ⟨rfl, q1, q2⟩);have X5 := Lib.hid (XR.out.trans q2);have PC := Lib.hid (PU.out k (Nat.le_of_lt hkl) w1.heap.size i hi w5 q1 hhi1 (Nat.le_trans hzr q2.size));clear q1 q2 CF x0 HG XR XN BR KR
    go_wp2_with fail
    ((with_reducible refine PC.out.mono ?_); rintro e w6 ⟨rfl, q1, q2⟩);have X6 := Lib.hid (X5.out.trans q2);have G6 := Lib.hid (q1.t (T' := T ++ l.take (k + 1)) (l' := l.take (k + 1)) (by rw [TM.out, List.append_assoc]) TM.out.symm);clear q1 q2 PC X5
    go_wp2
    go_roundw
    case rel => exact ⟨k + 1, by go_num, hlt, E.out, G6.out, X6.out⟩
    case measure => simp [intOf]; omega
  ·obtain rfl : k = m := by omega
   have WK := Lib.hid ((HG.out.t (T' := T ++ l) (l' := l) (by rw [List.take_of_length_le (by omega)]) (List.take_of_length_le (by omega))).wk);have f2 := KR.out.cell (i := 2) rfl
   have E : Hid (X = decide (0 < (k : Int))) := Lib.hid (by
    rw [HX.out];unfold ChF.folB
    have z : ((List.range l.length).all fun j => (chF true n4 FV FC).pfB EL (T ++ l.take j) ax sd (l.take j) (l.getD j 0)) = true := by
     rw [List.all_eq_true]
     intro j hj
     have hj := List.mem_range.1 hj
     exact HR.out j (by omega)
    rw [z, Bool.and_true]
    cases l with
    | nil => subst hlm; rfl
    | cons y r =>
     rw [List.length_cons] at hlm
     exact (decide_eq_true (by omega)).symm)
   go_wp2
   go_ret
   exact ⟨(by rw [E.out]; first | rfl | simp), fun _ => WK.out, XN.out⟩
end Go.Proofs.YtcnbbanpnoigdaaGreat
namespace Go.Proofs.YtcnbbanpnoigdaaGreat
open Go.RowKit

theorem make_row {t e : TypeId} {z : Value} {bytes : Nat} (ht : Tryz.prog.underlying t = some (.slice e)) (hinfo : (Tryz.prog.info? e).map (fun i => (i.zero, i.size, i.bytes)) = some (some z, 1, bytes)) (hz : z.cells = #[z]) (hb : bytes ≤ 24) (n : Nat) (hn : n ≤ 1000000) (W : World) :
  (Instr.makeSlice t (.int .i64 n) (.int .i64 n)).run Tryz.prog W = .ok (.slice (some ⟨W.heap.size, 0, none⟩) n n) (W.alloc (.cells (rwL n fun _ => z) e)) := by
 obtain ⟨i0, hi, hz0, hz1, hz2⟩ := info_parts hinfo;have hbn : bytes * n ≤ 24 * 1000000 := Nat.mul_le_mul hb hn;have h := run_make (P := Tryz.prog) W t e i0 z ht hi hz0 .i64 .i64 (n : Int) (n : Int) (by omega) (Int.le_refl _) (by rw [hz2]; have : ((bytes * n : Nat) : Int) = (bytes : Int) * (n : Int) := Int.natCast_mul _ _; omega) (by omega);rw [hz1, show ((n : Int)).toNat = n from by omega, Nat.mul_one, hz, rwL_made] at h
 exact h
theorem infoSI : (Tryz.prog.info? 27).map (fun i => (i.zero, i.size, i.bytes)) = some (some (.slice none 0 0), 1, 24) := by kernel_rfl
theorem infoBo : (Tryz.prog.info? 4).map (fun i => (i.zero, i.size, i.bytes)) = some (some (.bool false), 1, 1) := by kernel_rfl
theorem infoFc : (Tryz.prog.info? 53).map (fun i => (i.zero, i.size, i.bytes)) = some (some (.agg #[.int .i64 0, .int .i64 0, .bool false]), 3, 24) := by kernel_rfl
theorem app_act_at {W : World} {o : Oper} {a : Act} {Kk : Act → World → Prop} {Q : Exit → Act → World → Prop} (s x : Operand) (t e : TypeId) (z : Value) (K bytes : Nat)
  (ht : Tryz.prog.underlying t = some (.slice e)) (hinfo : (Tryz.prog.info? e).map (fun i => (i.zero, i.size, i.bytes)) = some (some z, K, bytes)) (hzs : z.cells.size = K) (hK : 0 < K)
  (ho : o.op = .call { callee := .builtin .append, args := #[s, x], argTypes := #[t, t] })
  (base : Nat) (v : Value) (k : Nat) (L : List Value) (cs : Array Value) (hcs : cs.size = K) (hone : ∀ u ∈ cs, u.oneCell' = true) (hs : a.eval s = v) (hown : W.ownsRow base e K v k L) (g c : Nat) (hx : a.eval x = .slice (some ⟨g, 0, none⟩) 1 c) (hl : Lok W g e cs)
  (hk : (k + 1) * bytes ≤ 140737488355328) (hk2 : k ≤ 1000000) (hbase : base ≤ W.heap.size)
  (h : ∀ v' w', w'.ownsRow base e K v' (k + 1) (L ++ cs.toList) → W.grownBy w' v.ownBlock → (v'.ownBlock = v.ownBlock ∨ v'.ownBlock = some W.heap.size) → Kk (a.put o.dst v') w') : o.wp Tryz.prog a W Kk Q := by
 obtain ⟨i0, hi, hz0, hz1, hz2⟩ := info_parts hinfo
 obtain ⟨v', w', hr, h2, h3, _, h5⟩ := run_append_own_at (P := Tryz.prog) W base t o.type e i0 z K bytes ht hi hz0 hz1 hz2 hzs hK v k L hown ⟨g, 0, none⟩ 1 c cs.toList (by rw [Nat.one_mul]; simpa using hcs) (fun j u hj => by
  rw [Go.WideShapes.add_plain, Nat.zero_add]
  exact hl.cell (by rw [Array.getElem?_toList] at hj; exact hj)) (fun u hu => hone u (by simpa using hu)) (by unfold maxLen; omega) hk hbase
 unfold Oper.wp execOp
 simp only [ho, resolve, invoke, builtin, Sem.run_bind, Sem.run_pure, Result.andThen_ok, List.map_toArray, List.map_cons, List.map_nil, hs, hx, hr]
 exact h v' w' h2 h3 h5
def PtB (B : Nat) (W : World) (t : TypeId) (cs : Array Value) (v : Value) : Prop := ∃ g, v = .pointer (some ⟨g, 0, none⟩) ∧ B ≤ g ∧ Lok W g t cs
theorem PtB.keep {B : Nat} {W W' : World} {t : TypeId} {cs : Array Value} {v : Value} (h : PtB B W t cs v) (hb : Below W.heap.size W W') : PtB B W' t cs v := by
 obtain ⟨g, a, b, c⟩ := h; exact ⟨g, a, b, c.keep hb⟩
def PtR (B : Nat) (W : World) (t : TypeId) (n : Nat) (cs : Array Value) (v : Value) : Prop := ∃ g, v = .slice (some ⟨g, 0, none⟩) n n ∧ B ≤ g ∧ Lok W g t cs
theorem PtR.keep {B : Nat} {W W' : World} {t : TypeId} {n : Nat} {cs : Array Value} {v : Value} (h : PtR B W t n cs v) (hb : Below W.heap.size W W') : PtR B W' t n cs v := by
 obtain ⟨g, a, b, c⟩ := h; exact ⟨g, a, b, c.keep hb⟩
def gr0 (gl eb tb n : Nat) (fv : Value) : Array Value := #[.pointer (some ⟨gl, 0, none⟩), fv, .slice (some ⟨eb, 0, none⟩) n n, .slice (some ⟨tb, 0, none⟩) n n, .int .i64 0, .int .i64 0, .slice none 0 0, .slice none 0 0, .slice none 0 0]
def GrR (B : Nat) (W : World) (gl eb tb n : Nat) (mc : Array Value) : Prop := (B ≤ gl ∧ B ≤ eb ∧ B ≤ tb) ∧ Lok W gl 50 mc ∧ Lok W eb 27 (rwL n fun _ => .slice none 0 0) ∧ Lok W tb 4 (rwL n fun _ => .bool false)
theorem GrR.keep {B : Nat} {W W' : World} {gl eb tb n : Nat} {mc : Array Value} (h : GrR B W gl eb tb n mc) (hb : Below W.heap.size W W') : GrR B W' gl eb tb n mc := ⟨h.1, h.2.1.keep hb, h.2.2.1.keep hb, h.2.2.2.keep hb⟩
def GrU (B : Nat) (W : World) (n : Nat) (mc : Array Value) (v : Value) : Prop := ∃ gl eb tb, v = .agg (gr0 gl eb tb n (.slice none 0 0)) ∧ GrR B W gl eb tb n mc
theorem GrU.keep {B : Nat} {W W' : World} {n : Nat} {mc : Array Value} {v : Value} (h : GrU B W n mc v) (hb : Below W.heap.size W W') : GrU B W' n mc v := by
 obtain ⟨gl, eb, tb, e, r⟩ := h; exact ⟨gl, eb, tb, e, r.keep hb⟩
def GrP (B : Nat) (W : World) (n : Nat) (mc : Array Value) (v : Value) : Prop := ∃ g gl eb tb, v = .pointer (some ⟨g, 0, none⟩) ∧ B ≤ g ∧ Lok W g 74 (gr0 gl eb tb n (.slice none 0 0)) ∧ GrR B W gl eb tb n mc
theorem GrP.keep {B : Nat} {W W' : World} {n : Nat} {mc : Array Value} {v : Value} (h : GrP B W n mc v) (hb : Below W.heap.size W W') : GrP B W' n mc v := by
 obtain ⟨g, gl, eb, tb, e, b, l, r⟩ := h; exact ⟨g, gl, eb, tb, e, b, l.keep hb, r.keep hb⟩
def StA (W : World) (g gl eb tb n : Nat) (mc : Array Value) (fv : Value) : Prop := Lok W g 74 (gr0 gl eb tb n fv) ∧ Lok W gl 50 mc ∧ Lok W eb 27 (rwL n fun _ => .slice none 0 0) ∧ Lok W tb 4 (rwL n fun _ => .bool false)
theorem StA.keep {W W' : World} {g gl eb tb n : Nat} {mc : Array Value} {fv : Value} (h : StA W g gl eb tb n mc fv) (hb : Below W.heap.size W W') : StA W' g gl eb tb n mc fv := ⟨h.1.keep hb, h.2.1.keep hb, h.2.2.1.keep hb, h.2.2.2.keep hb⟩
theorem StA.keepB {W W' : World} {B g gl eb tb n : Nat} {mc : Array Value} {fv : Value} (h : StA W g gl eb tb n mc fv) (hb : Below B W W') (h1 : g < B ∧ gl < B ∧ eb < B ∧ tb < B) : StA W' g gl eb tb n mc fv := ⟨h.1.keepB hb h1.1, h.2.1.keepB hb h1.2.1, h.2.2.1.keepB hb h1.2.2.1, h.2.2.2.keepB hb h1.2.2.2⟩
theorem StA.set {W : World} {g gl eb tb n : Nat} {mc : Array Value} {fv : Value} (h : StA W g gl eb tb n mc fv) (fv' : Value) : StA (W.setCell ⟨g, 1, none⟩ fv') g gl eb tb n mc fv' :=
 ⟨h.1.set (i := 1) (v := fv'), h.2.1.far (lok_apart h.2.1 h.1 (by decide)), h.2.2.1.far (lok_apart h.2.2.1 h.1 (by decide)), h.2.2.2.far (lok_apart h.2.2.2 h.1 (by decide))⟩
def FaK (W : World) (B g gl eb tb n : Nat) (mc : Array Value) (A S : Nat → Int) (K : Nat → Bool) (k : Nat) : Prop := ∃ fv, StA W g gl eb tb n mc fv ∧ OwnR W B 53 3 fv k (fcL A S K k)
theorem FaK.keep {W W' : World} {B g gl eb tb n : Nat} {mc : Array Value} {A S : Nat → Int} {K : Nat → Bool} {k : Nat} (h : FaK W B g gl eb tb n mc A S K k) (hb : Below W.heap.size W W') : FaK W' B g gl eb tb n mc A S K k := by
 obtain ⟨fv, a, b⟩ := h; exact ⟨fv, a.keep hb, b.keep hb⟩
theorem ownR_slc {w : World} {base : Nat} {e : TypeId} {k : Nat} {v : Value} {n : Nat} {xs : List Value} (h : w.ownsRow base e k v n xs) : ∃ a c, v = .slice a n c := by
 obtain ⟨_, ⟨rfl, rfl⟩ | ⟨g, cap, cur, rfl, _⟩⟩ := h
 ·exact ⟨none, 0, rfl⟩
 ·exact ⟨_, _, rfl⟩
def EcW (W : World) (B n : Nat) (ec : Nat → Value) (E : Nat → List Int) : Prop := (∀ j, j < n → OwnI W B (ec j) (E j)) ∧ ∀ i j, i < n → j < n → ¬ i = j → ∀ b, (ec i).ownBlock = some b → (ec j).ownBlock ≠ some b
theorem EcW.keep {W W' : World} {B n : Nat} {ec : Nat → Value} {E : Nat → List Int} (h : EcW W B n ec E) (hb : Below W.heap.size W W') : EcW W' B n ec E := ⟨fun j hj => (h.1 j hj).keep hb, h.2⟩
def StB (W : World) (B g gl eb tb n : Nat) (mc : Array Value) (fv : Value) (fs : List Value) (ec : Nat → Value) : Prop := Lok W g 74 (gr0 gl eb tb n fv) ∧ Lok W gl 50 mc ∧ Lok W eb 27 (rwL n ec) ∧ Lok W tb 4 (rwL n fun _ => .bool false) ∧ OwnR W B 53 3 fv n fs
theorem StB.keep {W W' : World} {B g gl eb tb n : Nat} {mc : Array Value} {fv : Value} {fs : List Value} {ec : Nat → Value} (h : StB W B g gl eb tb n mc fv fs ec) (hb : Below W.heap.size W W') : StB W' B g gl eb tb n mc fv fs ec := ⟨h.1.keep hb, h.2.1.keep hb, h.2.2.1.keep hb, h.2.2.2.1.keep hb, h.2.2.2.2.keep hb⟩
theorem StB.keepB {W W' : World} {B B' g gl eb tb n : Nat} {mc : Array Value} {fv : Value} {fs : List Value} {ec : Nat → Value} (h : StB W B g gl eb tb n mc fv fs ec) (hb : Below B' W W') (h1 : g < B' ∧ gl < B' ∧ eb < B' ∧ tb < B') (h2 : ∀ b, fv.ownBlock = some b → b < B') : StB W' B g gl eb tb n mc fv fs ec :=
 ⟨h.1.keepB hb h1.1, h.2.1.keepB hb h1.2.1, h.2.2.1.keepB hb h1.2.2.1, h.2.2.2.1.keepB hb h1.2.2.2, ownR_block h.2.2.2.2 fun b q => hb.block b (h2 b q)⟩
theorem ownR_lok {w : World} {base : Nat} {e t : TypeId} {k : Nat} {v : Value} {n : Nat} {xs : List Value} {b : Nat} {cs : Array Value} (h : w.ownsRow base e k v n xs) (hl : Lok w b t cs) (ne : ¬ e = t) : v.ownBlock ≠ some b := fun q => by
 obtain ⟨_, ⟨rfl, _⟩ | ⟨g, cap, cur, rfl, _, hg, _⟩⟩ := h
 ·cases q
 ·have e1 : g = b := by simpa [Value.ownBlock] using q
  subst e1
  exact lok_apart (show Lok w g e cur from hg) hl ne rfl
theorem StB.set {W : World} {B g gl eb tb n i : Nat} {mc : Array Value} {fv : Value} {fs : List Value} {ec : Nat → Value} (h : StB W B g gl eb tb n mc fv fs ec) (hi : i < n) (x : Value) : StB (W.setCell ⟨eb, i, none⟩ x) B g gl eb tb n mc fv fs (fun j => if j = i then x else ec j) := by
 refine ⟨h.1.far (lok_apart h.1 h.2.2.1 (by decide)), h.2.1.far (lok_apart h.2.1 h.2.2.1 (by decide)), ?_, h.2.2.2.1.far (lok_apart h.2.2.2.1 h.2.2.1 (by decide)), ownR_block h.2.2.2.2 fun b q => Below.heap_setCell W ⟨eb, i, none⟩ x b (fun e => ?_)⟩
 ·have z := h.2.2.1.set (i := i) (v := x)
  rw [rwL_set _ _ hi] at z
  exact z
 ·exact ownR_lok h.2.2.2.2 h.2.2.1 (by decide) (by rw [q, show b = eb from e])
def EcN (W : World) (B n i : Nat) (ec : Nat → Value) (E : Nat → List Int) (x : Int) (u : Value) : Prop := OwnI W B u (E i ++ [x]) ∧ (∀ j, j < n → ¬ j = i → OwnI W B (ec j) (E j) ∧ ∀ b, u.ownBlock = some b → (ec j).ownBlock ≠ some b) ∧ ∀ i' j, i' < n → j < n → ¬ i' = j → ∀ b, (ec i').ownBlock = some b → (ec j).ownBlock ≠ some b
theorem EcN.keep {W W' : World} {B n i : Nat} {ec : Nat → Value} {E : Nat → List Int} {x : Int} {u : Value} (h : EcN W B n i ec E x u) (hb : Below W.heap.size W W') : EcN W' B n i ec E x u := ⟨h.1.keep hb, fun j hj hn => ⟨(h.2.1 j hj hn).1.keep hb, (h.2.1 j hj hn).2⟩, h.2.2⟩
theorem EcW.grown {W W' : World} {B n i : Nat} {ec : Nat → Value} {E : Nat → List Int} {x : Int} {u : Value} (h : EcW W B n ec E) (hi : i < n) (ho : OwnI W' B u (E i ++ [x])) (hg : W.grownBy W' (ec i).ownBlock) (hl : u.ownBlock = (ec i).ownBlock ∨ u.ownBlock = some W.heap.size) : EcN W' B n i ec E x u := by
 refine ⟨ho, fun j hj hn => ⟨ownI_grown (h.1 j hj) hg fun b q e => h.2 i j hi hj (fun z => hn z.symm) b e q, fun b q => ?_⟩, h.2⟩
 rcases hl with l | l
 ·exact h.2 i j hi hj (fun z => hn z.symm) b (by rw [← l]; exact q)
 ·intro q2
  rw [l] at q;have e1 := Option.some.inj q;have := (World.ownsRow.lt (h.1 j hj) b q2).2
  omega
theorem EcN.set {W W' : World} {B n i : Nat} {ec : Nat → Value} {E : Nat → List Int} {x : Int} {u : Value} (h : EcN W B n i ec E x u) (k : ∀ b, B ≤ b → W'.heap[b]? = W.heap[b]?) : EcW W' B n (fun j => if j = i then u else ec j) (fun j => if j = i then E i ++ [x] else E j) := by
 refine ⟨fun j hj => ?_, fun i' j hi' hj hn b q => ?_⟩
 ·by_cases e : j = i
  ·simp only [if_pos e]
   exact ownI_block h.1 fun g hg => k g (World.ownsRow.lt h.1 g hg).1
  ·simp only [if_neg e]
   have z := (h.2.1 j hj e).1
   exact ownI_block z fun g hg => k g (World.ownsRow.lt z g hg).1
 ·by_cases e1 : i' = i
  ·by_cases e2 : j = i
   ·exact absurd (e1.trans e2.symm) hn
   ·simp only [if_pos e1] at q
    simp only [if_neg e2]
    exact (h.2.1 j hj e2).2 b q
  ·simp only [if_neg e1] at q
   by_cases e2 : j = i
   ·simp only [if_pos e2]
    exact fun z => (h.2.1 i' hi' e1).2 b z q
   ·simp only [if_neg e2]
    exact h.2.2 i' j hi' hj hn b q
end Go.Proofs.YtcnbbanpnoigdaaGreat
