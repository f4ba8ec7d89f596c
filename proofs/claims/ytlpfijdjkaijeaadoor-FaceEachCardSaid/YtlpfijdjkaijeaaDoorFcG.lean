/-
  The reference of layer 7: Corner. (gen/FcG.py)
-/
import Derived.Test.YtlpfijdjkaijeaaDoorFcC
import Derived.Test.YtlpfijdjkaijeaaDoorFcF
namespace Go.Proofs.YtlpfijdjkaijeaaDoor
open Go.RowKit

theorem RowS.far {W : World} {b off n c g i : Nat} {F : Nat → ByteArray} {v : Value} (h : RowS W (some ⟨b, off, none⟩) n c F) (hn : b ≠ g) : RowS (W.setCell ⟨g, i, none⟩ v) (some ⟨b, off, none⟩) n c F := by
  rcases h with h | ⟨b', off', ha, hl, hc, h⟩
  · exact .inl h
  · cases ha
    refine .inr ⟨b, off, rfl, by simpa using hl, hc, fun i' hi => ?_⟩
    rw [World.cell?_setCell_other _ _ _ _ (by intro e; cases e; exact hn rfl)]
    exact h i' hi
theorem rowS_cell {W : World} {b off n c : Nat} {F : Nat → ByteArray} (h : RowS W (some ⟨b, off, none⟩) n c F) (i : Nat) (hi : i < n) : W.cell? ⟨b, off + i, none⟩ = some (.string (F i)) := by
  obtain ⟨b', off', ha, _, h⟩ := h.at hi
  cases ha
  exact h i hi
theorem rowS_lt {W : World} {b off n c : Nat} {F : Nat → ByteArray} (h : RowS W (some ⟨b, off, none⟩) n c F) (hi : 0 < n) : b < W.heap.size := by
  obtain ⟨b', off', ha, hl, h⟩ := h.at hi
  cases ha
  exact hl
theorem ct_a {a b c : List UInt8} {v t n p e : Int} (h : placeO a v = (p, e)) (he : ¬ e = 0) : cornerT a b c v t n = (0, 0, 0, e) := by unfold cornerT; rw [h, if_pos he]
theorem ct_b {a b c : List UInt8} {v t n p q e : Int} (h : placeO a v = (p, 0)) (k : placeO b t = (q, e)) (he : ¬ e = 0) : cornerT a b c v t n = (0, 0, 0, e) := by unfold cornerT; rw [h, k, if_neg (by simp), if_pos he]
theorem ct_c {a b c : List UInt8} {v t n p q r e : Int} (h : placeO a v = (p, 0)) (k : placeO b t = (q, 0)) (m : placeO c n = (r, e)) (he : ¬ e = 0) : cornerT a b c v t n = (0, 0, 0, e) := by
  unfold cornerT; rw [h, k, m, if_neg (by simp), if_neg (by simp), if_pos he]
theorem ct_ok {a b c : List UInt8} {v t n p q r : Int} (h : placeO a v = (p, 0)) (k : placeO b t = (q, 0)) (m : placeO c n = (r, 0)) : cornerT a b c v t n = (p, q, r, 0) := by
  unfold cornerT; rw [h, k, m, if_neg (by simp), if_neg (by simp), if_neg (by simp)]
theorem po_nil (m : Int) : placeO [] m = (-1, 0) := rfl
theorem po_s {s : ByteArray} {m : Int} {x : Int × Int} (h : placeS s.data.toList m = x) (hw : wOK s.data.toList = true) : placeO s.data.toList m = x := by
  unfold placeO; rw [if_neg (whole_no_stroke _ hw).2]; exact h
theorem ne_of_ok {s : ByteArray} (hw : wOK s.data.toList = true) : s.toList.isEmpty = false := by
  rw [Lib.toList_data]
  cases h : s.data.toList with
  | nil => exact absurd h (whole_no_stroke _ hw).2
  | cons _ _ => rfl
theorem list3 {L : List ByteArray} {P : List (List UInt8)} (h : L.map (fun x => x.data.toList) = P) (h3 : P.length ≤ 3) (h1 : 1 ≤ P.length) : (∃ a, L = [a]) ∨ (∃ a b, L = [a, b]) ∨ ∃ a b c, L = [a, b, c] := by
  have hl : L.length = P.length := by rw [← h]; simp
  match L, hl with
  | [], hl => simp at hl; omega
  | [a], _ => exact .inl ⟨a, rfl⟩
  | [a, b], _ => exact .inr (.inl ⟨a, b, rfl⟩)
  | [a, b, c], _ => exact .inr (.inr ⟨a, b, c, rfl⟩)
  | a :: b :: c :: d :: r, hl => simp at hl; omega
theorem sizes_cut {l : List UInt8} {L : List ByteArray} (h : L.map (fun x => x.data.toList) = allA [] l) : ∀ x ∈ L, x.size ≤ l.length := by
  have key : ∀ (l acc : List UInt8), ∀ t ∈ allA acc l, t.length ≤ acc.length + l.length := by
    intro l
    induction l with
    | nil => intro acc t ht; rw [show allA acc [] = [acc] from rfl, List.mem_singleton] at ht; subst ht; simp
    | cons b r ih =>
      intro acc t ht
      rw [allA_cons] at ht
      split at ht
      · rcases List.mem_cons.1 ht with q | q
        · subst q; simp
        · have := ih [] t q; simp only [List.length_nil, List.length_cons] at this ⊢; omega
      · have := ih _ t ht; simp only [List.length_append, List.length_cons, List.length_nil] at this ⊢; omega
  intro x hx
  have := key l [] x.data.toList (by rw [← h]; exact List.mem_map_of_mem hx)
  simpa using this

set_option maxRecDepth 100000 in
set_option maxHeartbeats 8000000 in
theorem rcorner_any (s : ByteArray) (v t n : Int) (w : World) (hs : s.size ≤ 100) (bv : -9223372036854775808 ≤ v ∧ v ≤ 9223372036854775807) (bt : -9223372036854775808 ≤ t ∧ t ≤ 9223372036854775807) (bn : -9223372036854775808 ≤ n ∧ n ≤ 9223372036854775807) :
    Calls Tryd.prog 10 #[.string s, .int .i64 v, .int .i64 t, .int .i64 n] w fun e w' => e = retC (cornerS s.data.toList v t n) ∧ Below w.heap.size w w' := by
  have C0 := Lib.hid (fun W => rcut_any s W (by omega))
  have FA := form_all s.data.toList
  have HL : s.data.toList.length = s.size := by simp
  go_enter Tryd.func10, Tryd.ntmps10
  go_upto_region 1 with fail
  have hbr := below_new1 w (.cells #[.int .i64 0, .int .i64 0, .int .i64 0] 23)
  have zr : (w.alloc (.cells #[.int .i64 0, .int .i64 0, .int .i64 0] 23)).heap.size = w.heap.size + 1 := by simp
  have HB := Lib.hid hbr
  have kr := Lib.hid (Lok.new w 23 #[.int .i64 0, .int .i64 0, .int .i64 0])
  clear hbr
  generalize w.alloc (.cells #[.int .i64 0, .int .i64 0, .int .i64 0] 23) = Vr at *
  clear zr
  go_wp2_with fail
  (with_reducible refine (C0.out _).mono ?_); rintro e w1 ⟨hb, L, ad, cc, rfl, hrow, hcc, hmap⟩
  replace HB := Lib.hid (HB.out.trans (hb.mono HB.out.size))
  replace kr := Lib.hid (kr.out.keep hb)
  have hsz := sizes_cut hmap
  have hlen : L.length = (allA [] s.data.toList).length := by rw [← hmap]; simp
  have hpos := all_pos s.data.toList []
  clear hb C0
  obtain ⟨bb, off, rfl, -, -⟩ := hrow.at (i := 0) (by omega)
  have KS := Lib.hid hrow
  clear hrow
  rcases FA with ⟨h4, hf⟩ | ⟨h4, hf⟩
  · have HE : Hid (cornerS s.data.toList v t n = (0, 0, 0, 6)) := Lib.hid (by unfold cornerS; rw [hf]; rfl)
    have l4 : (3 : Int) < L.length := by omega
    have l4' : decide ((3 : Int) < L.length) = true := decide_eq_true l4
    clear hsz hmap hf h4 hlen hpos HL KS hcc
    have z0 := kr.out.cell (i := 0) rfl
    have f0 := kr.out.frozen 0
    have z1 := kr.out.cell (i := 1) rfl
    have f1 := kr.out.frozen 1
    have z2 := kr.out.cell (i := 2) rfl
    have f2 := kr.out.frozen 2
    go_wp2_with fail
    exact bodyPost_ret (v := .tuple #[.agg #[.int .i64 (0), .int .i64 (0), .int .i64 (0)], .int .i64 (6)]) (by simp [results, Tryd.results10, go_sem, z0, z1, z2]) rfl ⟨by rw [HE.out]; rfl, ((HB.out.setCell (by simp) _).setCell (by simp) _).setCell (by simp) _⟩
  · have h1 := hpos
    have hl3 := list3 hmap h4 h1
    have HQ : cornerS s.data.toList v t n = cornerF (formS (L.map (fun x => x.data.toList))) v t n := by unfold cornerS; rw [hmap, hf]
    clear h4 h1 hlen hpos hf hmap
    generalize hn0 : L.length = n0 at *
    rcases hl3 with ⟨a, rfl⟩ | ⟨a, b, rfl⟩ | ⟨a, b, c, rfl⟩
    · have hsa : a.size ≤ 100 := by have := hsz a (by simp); omega
      clear hsz HL
      obtain rfl : n0 = 1 := by rw [← hn0]; rfl
      cases hwa : wOK a.data.toList with
      | false =>
        have Wa := Lib.hid (fun W => hwa ▸ rword_any a W hsa)
        have HE : Hid (cornerS s.data.toList v t n = (0, 0, 0, 6)) := Lib.hid (HQ.trans (congrArg (fun z => cornerF z v t n) (show formS [a.data.toList] = none from if_neg (by rw [hwa]; decide))))
        clear HQ
        have c0 : World.cell? _ ⟨bb, off, none⟩ = some (Value.string a) := rowS_cell KS.out 0 (by decide)
        have z0 := kr.out.cell (i := 0) rfl
        have f0 := kr.out.frozen 0
        have z1 := kr.out.cell (i := 1) rfl
        have f1 := kr.out.frozen 1
        have z2 := kr.out.cell (i := 2) rfl
        have f2 := kr.out.frozen 2
        go_wp2_with fail
        (((with_reducible refine (Wa.out _).mono ?_); rintro e w2 ⟨rfl, hb2⟩); replace HB := Lib.hid (HB.out.trans (hb2.mono HB.out.size)); replace kr := Lib.hid (kr.out.keep hb2); replace KS := Lib.hid (KS.out.keep hb2); clear hb2)
        clear c0 z0 f0 z1 f1 z2 f2
        have c0 : World.cell? _ ⟨bb, off, none⟩ = some (Value.string a) := rowS_cell KS.out 0 (by decide)
        have z0 := kr.out.cell (i := 0) rfl
        have f0 := kr.out.frozen 0
        have z1 := kr.out.cell (i := 1) rfl
        have f1 := kr.out.frozen 1
        have z2 := kr.out.cell (i := 2) rfl
        have f2 := kr.out.frozen 2
        go_wp2_with fail
        exact bodyPost_ret (v := .tuple #[.agg #[.int .i64 (0), .int .i64 (0), .int .i64 (0)], .int .i64 (6)]) (by simp [results, Tryd.results10, go_sem, z0, z1, z2]) rfl ⟨by rw [HE.out]; rfl, ((HB.out.setCell (by simp) _).setCell (by simp) _).setCell (by simp) _⟩
      | true =>
        have Wa := Lib.hid (fun W => hwa ▸ rword_any a W hsa)
        have FF : Hid (cornerS s.data.toList v t n = cornerT a.data.toList [] [] v t n) := Lib.hid (HQ.trans (congrArg (fun z => cornerF z v t n) (show formS [a.data.toList] = some (a.data.toList, [], []) from if_pos hwa)))
        clear HQ
        have Pa := Lib.hid (fun W => rplace_any a v W bv hsa)
        have ha : placeS a.data.toList v = ((placeS a.data.toList v).1, (placeS a.data.toList v).2) := rfl
        obtain ⟨p, hap⟩ : ∃ x, (placeS a.data.toList v).1 = x := ⟨_, rfl⟩
        obtain ⟨pe, hae⟩ : ∃ x, (placeS a.data.toList v).2 = x := ⟨_, rfl⟩
        rw [hap, hae] at ha
        unfold retW at Pa
        rw [hap, hae] at Pa
        clear hap hae
        have c0 : World.cell? _ ⟨bb, off, none⟩ = some (Value.string a) := rowS_cell KS.out 0 (by decide)
        have z0 := kr.out.cell (i := 0) rfl
        have f0 := kr.out.frozen 0
        have z1 := kr.out.cell (i := 1) rfl
        have f1 := kr.out.frozen 1
        have z2 := kr.out.cell (i := 2) rfl
        have f2 := kr.out.frozen 2
        go_wp2_with fail
        (((with_reducible refine (Wa.out _).mono ?_); rintro e w2 ⟨rfl, hb2⟩); replace HB := Lib.hid (HB.out.trans (hb2.mono HB.out.size)); replace kr := Lib.hid (kr.out.keep hb2); replace KS := Lib.hid (KS.out.keep hb2); clear hb2)
        clear c0 z0 f0 z1 f1 z2 f2
        have c0 : World.cell? _ ⟨bb, off, none⟩ = some (Value.string a) := rowS_cell KS.out 0 (by decide)
        have z0 := kr.out.cell (i := 0) rfl
        have f0 := kr.out.frozen 0
        have z1 := kr.out.cell (i := 1) rfl
        have f1 := kr.out.frozen 1
        have z2 := kr.out.cell (i := 2) rfl
        have f2 := kr.out.frozen 2
        go_upto_region 5 with fail
        clear c0 z0 f0 z1 f1 z2 f2
        have hbq := rowS_lt KS.out (by decide)
        have hr0 := kr.out.lt
        have hbq := below_new1 w2 (.cells #[.int .i64 (-1), .int .i64 (-1), .int .i64 (-1)] 23)
        replace kr := Lib.hid (kr.out.keep hbq)
        replace KS := Lib.hid (KS.out.keep hbq)
        have zq : (w2.alloc (.cells #[.int .i64 (-1), .int .i64 (-1), .int .i64 (-1)] 23)).heap.size = w2.heap.size + 1 := by simp
        replace HB := Lib.hid (HB.out.trans (hbq.mono HB.out.size))
        have kq := Lib.hid (Lok.new w2 23 #[.int .i64 (-1), .int .i64 (-1), .int .i64 (-1)])
        clear hbq
        generalize w2.alloc (.cells #[.int .i64 (-1), .int .i64 (-1), .int .i64 (-1)] 23) = Vq at *
        have hrs : w.heap.size < w2.heap.size := hr0
        clear zq hr0
        generalize w2.heap.size = gq at *
        have c0 : World.cell? _ ⟨bb, off, none⟩ = some (Value.string a) := rowS_cell KS.out 0 (by decide)
        have q0 := kq.out.cell (i := 0) rfl
        have g0 := kq.out.frozen 0
        have q1 := kq.out.cell (i := 1) rfl
        have g1 := kq.out.frozen 1
        have q2 := kq.out.cell (i := 2) rfl
        have g2 := kq.out.frozen 2
        have z0 := kr.out.cell (i := 0) rfl
        have f0 := kr.out.frozen 0
        have z1 := kr.out.cell (i := 1) rfl
        have f1 := kr.out.frozen 1
        have z2 := kr.out.cell (i := 2) rfl
        have f2 := kr.out.frozen 2
        go_wp2_with fail
        (((with_reducible refine (Pa.out _).mono ?_); rintro e w3 ⟨rfl, hb3⟩); replace HB := Lib.hid (HB.out.trans (hb3.mono HB.out.size)); replace kr := Lib.hid (kr.out.keep hb3); replace KS := Lib.hid (KS.out.keep hb3); replace kq := Lib.hid (kq.out.keep hb3); clear hb3)
        clear c0 q0 g0 q1 g1 q2 g2 z0 f0 z1 f1 z2 f2
        by_cases h0 : pe = 0
        · subst h0
          have c0 : World.cell? _ ⟨bb, off, none⟩ = some (Value.string a) := rowS_cell KS.out 0 (by decide)
          have q0 := kq.out.cell (i := 0) rfl
          have g0 := kq.out.frozen 0
          have q1 := kq.out.cell (i := 1) rfl
          have g1 := kq.out.frozen 1
          have q2 := kq.out.cell (i := 2) rfl
          have g2 := kq.out.frozen 2
          have z0 := kr.out.cell (i := 0) rfl
          have f0 := kr.out.frozen 0
          have z1 := kr.out.cell (i := 1) rfl
          have f1 := kr.out.frozen 1
          have z2 := kr.out.cell (i := 2) rfl
          have f2 := kr.out.frozen 2
          go_upto_region 9 with fail
          clear c0 q0 g0 q1 g1 q2 g2 z0 f0 z1 f1 z2 f2
          replace kq := Lib.hid (kq.out.set (i := 0) (v := .int .i64 p))
          replace kr := Lib.hid (kr.out.far (i := 0) (v := .int .i64 p) (show w.heap.size ≠ gq by omega))
          replace KS := Lib.hid (KS.out.far (i := 0) (v := .int .i64 p) (show bb ≠ gq by omega))
          replace HB := Lib.hid (HB.out.setCell (show w.heap.size ≤ gq by omega) (.int .i64 p) : Below w.heap.size w (World.setCell w3 ⟨gq, 0, none⟩ (.int .i64 p)))
          generalize World.setCell w3 ⟨gq, 0, none⟩ (.int .i64 p) = V3 at *
          replace kq : Hid (Lok V3 gq 23 #[.int .i64 p, .int .i64 (-1), .int .i64 (-1)]) := kq
          have HE : Hid (cornerS s.data.toList v t n = (p, -1, -1, 0)) := Lib.hid (FF.out.trans (ct_ok (po_s ha hwa) (po_nil _) (po_nil _)))
          have c0 : World.cell? _ ⟨bb, off, none⟩ = some (Value.string a) := rowS_cell KS.out 0 (by decide)
          have q0 := kq.out.cell (i := 0) rfl
          have g0 := kq.out.frozen 0
          have q1 := kq.out.cell (i := 1) rfl
          have g1 := kq.out.frozen 1
          have q2 := kq.out.cell (i := 2) rfl
          have g2 := kq.out.frozen 2
          have z0 := kr.out.cell (i := 0) rfl
          have f0 := kr.out.frozen 0
          have z1 := kr.out.cell (i := 1) rfl
          have f1 := kr.out.frozen 1
          have z2 := kr.out.cell (i := 2) rfl
          have f2 := kr.out.frozen 2
          go_wp2_with fail
          exact bodyPost_ret (v := .tuple #[.agg #[.int .i64 (p), .int .i64 (-1), .int .i64 (-1)], .int .i64 (0)]) (by simp [results, Tryd.results10, go_sem, z0, z1, z2]) rfl ⟨by rw [HE.out]; rfl, ((HB.out.setCell (by simp) _).setCell (by simp) _).setCell (by simp) _⟩
        · have x1 : (pe != 0) = true := by simp [h0]
          have HE : Hid (cornerS s.data.toList v t n = (0, 0, 0, pe)) := Lib.hid (FF.out.trans (ct_a (po_s ha hwa) h0))
          have c0 : World.cell? _ ⟨bb, off, none⟩ = some (Value.string a) := rowS_cell KS.out 0 (by decide)
          have q0 := kq.out.cell (i := 0) rfl
          have g0 := kq.out.frozen 0
          have q1 := kq.out.cell (i := 1) rfl
          have g1 := kq.out.frozen 1
          have q2 := kq.out.cell (i := 2) rfl
          have g2 := kq.out.frozen 2
          have z0 := kr.out.cell (i := 0) rfl
          have f0 := kr.out.frozen 0
          have z1 := kr.out.cell (i := 1) rfl
          have f1 := kr.out.frozen 1
          have z2 := kr.out.cell (i := 2) rfl
          have f2 := kr.out.frozen 2
          go_wp2_with fail
          exact bodyPost_ret (v := .tuple #[.agg #[.int .i64 (0), .int .i64 (0), .int .i64 (0)], .int .i64 (pe)]) (by simp [results, Tryd.results10, go_sem, z0, z1, z2]) rfl ⟨by rw [HE.out]; rfl, ((HB.out.setCell (by simp) _).setCell (by simp) _).setCell (by simp) _⟩
    · have hsa : a.size ≤ 100 := by have := hsz a (by simp); omega
      have hsb : b.size ≤ 100 := by have := hsz b (by simp); omega
      clear hsz HL
      obtain rfl : n0 = 2 := by rw [← hn0]; rfl
      cases hwa : wOK a.data.toList with
      | false =>
        have Wa := Lib.hid (fun W => hwa ▸ rword_any a W hsa)
        have HE : Hid (cornerS s.data.toList v t n = (0, 0, 0, 6)) := Lib.hid (HQ.trans (congrArg (fun z => cornerF z v t n) (show formS [a.data.toList, b.data.toList] = none from if_neg (by rw [hwa]; simp))))
        clear HQ
        have c0 : World.cell? _ ⟨bb, off, none⟩ = some (Value.string a) := rowS_cell KS.out 0 (by decide)
        have c1 : _ = some (Value.string b) := rowS_cell KS.out 1 (by decide)
        have z0 := kr.out.cell (i := 0) rfl
        have f0 := kr.out.frozen 0
        have z1 := kr.out.cell (i := 1) rfl
        have f1 := kr.out.frozen 1
        have z2 := kr.out.cell (i := 2) rfl
        have f2 := kr.out.frozen 2
        go_wp2_with fail
        (((with_reducible refine (Wa.out _).mono ?_); rintro e w2 ⟨rfl, hb2⟩); replace HB := Lib.hid (HB.out.trans (hb2.mono HB.out.size)); replace kr := Lib.hid (kr.out.keep hb2); replace KS := Lib.hid (KS.out.keep hb2); clear hb2)
        clear c0 c1 z0 f0 z1 f1 z2 f2
        have c0 : World.cell? _ ⟨bb, off, none⟩ = some (Value.string a) := rowS_cell KS.out 0 (by decide)
        have c1 : _ = some (Value.string b) := rowS_cell KS.out 1 (by decide)
        have z0 := kr.out.cell (i := 0) rfl
        have f0 := kr.out.frozen 0
        have z1 := kr.out.cell (i := 1) rfl
        have f1 := kr.out.frozen 1
        have z2 := kr.out.cell (i := 2) rfl
        have f2 := kr.out.frozen 2
        go_wp2_with fail
        exact bodyPost_ret (v := .tuple #[.agg #[.int .i64 (0), .int .i64 (0), .int .i64 (0)], .int .i64 (6)]) (by simp [results, Tryd.results10, go_sem, z0, z1, z2]) rfl ⟨by rw [HE.out]; rfl, ((HB.out.setCell (by simp) _).setCell (by simp) _).setCell (by simp) _⟩
      | true =>
        cases hwb : wOK b.data.toList with
        | false =>
          have Wa := Lib.hid (fun W => hwa ▸ rword_any a W hsa)
          have Wb := Lib.hid (fun W => hwb ▸ rword_any b W hsb)
          have HE : Hid (cornerS s.data.toList v t n = (0, 0, 0, 6)) := Lib.hid (HQ.trans (congrArg (fun z => cornerF z v t n) (show formS [a.data.toList, b.data.toList] = none from if_neg (by rw [hwb]; simp))))
          clear HQ
          have c0 : World.cell? _ ⟨bb, off, none⟩ = some (Value.string a) := rowS_cell KS.out 0 (by decide)
          have c1 : _ = some (Value.string b) := rowS_cell KS.out 1 (by decide)
          have z0 := kr.out.cell (i := 0) rfl
          have f0 := kr.out.frozen 0
          have z1 := kr.out.cell (i := 1) rfl
          have f1 := kr.out.frozen 1
          have z2 := kr.out.cell (i := 2) rfl
          have f2 := kr.out.frozen 2
          go_wp2_with fail
          (((with_reducible refine (Wa.out _).mono ?_); rintro e w2 ⟨rfl, hb2⟩); replace HB := Lib.hid (HB.out.trans (hb2.mono HB.out.size)); replace kr := Lib.hid (kr.out.keep hb2); replace KS := Lib.hid (KS.out.keep hb2); clear hb2)
          clear c0 c1 z0 f0 z1 f1 z2 f2
          have c0 : World.cell? _ ⟨bb, off, none⟩ = some (Value.string a) := rowS_cell KS.out 0 (by decide)
          have c1 : _ = some (Value.string b) := rowS_cell KS.out 1 (by decide)
          have z0 := kr.out.cell (i := 0) rfl
          have f0 := kr.out.frozen 0
          have z1 := kr.out.cell (i := 1) rfl
          have f1 := kr.out.frozen 1
          have z2 := kr.out.cell (i := 2) rfl
          have f2 := kr.out.frozen 2
          go_wp2_with fail
          (((with_reducible refine (Wb.out _).mono ?_); rintro e w3 ⟨rfl, hb3⟩); replace HB := Lib.hid (HB.out.trans (hb3.mono HB.out.size)); replace kr := Lib.hid (kr.out.keep hb3); replace KS := Lib.hid (KS.out.keep hb3); clear hb3)
          clear c0 c1 z0 f0 z1 f1 z2 f2
          have c0 : World.cell? _ ⟨bb, off, none⟩ = some (Value.string a) := rowS_cell KS.out 0 (by decide)
          have c1 : _ = some (Value.string b) := rowS_cell KS.out 1 (by decide)
          have z0 := kr.out.cell (i := 0) rfl
          have f0 := kr.out.frozen 0
          have z1 := kr.out.cell (i := 1) rfl
          have f1 := kr.out.frozen 1
          have z2 := kr.out.cell (i := 2) rfl
          have f2 := kr.out.frozen 2
          go_wp2_with fail
          exact bodyPost_ret (v := .tuple #[.agg #[.int .i64 (0), .int .i64 (0), .int .i64 (0)], .int .i64 (6)]) (by simp [results, Tryd.results10, go_sem, z0, z1, z2]) rfl ⟨by rw [HE.out]; rfl, ((HB.out.setCell (by simp) _).setCell (by simp) _).setCell (by simp) _⟩
        | true =>
          have Wa := Lib.hid (fun W => hwa ▸ rword_any a W hsa)
          have Wb := Lib.hid (fun W => hwb ▸ rword_any b W hsb)
          have eb := ne_of_ok hwb
          have FF : Hid (cornerS s.data.toList v t n = cornerT a.data.toList b.data.toList [] v t n) := Lib.hid (HQ.trans (congrArg (fun z => cornerF z v t n) (show formS [a.data.toList, b.data.toList] = some (a.data.toList, b.data.toList, []) from if_pos ⟨hwa, hwb⟩)))
          clear HQ
          have Pa := Lib.hid (fun W => rplace_any a v W bv hsa)
          have ha : placeS a.data.toList v = ((placeS a.data.toList v).1, (placeS a.data.toList v).2) := rfl
          obtain ⟨p, hap⟩ : ∃ x, (placeS a.data.toList v).1 = x := ⟨_, rfl⟩
          obtain ⟨pe, hae⟩ : ∃ x, (placeS a.data.toList v).2 = x := ⟨_, rfl⟩
          rw [hap, hae] at ha
          unfold retW at Pa
          rw [hap, hae] at Pa
          clear hap hae
          have Pb := Lib.hid (fun W => rplace_any b t W bt hsb)
          have hb : placeS b.data.toList t = ((placeS b.data.toList t).1, (placeS b.data.toList t).2) := rfl
          obtain ⟨q, hbp⟩ : ∃ x, (placeS b.data.toList t).1 = x := ⟨_, rfl⟩
          obtain ⟨qe, hbe⟩ : ∃ x, (placeS b.data.toList t).2 = x := ⟨_, rfl⟩
          rw [hbp, hbe] at hb
          unfold retW at Pb
          rw [hbp, hbe] at Pb
          clear hbp hbe
          have c0 : World.cell? _ ⟨bb, off, none⟩ = some (Value.string a) := rowS_cell KS.out 0 (by decide)
          have c1 : _ = some (Value.string b) := rowS_cell KS.out 1 (by decide)
          have z0 := kr.out.cell (i := 0) rfl
          have f0 := kr.out.frozen 0
          have z1 := kr.out.cell (i := 1) rfl
          have f1 := kr.out.frozen 1
          have z2 := kr.out.cell (i := 2) rfl
          have f2 := kr.out.frozen 2
          go_wp2_with fail
          (((with_reducible refine (Wa.out _).mono ?_); rintro e w2 ⟨rfl, hb2⟩); replace HB := Lib.hid (HB.out.trans (hb2.mono HB.out.size)); replace kr := Lib.hid (kr.out.keep hb2); replace KS := Lib.hid (KS.out.keep hb2); clear hb2)
          clear c0 c1 z0 f0 z1 f1 z2 f2
          have c0 : World.cell? _ ⟨bb, off, none⟩ = some (Value.string a) := rowS_cell KS.out 0 (by decide)
          have c1 : _ = some (Value.string b) := rowS_cell KS.out 1 (by decide)
          have z0 := kr.out.cell (i := 0) rfl
          have f0 := kr.out.frozen 0
          have z1 := kr.out.cell (i := 1) rfl
          have f1 := kr.out.frozen 1
          have z2 := kr.out.cell (i := 2) rfl
          have f2 := kr.out.frozen 2
          go_wp2_with fail
          (((with_reducible refine (Wb.out _).mono ?_); rintro e w3 ⟨rfl, hb3⟩); replace HB := Lib.hid (HB.out.trans (hb3.mono HB.out.size)); replace kr := Lib.hid (kr.out.keep hb3); replace KS := Lib.hid (KS.out.keep hb3); clear hb3)
          clear c0 c1 z0 f0 z1 f1 z2 f2
          have c0 : World.cell? _ ⟨bb, off, none⟩ = some (Value.string a) := rowS_cell KS.out 0 (by decide)
          have c1 : _ = some (Value.string b) := rowS_cell KS.out 1 (by decide)
          have z0 := kr.out.cell (i := 0) rfl
          have f0 := kr.out.frozen 0
          have z1 := kr.out.cell (i := 1) rfl
          have f1 := kr.out.frozen 1
          have z2 := kr.out.cell (i := 2) rfl
          have f2 := kr.out.frozen 2
          go_upto_region 5 with fail
          clear c0 c1 z0 f0 z1 f1 z2 f2
          have hbq := rowS_lt KS.out (by decide)
          have hr0 := kr.out.lt
          have hbq := below_new1 w3 (.cells #[.int .i64 (-1), .int .i64 (-1), .int .i64 (-1)] 23)
          replace kr := Lib.hid (kr.out.keep hbq)
          replace KS := Lib.hid (KS.out.keep hbq)
          have zq : (w3.alloc (.cells #[.int .i64 (-1), .int .i64 (-1), .int .i64 (-1)] 23)).heap.size = w3.heap.size + 1 := by simp
          replace HB := Lib.hid (HB.out.trans (hbq.mono HB.out.size))
          have kq := Lib.hid (Lok.new w3 23 #[.int .i64 (-1), .int .i64 (-1), .int .i64 (-1)])
          clear hbq
          generalize w3.alloc (.cells #[.int .i64 (-1), .int .i64 (-1), .int .i64 (-1)] 23) = Vq at *
          have hrs : w.heap.size < w3.heap.size := hr0
          clear zq hr0
          generalize w3.heap.size = gq at *
          have c0 : World.cell? _ ⟨bb, off, none⟩ = some (Value.string a) := rowS_cell KS.out 0 (by decide)
          have c1 : _ = some (Value.string b) := rowS_cell KS.out 1 (by decide)
          have q0 := kq.out.cell (i := 0) rfl
          have g0 := kq.out.frozen 0
          have q1 := kq.out.cell (i := 1) rfl
          have g1 := kq.out.frozen 1
          have q2 := kq.out.cell (i := 2) rfl
          have g2 := kq.out.frozen 2
          have z0 := kr.out.cell (i := 0) rfl
          have f0 := kr.out.frozen 0
          have z1 := kr.out.cell (i := 1) rfl
          have f1 := kr.out.frozen 1
          have z2 := kr.out.cell (i := 2) rfl
          have f2 := kr.out.frozen 2
          go_wp2_with fail
          (((with_reducible refine (Pa.out _).mono ?_); rintro e w4 ⟨rfl, hb4⟩); replace HB := Lib.hid (HB.out.trans (hb4.mono HB.out.size)); replace kr := Lib.hid (kr.out.keep hb4); replace KS := Lib.hid (KS.out.keep hb4); replace kq := Lib.hid (kq.out.keep hb4); clear hb4)
          clear c0 c1 q0 g0 q1 g1 q2 g2 z0 f0 z1 f1 z2 f2
          by_cases h0 : pe = 0
          · subst h0
            have c0 : World.cell? _ ⟨bb, off, none⟩ = some (Value.string a) := rowS_cell KS.out 0 (by decide)
            have c1 : _ = some (Value.string b) := rowS_cell KS.out 1 (by decide)
            have q0 := kq.out.cell (i := 0) rfl
            have g0 := kq.out.frozen 0
            have q1 := kq.out.cell (i := 1) rfl
            have g1 := kq.out.frozen 1
            have q2 := kq.out.cell (i := 2) rfl
            have g2 := kq.out.frozen 2
            have z0 := kr.out.cell (i := 0) rfl
            have f0 := kr.out.frozen 0
            have z1 := kr.out.cell (i := 1) rfl
            have f1 := kr.out.frozen 1
            have z2 := kr.out.cell (i := 2) rfl
            have f2 := kr.out.frozen 2
            go_upto_region 9 with fail
            clear c0 c1 q0 g0 q1 g1 q2 g2 z0 f0 z1 f1 z2 f2
            replace kq := Lib.hid (kq.out.set (i := 0) (v := .int .i64 p))
            replace kr := Lib.hid (kr.out.far (i := 0) (v := .int .i64 p) (show w.heap.size ≠ gq by omega))
            replace KS := Lib.hid (KS.out.far (i := 0) (v := .int .i64 p) (show bb ≠ gq by omega))
            replace HB := Lib.hid (HB.out.setCell (show w.heap.size ≤ gq by omega) (.int .i64 p) : Below w.heap.size w (World.setCell w4 ⟨gq, 0, none⟩ (.int .i64 p)))
            generalize World.setCell w4 ⟨gq, 0, none⟩ (.int .i64 p) = V4 at *
            replace kq : Hid (Lok V4 gq 23 #[.int .i64 p, .int .i64 (-1), .int .i64 (-1)]) := kq
            have c0 : World.cell? _ ⟨bb, off, none⟩ = some (Value.string a) := rowS_cell KS.out 0 (by decide)
            have c1 : _ = some (Value.string b) := rowS_cell KS.out 1 (by decide)
            have q0 := kq.out.cell (i := 0) rfl
            have g0 := kq.out.frozen 0
            have q1 := kq.out.cell (i := 1) rfl
            have g1 := kq.out.frozen 1
            have q2 := kq.out.cell (i := 2) rfl
            have g2 := kq.out.frozen 2
            have z0 := kr.out.cell (i := 0) rfl
            have f0 := kr.out.frozen 0
            have z1 := kr.out.cell (i := 1) rfl
            have f1 := kr.out.frozen 1
            have z2 := kr.out.cell (i := 2) rfl
            have f2 := kr.out.frozen 2
            go_wp2_with fail
            (((with_reducible refine (Pb.out _).mono ?_); rintro e w5 ⟨rfl, hb5⟩); replace HB := Lib.hid (HB.out.trans (hb5.mono HB.out.size)); replace kr := Lib.hid (kr.out.keep hb5); replace KS := Lib.hid (KS.out.keep hb5); replace kq := Lib.hid (kq.out.keep hb5); clear hb5)
            clear c0 c1 q0 g0 q1 g1 q2 g2 z0 f0 z1 f1 z2 f2
            by_cases h0 : qe = 0
            · subst h0
              have c0 : World.cell? _ ⟨bb, off, none⟩ = some (Value.string a) := rowS_cell KS.out 0 (by decide)
              have c1 : _ = some (Value.string b) := rowS_cell KS.out 1 (by decide)
              have q0 := kq.out.cell (i := 0) rfl
              have g0 := kq.out.frozen 0
              have q1 := kq.out.cell (i := 1) rfl
              have g1 := kq.out.frozen 1
              have q2 := kq.out.cell (i := 2) rfl
              have g2 := kq.out.frozen 2
              have z0 := kr.out.cell (i := 0) rfl
              have f0 := kr.out.frozen 0
              have z1 := kr.out.cell (i := 1) rfl
              have f1 := kr.out.frozen 1
              have z2 := kr.out.cell (i := 2) rfl
              have f2 := kr.out.frozen 2
              go_upto_region 14 with fail
              clear c0 c1 q0 g0 q1 g1 q2 g2 z0 f0 z1 f1 z2 f2
              replace kq := Lib.hid (kq.out.set (i := 1) (v := .int .i64 q))
              replace kr := Lib.hid (kr.out.far (i := 1) (v := .int .i64 q) (show w.heap.size ≠ gq by omega))
              replace KS := Lib.hid (KS.out.far (i := 1) (v := .int .i64 q) (show bb ≠ gq by omega))
              replace HB := Lib.hid (HB.out.setCell (show w.heap.size ≤ gq by omega) (.int .i64 q) : Below w.heap.size w (World.setCell w5 ⟨gq, 1, none⟩ (.int .i64 q)))
              generalize World.setCell w5 ⟨gq, 1, none⟩ (.int .i64 q) = V5 at *
              replace kq : Hid (Lok V5 gq 23 #[.int .i64 p, .int .i64 q, .int .i64 (-1)]) := kq
              have HE : Hid (cornerS s.data.toList v t n = (p, q, -1, 0)) := Lib.hid (FF.out.trans (ct_ok (po_s ha hwa) (po_s hb hwb) (po_nil _)))
              have c0 : World.cell? _ ⟨bb, off, none⟩ = some (Value.string a) := rowS_cell KS.out 0 (by decide)
              have c1 : _ = some (Value.string b) := rowS_cell KS.out 1 (by decide)
              have q0 := kq.out.cell (i := 0) rfl
              have g0 := kq.out.frozen 0
              have q1 := kq.out.cell (i := 1) rfl
              have g1 := kq.out.frozen 1
              have q2 := kq.out.cell (i := 2) rfl
              have g2 := kq.out.frozen 2
              have z0 := kr.out.cell (i := 0) rfl
              have f0 := kr.out.frozen 0
              have z1 := kr.out.cell (i := 1) rfl
              have f1 := kr.out.frozen 1
              have z2 := kr.out.cell (i := 2) rfl
              have f2 := kr.out.frozen 2
              go_wp2_with fail
              exact bodyPost_ret (v := .tuple #[.agg #[.int .i64 (p), .int .i64 (q), .int .i64 (-1)], .int .i64 (0)]) (by simp [results, Tryd.results10, go_sem, z0, z1, z2]) rfl ⟨by rw [HE.out]; rfl, ((HB.out.setCell (by simp) _).setCell (by simp) _).setCell (by simp) _⟩
            · have x1 : (qe != 0) = true := by simp [h0]
              have HE : Hid (cornerS s.data.toList v t n = (0, 0, 0, qe)) := Lib.hid (FF.out.trans (ct_b (po_s ha hwa) (po_s hb hwb) h0))
              have c0 : World.cell? _ ⟨bb, off, none⟩ = some (Value.string a) := rowS_cell KS.out 0 (by decide)
              have c1 : _ = some (Value.string b) := rowS_cell KS.out 1 (by decide)
              have q0 := kq.out.cell (i := 0) rfl
              have g0 := kq.out.frozen 0
              have q1 := kq.out.cell (i := 1) rfl
              have g1 := kq.out.frozen 1
              have q2 := kq.out.cell (i := 2) rfl
              have g2 := kq.out.frozen 2
              have z0 := kr.out.cell (i := 0) rfl
              have f0 := kr.out.frozen 0
              have z1 := kr.out.cell (i := 1) rfl
              have f1 := kr.out.frozen 1
              have z2 := kr.out.cell (i := 2) rfl
              have f2 := kr.out.frozen 2
              go_wp2_with fail
              exact bodyPost_ret (v := .tuple #[.agg #[.int .i64 (0), .int .i64 (0), .int .i64 (0)], .int .i64 (qe)]) (by simp [results, Tryd.results10, go_sem, z0, z1, z2]) rfl ⟨by rw [HE.out]; rfl, ((HB.out.setCell (by simp) _).setCell (by simp) _).setCell (by simp) _⟩
          · have x1 : (pe != 0) = true := by simp [h0]
            have HE : Hid (cornerS s.data.toList v t n = (0, 0, 0, pe)) := Lib.hid (FF.out.trans (ct_a (po_s ha hwa) h0))
            have c0 : World.cell? _ ⟨bb, off, none⟩ = some (Value.string a) := rowS_cell KS.out 0 (by decide)
            have c1 : _ = some (Value.string b) := rowS_cell KS.out 1 (by decide)
            have q0 := kq.out.cell (i := 0) rfl
            have g0 := kq.out.frozen 0
            have q1 := kq.out.cell (i := 1) rfl
            have g1 := kq.out.frozen 1
            have q2 := kq.out.cell (i := 2) rfl
            have g2 := kq.out.frozen 2
            have z0 := kr.out.cell (i := 0) rfl
            have f0 := kr.out.frozen 0
            have z1 := kr.out.cell (i := 1) rfl
            have f1 := kr.out.frozen 1
            have z2 := kr.out.cell (i := 2) rfl
            have f2 := kr.out.frozen 2
            go_wp2_with fail
            exact bodyPost_ret (v := .tuple #[.agg #[.int .i64 (0), .int .i64 (0), .int .i64 (0)], .int .i64 (pe)]) (by simp [results, Tryd.results10, go_sem, z0, z1, z2]) rfl ⟨by rw [HE.out]; rfl, ((HB.out.setCell (by simp) _).setCell (by simp) _).setCell (by simp) _⟩
    · have hsa : a.size ≤ 100 := by have := hsz a (by simp); omega
      have hsb : b.size ≤ 100 := by have := hsz b (by simp); omega
      have hsc : c.size ≤ 100 := by have := hsz c (by simp); omega
      clear hsz HL
      obtain rfl : n0 = 3 := by rw [← hn0]; rfl
      cases hwa : wOK a.data.toList with
      | false =>
        have Wa := Lib.hid (fun W => hwa ▸ rword_any a W hsa)
        have HE : Hid (cornerS s.data.toList v t n = (0, 0, 0, 6)) := Lib.hid (HQ.trans (congrArg (fun z => cornerF z v t n) (show formS [a.data.toList, b.data.toList, c.data.toList] = none from if_neg (by rw [hwa]; simp))))
        clear HQ
        have c0 : World.cell? _ ⟨bb, off, none⟩ = some (Value.string a) := rowS_cell KS.out 0 (by decide)
        have c1 : _ = some (Value.string b) := rowS_cell KS.out 1 (by decide)
        have c2 : _ = some (Value.string c) := rowS_cell KS.out 2 (by decide)
        have z0 := kr.out.cell (i := 0) rfl
        have f0 := kr.out.frozen 0
        have z1 := kr.out.cell (i := 1) rfl
        have f1 := kr.out.frozen 1
        have z2 := kr.out.cell (i := 2) rfl
        have f2 := kr.out.frozen 2
        go_wp2_with fail
        (((with_reducible refine (Wa.out _).mono ?_); rintro e w2 ⟨rfl, hb2⟩); replace HB := Lib.hid (HB.out.trans (hb2.mono HB.out.size)); replace kr := Lib.hid (kr.out.keep hb2); replace KS := Lib.hid (KS.out.keep hb2); clear hb2)
        clear c0 c1 c2 z0 f0 z1 f1 z2 f2
        have c0 : World.cell? _ ⟨bb, off, none⟩ = some (Value.string a) := rowS_cell KS.out 0 (by decide)
        have c1 : _ = some (Value.string b) := rowS_cell KS.out 1 (by decide)
        have c2 : _ = some (Value.string c) := rowS_cell KS.out 2 (by decide)
        have z0 := kr.out.cell (i := 0) rfl
        have f0 := kr.out.frozen 0
        have z1 := kr.out.cell (i := 1) rfl
        have f1 := kr.out.frozen 1
        have z2 := kr.out.cell (i := 2) rfl
        have f2 := kr.out.frozen 2
        go_wp2_with fail
        exact bodyPost_ret (v := .tuple #[.agg #[.int .i64 (0), .int .i64 (0), .int .i64 (0)], .int .i64 (6)]) (by simp [results, Tryd.results10, go_sem, z0, z1, z2]) rfl ⟨by rw [HE.out]; rfl, ((HB.out.setCell (by simp) _).setCell (by simp) _).setCell (by simp) _⟩
      | true =>
        by_cases hz : b.size = 0
        · have hbn : b.data.toList = [] := (empty_iff b).2 hz
          have eb : b.toList.isEmpty = true := by rw [Lib.toList_data, hbn]; rfl
          cases hwc : wOK c.data.toList with
          | false =>
            have Wa := Lib.hid (fun W => hwa ▸ rword_any a W hsa)
            have Wc := Lib.hid (fun W => hwc ▸ rword_any c W hsc)
            have HE : Hid (cornerS s.data.toList v t n = (0, 0, 0, 6)) := Lib.hid (HQ.trans (congrArg (fun z => cornerF z v t n) (show formS [a.data.toList, b.data.toList, c.data.toList] = none from if_neg (by rw [hwc]; simp))))
            clear HQ
            have c0 : World.cell? _ ⟨bb, off, none⟩ = some (Value.string a) := rowS_cell KS.out 0 (by decide)
            have c1 : _ = some (Value.string b) := rowS_cell KS.out 1 (by decide)
            have c2 : _ = some (Value.string c) := rowS_cell KS.out 2 (by decide)
            have z0 := kr.out.cell (i := 0) rfl
            have f0 := kr.out.frozen 0
            have z1 := kr.out.cell (i := 1) rfl
            have f1 := kr.out.frozen 1
            have z2 := kr.out.cell (i := 2) rfl
            have f2 := kr.out.frozen 2
            go_wp2_with fail
            (((with_reducible refine (Wa.out _).mono ?_); rintro e w2 ⟨rfl, hb2⟩); replace HB := Lib.hid (HB.out.trans (hb2.mono HB.out.size)); replace kr := Lib.hid (kr.out.keep hb2); replace KS := Lib.hid (KS.out.keep hb2); clear hb2)
            clear c0 c1 c2 z0 f0 z1 f1 z2 f2
            have c0 : World.cell? _ ⟨bb, off, none⟩ = some (Value.string a) := rowS_cell KS.out 0 (by decide)
            have c1 : _ = some (Value.string b) := rowS_cell KS.out 1 (by decide)
            have c2 : _ = some (Value.string c) := rowS_cell KS.out 2 (by decide)
            have z0 := kr.out.cell (i := 0) rfl
            have f0 := kr.out.frozen 0
            have z1 := kr.out.cell (i := 1) rfl
            have f1 := kr.out.frozen 1
            have z2 := kr.out.cell (i := 2) rfl
            have f2 := kr.out.frozen 2
            go_wp2_with fail
            (((with_reducible refine (Wc.out _).mono ?_); rintro e w3 ⟨rfl, hb3⟩); replace HB := Lib.hid (HB.out.trans (hb3.mono HB.out.size)); replace kr := Lib.hid (kr.out.keep hb3); replace KS := Lib.hid (KS.out.keep hb3); clear hb3)
            clear c0 c1 c2 z0 f0 z1 f1 z2 f2
            have c0 : World.cell? _ ⟨bb, off, none⟩ = some (Value.string a) := rowS_cell KS.out 0 (by decide)
            have c1 : _ = some (Value.string b) := rowS_cell KS.out 1 (by decide)
            have c2 : _ = some (Value.string c) := rowS_cell KS.out 2 (by decide)
            have z0 := kr.out.cell (i := 0) rfl
            have f0 := kr.out.frozen 0
            have z1 := kr.out.cell (i := 1) rfl
            have f1 := kr.out.frozen 1
            have z2 := kr.out.cell (i := 2) rfl
            have f2 := kr.out.frozen 2
            go_wp2_with fail
            exact bodyPost_ret (v := .tuple #[.agg #[.int .i64 (0), .int .i64 (0), .int .i64 (0)], .int .i64 (6)]) (by simp [results, Tryd.results10, go_sem, z0, z1, z2]) rfl ⟨by rw [HE.out]; rfl, ((HB.out.setCell (by simp) _).setCell (by simp) _).setCell (by simp) _⟩
          | true =>
            have Wa := Lib.hid (fun W => hwa ▸ rword_any a W hsa)
            have Wc := Lib.hid (fun W => hwc ▸ rword_any c W hsc)
            have FF : Hid (cornerS s.data.toList v t n = cornerT a.data.toList [] c.data.toList v t n) := Lib.hid (HQ.trans (congrArg (fun z => cornerF z v t n) (show formS [a.data.toList, b.data.toList, c.data.toList] = some (a.data.toList, [], c.data.toList) from (if_pos ⟨hwa, .inl hbn, hwc⟩).trans (by rw [hbn]))))
            clear HQ
            have Pa := Lib.hid (fun W => rplace_any a v W bv hsa)
            have ha : placeS a.data.toList v = ((placeS a.data.toList v).1, (placeS a.data.toList v).2) := rfl
            obtain ⟨p, hap⟩ : ∃ x, (placeS a.data.toList v).1 = x := ⟨_, rfl⟩
            obtain ⟨pe, hae⟩ : ∃ x, (placeS a.data.toList v).2 = x := ⟨_, rfl⟩
            rw [hap, hae] at ha
            unfold retW at Pa
            rw [hap, hae] at Pa
            clear hap hae
            have Pc := Lib.hid (fun W => rplace_any c n W bn hsc)
            have hc : placeS c.data.toList n = ((placeS c.data.toList n).1, (placeS c.data.toList n).2) := rfl
            obtain ⟨r, hcp⟩ : ∃ x, (placeS c.data.toList n).1 = x := ⟨_, rfl⟩
            obtain ⟨re, hce⟩ : ∃ x, (placeS c.data.toList n).2 = x := ⟨_, rfl⟩
            rw [hcp, hce] at hc
            unfold retW at Pc
            rw [hcp, hce] at Pc
            clear hcp hce
            have c0 : World.cell? _ ⟨bb, off, none⟩ = some (Value.string a) := rowS_cell KS.out 0 (by decide)
            have c1 : _ = some (Value.string b) := rowS_cell KS.out 1 (by decide)
            have c2 : _ = some (Value.string c) := rowS_cell KS.out 2 (by decide)
            have z0 := kr.out.cell (i := 0) rfl
            have f0 := kr.out.frozen 0
            have z1 := kr.out.cell (i := 1) rfl
            have f1 := kr.out.frozen 1
            have z2 := kr.out.cell (i := 2) rfl
            have f2 := kr.out.frozen 2
            go_wp2_with fail
            (((with_reducible refine (Wa.out _).mono ?_); rintro e w2 ⟨rfl, hb2⟩); replace HB := Lib.hid (HB.out.trans (hb2.mono HB.out.size)); replace kr := Lib.hid (kr.out.keep hb2); replace KS := Lib.hid (KS.out.keep hb2); clear hb2)
            clear c0 c1 c2 z0 f0 z1 f1 z2 f2
            have c0 : World.cell? _ ⟨bb, off, none⟩ = some (Value.string a) := rowS_cell KS.out 0 (by decide)
            have c1 : _ = some (Value.string b) := rowS_cell KS.out 1 (by decide)
            have c2 : _ = some (Value.string c) := rowS_cell KS.out 2 (by decide)
            have z0 := kr.out.cell (i := 0) rfl
            have f0 := kr.out.frozen 0
            have z1 := kr.out.cell (i := 1) rfl
            have f1 := kr.out.frozen 1
            have z2 := kr.out.cell (i := 2) rfl
            have f2 := kr.out.frozen 2
            go_wp2_with fail
            (((with_reducible refine (Wc.out _).mono ?_); rintro e w3 ⟨rfl, hb3⟩); replace HB := Lib.hid (HB.out.trans (hb3.mono HB.out.size)); replace kr := Lib.hid (kr.out.keep hb3); replace KS := Lib.hid (KS.out.keep hb3); clear hb3)
            clear c0 c1 c2 z0 f0 z1 f1 z2 f2
            have c0 : World.cell? _ ⟨bb, off, none⟩ = some (Value.string a) := rowS_cell KS.out 0 (by decide)
            have c1 : _ = some (Value.string b) := rowS_cell KS.out 1 (by decide)
            have c2 : _ = some (Value.string c) := rowS_cell KS.out 2 (by decide)
            have z0 := kr.out.cell (i := 0) rfl
            have f0 := kr.out.frozen 0
            have z1 := kr.out.cell (i := 1) rfl
            have f1 := kr.out.frozen 1
            have z2 := kr.out.cell (i := 2) rfl
            have f2 := kr.out.frozen 2
            go_upto_region 5 with fail
            clear c0 c1 c2 z0 f0 z1 f1 z2 f2
            have hbq := rowS_lt KS.out (by decide)
            have hr0 := kr.out.lt
            have hbq := below_new1 w3 (.cells #[.int .i64 (-1), .int .i64 (-1), .int .i64 (-1)] 23)
            replace kr := Lib.hid (kr.out.keep hbq)
            replace KS := Lib.hid (KS.out.keep hbq)
            have zq : (w3.alloc (.cells #[.int .i64 (-1), .int .i64 (-1), .int .i64 (-1)] 23)).heap.size = w3.heap.size + 1 := by simp
            replace HB := Lib.hid (HB.out.trans (hbq.mono HB.out.size))
            have kq := Lib.hid (Lok.new w3 23 #[.int .i64 (-1), .int .i64 (-1), .int .i64 (-1)])
            clear hbq
            generalize w3.alloc (.cells #[.int .i64 (-1), .int .i64 (-1), .int .i64 (-1)] 23) = Vq at *
            have hrs : w.heap.size < w3.heap.size := hr0
            clear zq hr0
            generalize w3.heap.size = gq at *
            have c0 : World.cell? _ ⟨bb, off, none⟩ = some (Value.string a) := rowS_cell KS.out 0 (by decide)
            have c1 : _ = some (Value.string b) := rowS_cell KS.out 1 (by decide)
            have c2 : _ = some (Value.string c) := rowS_cell KS.out 2 (by decide)
            have q0 := kq.out.cell (i := 0) rfl
            have g0 := kq.out.frozen 0
            have q1 := kq.out.cell (i := 1) rfl
            have g1 := kq.out.frozen 1
            have q2 := kq.out.cell (i := 2) rfl
            have g2 := kq.out.frozen 2
            have z0 := kr.out.cell (i := 0) rfl
            have f0 := kr.out.frozen 0
            have z1 := kr.out.cell (i := 1) rfl
            have f1 := kr.out.frozen 1
            have z2 := kr.out.cell (i := 2) rfl
            have f2 := kr.out.frozen 2
            go_wp2_with fail
            (((with_reducible refine (Pa.out _).mono ?_); rintro e w4 ⟨rfl, hb4⟩); replace HB := Lib.hid (HB.out.trans (hb4.mono HB.out.size)); replace kr := Lib.hid (kr.out.keep hb4); replace KS := Lib.hid (KS.out.keep hb4); replace kq := Lib.hid (kq.out.keep hb4); clear hb4)
            clear c0 c1 c2 q0 g0 q1 g1 q2 g2 z0 f0 z1 f1 z2 f2
            by_cases h0 : pe = 0
            · subst h0
              have c0 : World.cell? _ ⟨bb, off, none⟩ = some (Value.string a) := rowS_cell KS.out 0 (by decide)
              have c1 : _ = some (Value.string b) := rowS_cell KS.out 1 (by decide)
              have c2 : _ = some (Value.string c) := rowS_cell KS.out 2 (by decide)
              have q0 := kq.out.cell (i := 0) rfl
              have g0 := kq.out.frozen 0
              have q1 := kq.out.cell (i := 1) rfl
              have g1 := kq.out.frozen 1
              have q2 := kq.out.cell (i := 2) rfl
              have g2 := kq.out.frozen 2
              have z0 := kr.out.cell (i := 0) rfl
              have f0 := kr.out.frozen 0
              have z1 := kr.out.cell (i := 1) rfl
              have f1 := kr.out.frozen 1
              have z2 := kr.out.cell (i := 2) rfl
              have f2 := kr.out.frozen 2
              go_upto_region 9 with fail
              clear c0 c1 c2 q0 g0 q1 g1 q2 g2 z0 f0 z1 f1 z2 f2
              replace kq := Lib.hid (kq.out.set (i := 0) (v := .int .i64 p))
              replace kr := Lib.hid (kr.out.far (i := 0) (v := .int .i64 p) (show w.heap.size ≠ gq by omega))
              replace KS := Lib.hid (KS.out.far (i := 0) (v := .int .i64 p) (show bb ≠ gq by omega))
              replace HB := Lib.hid (HB.out.setCell (show w.heap.size ≤ gq by omega) (.int .i64 p) : Below w.heap.size w (World.setCell w4 ⟨gq, 0, none⟩ (.int .i64 p)))
              generalize World.setCell w4 ⟨gq, 0, none⟩ (.int .i64 p) = V4 at *
              replace kq : Hid (Lok V4 gq 23 #[.int .i64 p, .int .i64 (-1), .int .i64 (-1)]) := kq
              have c0 : World.cell? _ ⟨bb, off, none⟩ = some (Value.string a) := rowS_cell KS.out 0 (by decide)
              have c1 : _ = some (Value.string b) := rowS_cell KS.out 1 (by decide)
              have c2 : _ = some (Value.string c) := rowS_cell KS.out 2 (by decide)
              have q0 := kq.out.cell (i := 0) rfl
              have g0 := kq.out.frozen 0
              have q1 := kq.out.cell (i := 1) rfl
              have g1 := kq.out.frozen 1
              have q2 := kq.out.cell (i := 2) rfl
              have g2 := kq.out.frozen 2
              have z0 := kr.out.cell (i := 0) rfl
              have f0 := kr.out.frozen 0
              have z1 := kr.out.cell (i := 1) rfl
              have f1 := kr.out.frozen 1
              have z2 := kr.out.cell (i := 2) rfl
              have f2 := kr.out.frozen 2
              go_wp2_with fail
              (((with_reducible refine (Pc.out _).mono ?_); rintro e w5 ⟨rfl, hb5⟩); replace HB := Lib.hid (HB.out.trans (hb5.mono HB.out.size)); replace kr := Lib.hid (kr.out.keep hb5); replace KS := Lib.hid (KS.out.keep hb5); replace kq := Lib.hid (kq.out.keep hb5); clear hb5)
              clear c0 c1 c2 q0 g0 q1 g1 q2 g2 z0 f0 z1 f1 z2 f2
              by_cases h0 : re = 0
              · subst h0
                have c0 : World.cell? _ ⟨bb, off, none⟩ = some (Value.string a) := rowS_cell KS.out 0 (by decide)
                have c1 : _ = some (Value.string b) := rowS_cell KS.out 1 (by decide)
                have c2 : _ = some (Value.string c) := rowS_cell KS.out 2 (by decide)
                have q0 := kq.out.cell (i := 0) rfl
                have g0 := kq.out.frozen 0
                have q1 := kq.out.cell (i := 1) rfl
                have g1 := kq.out.frozen 1
                have q2 := kq.out.cell (i := 2) rfl
                have g2 := kq.out.frozen 2
                have z0 := kr.out.cell (i := 0) rfl
                have f0 := kr.out.frozen 0
                have z1 := kr.out.cell (i := 1) rfl
                have f1 := kr.out.frozen 1
                have z2 := kr.out.cell (i := 2) rfl
                have f2 := kr.out.frozen 2
                go_upto_region 19 with fail
                clear c0 c1 c2 q0 g0 q1 g1 q2 g2 z0 f0 z1 f1 z2 f2
                replace kq := Lib.hid (kq.out.set (i := 2) (v := .int .i64 r))
                replace kr := Lib.hid (kr.out.far (i := 2) (v := .int .i64 r) (show w.heap.size ≠ gq by omega))
                replace KS := Lib.hid (KS.out.far (i := 2) (v := .int .i64 r) (show bb ≠ gq by omega))
                replace HB := Lib.hid (HB.out.setCell (show w.heap.size ≤ gq by omega) (.int .i64 r) : Below w.heap.size w (World.setCell w5 ⟨gq, 2, none⟩ (.int .i64 r)))
                generalize World.setCell w5 ⟨gq, 2, none⟩ (.int .i64 r) = V5 at *
                replace kq : Hid (Lok V5 gq 23 #[.int .i64 p, .int .i64 (-1), .int .i64 r]) := kq
                have HE : Hid (cornerS s.data.toList v t n = (p, -1, r, 0)) := Lib.hid (FF.out.trans (ct_ok (po_s ha hwa) (po_nil _) (po_s hc hwc)))
                have c0 : World.cell? _ ⟨bb, off, none⟩ = some (Value.string a) := rowS_cell KS.out 0 (by decide)
                have c1 : _ = some (Value.string b) := rowS_cell KS.out 1 (by decide)
                have c2 : _ = some (Value.string c) := rowS_cell KS.out 2 (by decide)
                have q0 := kq.out.cell (i := 0) rfl
                have g0 := kq.out.frozen 0
                have q1 := kq.out.cell (i := 1) rfl
                have g1 := kq.out.frozen 1
                have q2 := kq.out.cell (i := 2) rfl
                have g2 := kq.out.frozen 2
                have z0 := kr.out.cell (i := 0) rfl
                have f0 := kr.out.frozen 0
                have z1 := kr.out.cell (i := 1) rfl
                have f1 := kr.out.frozen 1
                have z2 := kr.out.cell (i := 2) rfl
                have f2 := kr.out.frozen 2
                go_wp2_with fail
                exact bodyPost_ret (v := .tuple #[.agg #[.int .i64 (p), .int .i64 (-1), .int .i64 (r)], .int .i64 (0)]) (by simp [results, Tryd.results10, go_sem, z0, z1, z2]) rfl ⟨by rw [HE.out]; rfl, ((HB.out.setCell (by simp) _).setCell (by simp) _).setCell (by simp) _⟩
              · have x1 : (re != 0) = true := by simp [h0]
                have HE : Hid (cornerS s.data.toList v t n = (0, 0, 0, re)) := Lib.hid (FF.out.trans (ct_c (po_s ha hwa) (po_nil _) (po_s hc hwc) h0))
                have c0 : World.cell? _ ⟨bb, off, none⟩ = some (Value.string a) := rowS_cell KS.out 0 (by decide)
                have c1 : _ = some (Value.string b) := rowS_cell KS.out 1 (by decide)
                have c2 : _ = some (Value.string c) := rowS_cell KS.out 2 (by decide)
                have q0 := kq.out.cell (i := 0) rfl
                have g0 := kq.out.frozen 0
                have q1 := kq.out.cell (i := 1) rfl
                have g1 := kq.out.frozen 1
                have q2 := kq.out.cell (i := 2) rfl
                have g2 := kq.out.frozen 2
                have z0 := kr.out.cell (i := 0) rfl
                have f0 := kr.out.frozen 0
                have z1 := kr.out.cell (i := 1) rfl
                have f1 := kr.out.frozen 1
                have z2 := kr.out.cell (i := 2) rfl
                have f2 := kr.out.frozen 2
                go_wp2_with fail
                exact bodyPost_ret (v := .tuple #[.agg #[.int .i64 (0), .int .i64 (0), .int .i64 (0)], .int .i64 (re)]) (by simp [results, Tryd.results10, go_sem, z0, z1, z2]) rfl ⟨by rw [HE.out]; rfl, ((HB.out.setCell (by simp) _).setCell (by simp) _).setCell (by simp) _⟩
            · have x1 : (pe != 0) = true := by simp [h0]
              have HE : Hid (cornerS s.data.toList v t n = (0, 0, 0, pe)) := Lib.hid (FF.out.trans (ct_a (po_s ha hwa) h0))
              have c0 : World.cell? _ ⟨bb, off, none⟩ = some (Value.string a) := rowS_cell KS.out 0 (by decide)
              have c1 : _ = some (Value.string b) := rowS_cell KS.out 1 (by decide)
              have c2 : _ = some (Value.string c) := rowS_cell KS.out 2 (by decide)
              have q0 := kq.out.cell (i := 0) rfl
              have g0 := kq.out.frozen 0
              have q1 := kq.out.cell (i := 1) rfl
              have g1 := kq.out.frozen 1
              have q2 := kq.out.cell (i := 2) rfl
              have g2 := kq.out.frozen 2
              have z0 := kr.out.cell (i := 0) rfl
              have f0 := kr.out.frozen 0
              have z1 := kr.out.cell (i := 1) rfl
              have f1 := kr.out.frozen 1
              have z2 := kr.out.cell (i := 2) rfl
              have f2 := kr.out.frozen 2
              go_wp2_with fail
              exact bodyPost_ret (v := .tuple #[.agg #[.int .i64 (0), .int .i64 (0), .int .i64 (0)], .int .i64 (pe)]) (by simp [results, Tryd.results10, go_sem, z0, z1, z2]) rfl ⟨by rw [HE.out]; rfl, ((HB.out.setCell (by simp) _).setCell (by simp) _).setCell (by simp) _⟩
        · have eb : b.toList.isEmpty = false := by
            rw [Lib.toList_data]
            cases h : b.data.toList with
            | nil => exact absurd ((empty_iff b).1 h) hz
            | cons _ _ => rfl
          have hbn : ¬ b.data.toList = [] := fun q => hz ((empty_iff b).1 q)
          cases hwb : wOK b.data.toList with
          | false =>
            have Wa := Lib.hid (fun W => hwa ▸ rword_any a W hsa)
            have Wb := Lib.hid (fun W => hwb ▸ rword_any b W hsb)
            have HE : Hid (cornerS s.data.toList v t n = (0, 0, 0, 6)) := Lib.hid (HQ.trans (congrArg (fun z => cornerF z v t n) (show formS [a.data.toList, b.data.toList, c.data.toList] = none from if_neg (by rw [hwb]; simp [hbn]))))
            clear HQ
            have c0 : World.cell? _ ⟨bb, off, none⟩ = some (Value.string a) := rowS_cell KS.out 0 (by decide)
            have c1 : _ = some (Value.string b) := rowS_cell KS.out 1 (by decide)
            have c2 : _ = some (Value.string c) := rowS_cell KS.out 2 (by decide)
            have z0 := kr.out.cell (i := 0) rfl
            have f0 := kr.out.frozen 0
            have z1 := kr.out.cell (i := 1) rfl
            have f1 := kr.out.frozen 1
            have z2 := kr.out.cell (i := 2) rfl
            have f2 := kr.out.frozen 2
            go_wp2_with fail
            (((with_reducible refine (Wa.out _).mono ?_); rintro e w2 ⟨rfl, hb2⟩); replace HB := Lib.hid (HB.out.trans (hb2.mono HB.out.size)); replace kr := Lib.hid (kr.out.keep hb2); replace KS := Lib.hid (KS.out.keep hb2); clear hb2)
            clear c0 c1 c2 z0 f0 z1 f1 z2 f2
            have c0 : World.cell? _ ⟨bb, off, none⟩ = some (Value.string a) := rowS_cell KS.out 0 (by decide)
            have c1 : _ = some (Value.string b) := rowS_cell KS.out 1 (by decide)
            have c2 : _ = some (Value.string c) := rowS_cell KS.out 2 (by decide)
            have z0 := kr.out.cell (i := 0) rfl
            have f0 := kr.out.frozen 0
            have z1 := kr.out.cell (i := 1) rfl
            have f1 := kr.out.frozen 1
            have z2 := kr.out.cell (i := 2) rfl
            have f2 := kr.out.frozen 2
            go_wp2_with fail
            (((with_reducible refine (Wb.out _).mono ?_); rintro e w3 ⟨rfl, hb3⟩); replace HB := Lib.hid (HB.out.trans (hb3.mono HB.out.size)); replace kr := Lib.hid (kr.out.keep hb3); replace KS := Lib.hid (KS.out.keep hb3); clear hb3)
            clear c0 c1 c2 z0 f0 z1 f1 z2 f2
            have c0 : World.cell? _ ⟨bb, off, none⟩ = some (Value.string a) := rowS_cell KS.out 0 (by decide)
            have c1 : _ = some (Value.string b) := rowS_cell KS.out 1 (by decide)
            have c2 : _ = some (Value.string c) := rowS_cell KS.out 2 (by decide)
            have z0 := kr.out.cell (i := 0) rfl
            have f0 := kr.out.frozen 0
            have z1 := kr.out.cell (i := 1) rfl
            have f1 := kr.out.frozen 1
            have z2 := kr.out.cell (i := 2) rfl
            have f2 := kr.out.frozen 2
            go_wp2_with fail
            exact bodyPost_ret (v := .tuple #[.agg #[.int .i64 (0), .int .i64 (0), .int .i64 (0)], .int .i64 (6)]) (by simp [results, Tryd.results10, go_sem, z0, z1, z2]) rfl ⟨by rw [HE.out]; rfl, ((HB.out.setCell (by simp) _).setCell (by simp) _).setCell (by simp) _⟩
          | true =>
            cases hwc : wOK c.data.toList with
            | false =>
              have Wa := Lib.hid (fun W => hwa ▸ rword_any a W hsa)
              have Wb := Lib.hid (fun W => hwb ▸ rword_any b W hsb)
              have Wc := Lib.hid (fun W => hwc ▸ rword_any c W hsc)
              have HE : Hid (cornerS s.data.toList v t n = (0, 0, 0, 6)) := Lib.hid (HQ.trans (congrArg (fun z => cornerF z v t n) (show formS [a.data.toList, b.data.toList, c.data.toList] = none from if_neg (by rw [hwc]; simp))))
              clear HQ
              have c0 : World.cell? _ ⟨bb, off, none⟩ = some (Value.string a) := rowS_cell KS.out 0 (by decide)
              have c1 : _ = some (Value.string b) := rowS_cell KS.out 1 (by decide)
              have c2 : _ = some (Value.string c) := rowS_cell KS.out 2 (by decide)
              have z0 := kr.out.cell (i := 0) rfl
              have f0 := kr.out.frozen 0
              have z1 := kr.out.cell (i := 1) rfl
              have f1 := kr.out.frozen 1
              have z2 := kr.out.cell (i := 2) rfl
              have f2 := kr.out.frozen 2
              go_wp2_with fail
              (((with_reducible refine (Wa.out _).mono ?_); rintro e w2 ⟨rfl, hb2⟩); replace HB := Lib.hid (HB.out.trans (hb2.mono HB.out.size)); replace kr := Lib.hid (kr.out.keep hb2); replace KS := Lib.hid (KS.out.keep hb2); clear hb2)
              clear c0 c1 c2 z0 f0 z1 f1 z2 f2
              have c0 : World.cell? _ ⟨bb, off, none⟩ = some (Value.string a) := rowS_cell KS.out 0 (by decide)
              have c1 : _ = some (Value.string b) := rowS_cell KS.out 1 (by decide)
              have c2 : _ = some (Value.string c) := rowS_cell KS.out 2 (by decide)
              have z0 := kr.out.cell (i := 0) rfl
              have f0 := kr.out.frozen 0
              have z1 := kr.out.cell (i := 1) rfl
              have f1 := kr.out.frozen 1
              have z2 := kr.out.cell (i := 2) rfl
              have f2 := kr.out.frozen 2
              go_wp2_with fail
              (((with_reducible refine (Wb.out _).mono ?_); rintro e w3 ⟨rfl, hb3⟩); replace HB := Lib.hid (HB.out.trans (hb3.mono HB.out.size)); replace kr := Lib.hid (kr.out.keep hb3); replace KS := Lib.hid (KS.out.keep hb3); clear hb3)
              clear c0 c1 c2 z0 f0 z1 f1 z2 f2
              have c0 : World.cell? _ ⟨bb, off, none⟩ = some (Value.string a) := rowS_cell KS.out 0 (by decide)
              have c1 : _ = some (Value.string b) := rowS_cell KS.out 1 (by decide)
              have c2 : _ = some (Value.string c) := rowS_cell KS.out 2 (by decide)
              have z0 := kr.out.cell (i := 0) rfl
              have f0 := kr.out.frozen 0
              have z1 := kr.out.cell (i := 1) rfl
              have f1 := kr.out.frozen 1
              have z2 := kr.out.cell (i := 2) rfl
              have f2 := kr.out.frozen 2
              go_wp2_with fail
              (((with_reducible refine (Wc.out _).mono ?_); rintro e w4 ⟨rfl, hb4⟩); replace HB := Lib.hid (HB.out.trans (hb4.mono HB.out.size)); replace kr := Lib.hid (kr.out.keep hb4); replace KS := Lib.hid (KS.out.keep hb4); clear hb4)
              clear c0 c1 c2 z0 f0 z1 f1 z2 f2
              have c0 : World.cell? _ ⟨bb, off, none⟩ = some (Value.string a) := rowS_cell KS.out 0 (by decide)
              have c1 : _ = some (Value.string b) := rowS_cell KS.out 1 (by decide)
              have c2 : _ = some (Value.string c) := rowS_cell KS.out 2 (by decide)
              have z0 := kr.out.cell (i := 0) rfl
              have f0 := kr.out.frozen 0
              have z1 := kr.out.cell (i := 1) rfl
              have f1 := kr.out.frozen 1
              have z2 := kr.out.cell (i := 2) rfl
              have f2 := kr.out.frozen 2
              go_wp2_with fail
              exact bodyPost_ret (v := .tuple #[.agg #[.int .i64 (0), .int .i64 (0), .int .i64 (0)], .int .i64 (6)]) (by simp [results, Tryd.results10, go_sem, z0, z1, z2]) rfl ⟨by rw [HE.out]; rfl, ((HB.out.setCell (by simp) _).setCell (by simp) _).setCell (by simp) _⟩
            | true =>
              have Wa := Lib.hid (fun W => hwa ▸ rword_any a W hsa)
              have Wb := Lib.hid (fun W => hwb ▸ rword_any b W hsb)
              have Wc := Lib.hid (fun W => hwc ▸ rword_any c W hsc)
              have FF : Hid (cornerS s.data.toList v t n = cornerT a.data.toList b.data.toList c.data.toList v t n) := Lib.hid (HQ.trans (congrArg (fun z => cornerF z v t n) (show formS [a.data.toList, b.data.toList, c.data.toList] = some (a.data.toList, b.data.toList, c.data.toList) from if_pos ⟨hwa, .inr hwb, hwc⟩)))
              clear HQ
              have Pa := Lib.hid (fun W => rplace_any a v W bv hsa)
              have ha : placeS a.data.toList v = ((placeS a.data.toList v).1, (placeS a.data.toList v).2) := rfl
              obtain ⟨p, hap⟩ : ∃ x, (placeS a.data.toList v).1 = x := ⟨_, rfl⟩
              obtain ⟨pe, hae⟩ : ∃ x, (placeS a.data.toList v).2 = x := ⟨_, rfl⟩
              rw [hap, hae] at ha
              unfold retW at Pa
              rw [hap, hae] at Pa
              clear hap hae
              have Pb := Lib.hid (fun W => rplace_any b t W bt hsb)
              have hb : placeS b.data.toList t = ((placeS b.data.toList t).1, (placeS b.data.toList t).2) := rfl
              obtain ⟨q, hbp⟩ : ∃ x, (placeS b.data.toList t).1 = x := ⟨_, rfl⟩
              obtain ⟨qe, hbe⟩ : ∃ x, (placeS b.data.toList t).2 = x := ⟨_, rfl⟩
              rw [hbp, hbe] at hb
              unfold retW at Pb
              rw [hbp, hbe] at Pb
              clear hbp hbe
              have Pc := Lib.hid (fun W => rplace_any c n W bn hsc)
              have hc : placeS c.data.toList n = ((placeS c.data.toList n).1, (placeS c.data.toList n).2) := rfl
              obtain ⟨r, hcp⟩ : ∃ x, (placeS c.data.toList n).1 = x := ⟨_, rfl⟩
              obtain ⟨re, hce⟩ : ∃ x, (placeS c.data.toList n).2 = x := ⟨_, rfl⟩
              rw [hcp, hce] at hc
              unfold retW at Pc
              rw [hcp, hce] at Pc
              clear hcp hce
              have c0 : World.cell? _ ⟨bb, off, none⟩ = some (Value.string a) := rowS_cell KS.out 0 (by decide)
              have c1 : _ = some (Value.string b) := rowS_cell KS.out 1 (by decide)
              have c2 : _ = some (Value.string c) := rowS_cell KS.out 2 (by decide)
              have z0 := kr.out.cell (i := 0) rfl
              have f0 := kr.out.frozen 0
              have z1 := kr.out.cell (i := 1) rfl
              have f1 := kr.out.frozen 1
              have z2 := kr.out.cell (i := 2) rfl
              have f2 := kr.out.frozen 2
              go_wp2_with fail
              (((with_reducible refine (Wa.out _).mono ?_); rintro e w2 ⟨rfl, hb2⟩); replace HB := Lib.hid (HB.out.trans (hb2.mono HB.out.size)); replace kr := Lib.hid (kr.out.keep hb2); replace KS := Lib.hid (KS.out.keep hb2); clear hb2)
              clear c0 c1 c2 z0 f0 z1 f1 z2 f2
              have c0 : World.cell? _ ⟨bb, off, none⟩ = some (Value.string a) := rowS_cell KS.out 0 (by decide)
              have c1 : _ = some (Value.string b) := rowS_cell KS.out 1 (by decide)
              have c2 : _ = some (Value.string c) := rowS_cell KS.out 2 (by decide)
              have z0 := kr.out.cell (i := 0) rfl
              have f0 := kr.out.frozen 0
              have z1 := kr.out.cell (i := 1) rfl
              have f1 := kr.out.frozen 1
              have z2 := kr.out.cell (i := 2) rfl
              have f2 := kr.out.frozen 2
              go_wp2_with fail
              (((with_reducible refine (Wb.out _).mono ?_); rintro e w3 ⟨rfl, hb3⟩); replace HB := Lib.hid (HB.out.trans (hb3.mono HB.out.size)); replace kr := Lib.hid (kr.out.keep hb3); replace KS := Lib.hid (KS.out.keep hb3); clear hb3)
              clear c0 c1 c2 z0 f0 z1 f1 z2 f2
              have c0 : World.cell? _ ⟨bb, off, none⟩ = some (Value.string a) := rowS_cell KS.out 0 (by decide)
              have c1 : _ = some (Value.string b) := rowS_cell KS.out 1 (by decide)
              have c2 : _ = some (Value.string c) := rowS_cell KS.out 2 (by decide)
              have z0 := kr.out.cell (i := 0) rfl
              have f0 := kr.out.frozen 0
              have z1 := kr.out.cell (i := 1) rfl
              have f1 := kr.out.frozen 1
              have z2 := kr.out.cell (i := 2) rfl
              have f2 := kr.out.frozen 2
              go_wp2_with fail
              (((with_reducible refine (Wc.out _).mono ?_); rintro e w4 ⟨rfl, hb4⟩); replace HB := Lib.hid (HB.out.trans (hb4.mono HB.out.size)); replace kr := Lib.hid (kr.out.keep hb4); replace KS := Lib.hid (KS.out.keep hb4); clear hb4)
              clear c0 c1 c2 z0 f0 z1 f1 z2 f2
              have c0 : World.cell? _ ⟨bb, off, none⟩ = some (Value.string a) := rowS_cell KS.out 0 (by decide)
              have c1 : _ = some (Value.string b) := rowS_cell KS.out 1 (by decide)
              have c2 : _ = some (Value.string c) := rowS_cell KS.out 2 (by decide)
              have z0 := kr.out.cell (i := 0) rfl
              have f0 := kr.out.frozen 0
              have z1 := kr.out.cell (i := 1) rfl
              have f1 := kr.out.frozen 1
              have z2 := kr.out.cell (i := 2) rfl
              have f2 := kr.out.frozen 2
              go_upto_region 5 with fail
              clear c0 c1 c2 z0 f0 z1 f1 z2 f2
              have hbq := rowS_lt KS.out (by decide)
              have hr0 := kr.out.lt
              have hbq := below_new1 w4 (.cells #[.int .i64 (-1), .int .i64 (-1), .int .i64 (-1)] 23)
              replace kr := Lib.hid (kr.out.keep hbq)
              replace KS := Lib.hid (KS.out.keep hbq)
              have zq : (w4.alloc (.cells #[.int .i64 (-1), .int .i64 (-1), .int .i64 (-1)] 23)).heap.size = w4.heap.size + 1 := by simp
              replace HB := Lib.hid (HB.out.trans (hbq.mono HB.out.size))
              have kq := Lib.hid (Lok.new w4 23 #[.int .i64 (-1), .int .i64 (-1), .int .i64 (-1)])
              clear hbq
              generalize w4.alloc (.cells #[.int .i64 (-1), .int .i64 (-1), .int .i64 (-1)] 23) = Vq at *
              have hrs : w.heap.size < w4.heap.size := hr0
              clear zq hr0
              generalize w4.heap.size = gq at *
              have c0 : World.cell? _ ⟨bb, off, none⟩ = some (Value.string a) := rowS_cell KS.out 0 (by decide)
              have c1 : _ = some (Value.string b) := rowS_cell KS.out 1 (by decide)
              have c2 : _ = some (Value.string c) := rowS_cell KS.out 2 (by decide)
              have q0 := kq.out.cell (i := 0) rfl
              have g0 := kq.out.frozen 0
              have q1 := kq.out.cell (i := 1) rfl
              have g1 := kq.out.frozen 1
              have q2 := kq.out.cell (i := 2) rfl
              have g2 := kq.out.frozen 2
              have z0 := kr.out.cell (i := 0) rfl
              have f0 := kr.out.frozen 0
              have z1 := kr.out.cell (i := 1) rfl
              have f1 := kr.out.frozen 1
              have z2 := kr.out.cell (i := 2) rfl
              have f2 := kr.out.frozen 2
              go_wp2_with fail
              (((with_reducible refine (Pa.out _).mono ?_); rintro e w5 ⟨rfl, hb5⟩); replace HB := Lib.hid (HB.out.trans (hb5.mono HB.out.size)); replace kr := Lib.hid (kr.out.keep hb5); replace KS := Lib.hid (KS.out.keep hb5); replace kq := Lib.hid (kq.out.keep hb5); clear hb5)
              clear c0 c1 c2 q0 g0 q1 g1 q2 g2 z0 f0 z1 f1 z2 f2
              by_cases h0 : pe = 0
              · subst h0
                have c0 : World.cell? _ ⟨bb, off, none⟩ = some (Value.string a) := rowS_cell KS.out 0 (by decide)
                have c1 : _ = some (Value.string b) := rowS_cell KS.out 1 (by decide)
                have c2 : _ = some (Value.string c) := rowS_cell KS.out 2 (by decide)
                have q0 := kq.out.cell (i := 0) rfl
                have g0 := kq.out.frozen 0
                have q1 := kq.out.cell (i := 1) rfl
                have g1 := kq.out.frozen 1
                have q2 := kq.out.cell (i := 2) rfl
                have g2 := kq.out.frozen 2
                have z0 := kr.out.cell (i := 0) rfl
                have f0 := kr.out.frozen 0
                have z1 := kr.out.cell (i := 1) rfl
                have f1 := kr.out.frozen 1
                have z2 := kr.out.cell (i := 2) rfl
                have f2 := kr.out.frozen 2
                go_upto_region 9 with fail
                clear c0 c1 c2 q0 g0 q1 g1 q2 g2 z0 f0 z1 f1 z2 f2
                replace kq := Lib.hid (kq.out.set (i := 0) (v := .int .i64 p))
                replace kr := Lib.hid (kr.out.far (i := 0) (v := .int .i64 p) (show w.heap.size ≠ gq by omega))
                replace KS := Lib.hid (KS.out.far (i := 0) (v := .int .i64 p) (show bb ≠ gq by omega))
                replace HB := Lib.hid (HB.out.setCell (show w.heap.size ≤ gq by omega) (.int .i64 p) : Below w.heap.size w (World.setCell w5 ⟨gq, 0, none⟩ (.int .i64 p)))
                generalize World.setCell w5 ⟨gq, 0, none⟩ (.int .i64 p) = V5 at *
                replace kq : Hid (Lok V5 gq 23 #[.int .i64 p, .int .i64 (-1), .int .i64 (-1)]) := kq
                have c0 : World.cell? _ ⟨bb, off, none⟩ = some (Value.string a) := rowS_cell KS.out 0 (by decide)
                have c1 : _ = some (Value.string b) := rowS_cell KS.out 1 (by decide)
                have c2 : _ = some (Value.string c) := rowS_cell KS.out 2 (by decide)
                have q0 := kq.out.cell (i := 0) rfl
                have g0 := kq.out.frozen 0
                have q1 := kq.out.cell (i := 1) rfl
                have g1 := kq.out.frozen 1
                have q2 := kq.out.cell (i := 2) rfl
                have g2 := kq.out.frozen 2
                have z0 := kr.out.cell (i := 0) rfl
                have f0 := kr.out.frozen 0
                have z1 := kr.out.cell (i := 1) rfl
                have f1 := kr.out.frozen 1
                have z2 := kr.out.cell (i := 2) rfl
                have f2 := kr.out.frozen 2
                go_wp2_with fail
                (((with_reducible refine (Pb.out _).mono ?_); rintro e w6 ⟨rfl, hb6⟩); replace HB := Lib.hid (HB.out.trans (hb6.mono HB.out.size)); replace kr := Lib.hid (kr.out.keep hb6); replace KS := Lib.hid (KS.out.keep hb6); replace kq := Lib.hid (kq.out.keep hb6); clear hb6)
                clear c0 c1 c2 q0 g0 q1 g1 q2 g2 z0 f0 z1 f1 z2 f2
                by_cases h0 : qe = 0
                · subst h0
                  have c0 : World.cell? _ ⟨bb, off, none⟩ = some (Value.string a) := rowS_cell KS.out 0 (by decide)
                  have c1 : _ = some (Value.string b) := rowS_cell KS.out 1 (by decide)
                  have c2 : _ = some (Value.string c) := rowS_cell KS.out 2 (by decide)
                  have q0 := kq.out.cell (i := 0) rfl
                  have g0 := kq.out.frozen 0
                  have q1 := kq.out.cell (i := 1) rfl
                  have g1 := kq.out.frozen 1
                  have q2 := kq.out.cell (i := 2) rfl
                  have g2 := kq.out.frozen 2
                  have z0 := kr.out.cell (i := 0) rfl
                  have f0 := kr.out.frozen 0
                  have z1 := kr.out.cell (i := 1) rfl
                  have f1 := kr.out.frozen 1
                  have z2 := kr.out.cell (i := 2) rfl
                  have f2 := kr.out.frozen 2
                  go_upto_region 14 with fail
                  clear c0 c1 c2 q0 g0 q1 g1 q2 g2 z0 f0 z1 f1 z2 f2
                  replace kq := Lib.hid (kq.out.set (i := 1) (v := .int .i64 q))
                  replace kr := Lib.hid (kr.out.far (i := 1) (v := .int .i64 q) (show w.heap.size ≠ gq by omega))
                  replace KS := Lib.hid (KS.out.far (i := 1) (v := .int .i64 q) (show bb ≠ gq by omega))
                  replace HB := Lib.hid (HB.out.setCell (show w.heap.size ≤ gq by omega) (.int .i64 q) : Below w.heap.size w (World.setCell w6 ⟨gq, 1, none⟩ (.int .i64 q)))
                  generalize World.setCell w6 ⟨gq, 1, none⟩ (.int .i64 q) = V6 at *
                  replace kq : Hid (Lok V6 gq 23 #[.int .i64 p, .int .i64 q, .int .i64 (-1)]) := kq
                  have c0 : World.cell? _ ⟨bb, off, none⟩ = some (Value.string a) := rowS_cell KS.out 0 (by decide)
                  have c1 : _ = some (Value.string b) := rowS_cell KS.out 1 (by decide)
                  have c2 : _ = some (Value.string c) := rowS_cell KS.out 2 (by decide)
                  have q0 := kq.out.cell (i := 0) rfl
                  have g0 := kq.out.frozen 0
                  have q1 := kq.out.cell (i := 1) rfl
                  have g1 := kq.out.frozen 1
                  have q2 := kq.out.cell (i := 2) rfl
                  have g2 := kq.out.frozen 2
                  have z0 := kr.out.cell (i := 0) rfl
                  have f0 := kr.out.frozen 0
                  have z1 := kr.out.cell (i := 1) rfl
                  have f1 := kr.out.frozen 1
                  have z2 := kr.out.cell (i := 2) rfl
                  have f2 := kr.out.frozen 2
                  go_wp2_with fail
                  (((with_reducible refine (Pc.out _).mono ?_); rintro e w7 ⟨rfl, hb7⟩); replace HB := Lib.hid (HB.out.trans (hb7.mono HB.out.size)); replace kr := Lib.hid (kr.out.keep hb7); replace KS := Lib.hid (KS.out.keep hb7); replace kq := Lib.hid (kq.out.keep hb7); clear hb7)
                  clear c0 c1 c2 q0 g0 q1 g1 q2 g2 z0 f0 z1 f1 z2 f2
                  by_cases h0 : re = 0
                  · subst h0
                    have c0 : World.cell? _ ⟨bb, off, none⟩ = some (Value.string a) := rowS_cell KS.out 0 (by decide)
                    have c1 : _ = some (Value.string b) := rowS_cell KS.out 1 (by decide)
                    have c2 : _ = some (Value.string c) := rowS_cell KS.out 2 (by decide)
                    have q0 := kq.out.cell (i := 0) rfl
                    have g0 := kq.out.frozen 0
                    have q1 := kq.out.cell (i := 1) rfl
                    have g1 := kq.out.frozen 1
                    have q2 := kq.out.cell (i := 2) rfl
                    have g2 := kq.out.frozen 2
                    have z0 := kr.out.cell (i := 0) rfl
                    have f0 := kr.out.frozen 0
                    have z1 := kr.out.cell (i := 1) rfl
                    have f1 := kr.out.frozen 1
                    have z2 := kr.out.cell (i := 2) rfl
                    have f2 := kr.out.frozen 2
                    go_upto_region 19 with fail
                    clear c0 c1 c2 q0 g0 q1 g1 q2 g2 z0 f0 z1 f1 z2 f2
                    replace kq := Lib.hid (kq.out.set (i := 2) (v := .int .i64 r))
                    replace kr := Lib.hid (kr.out.far (i := 2) (v := .int .i64 r) (show w.heap.size ≠ gq by omega))
                    replace KS := Lib.hid (KS.out.far (i := 2) (v := .int .i64 r) (show bb ≠ gq by omega))
                    replace HB := Lib.hid (HB.out.setCell (show w.heap.size ≤ gq by omega) (.int .i64 r) : Below w.heap.size w (World.setCell w7 ⟨gq, 2, none⟩ (.int .i64 r)))
                    generalize World.setCell w7 ⟨gq, 2, none⟩ (.int .i64 r) = V7 at *
                    replace kq : Hid (Lok V7 gq 23 #[.int .i64 p, .int .i64 q, .int .i64 r]) := kq
                    have HE : Hid (cornerS s.data.toList v t n = (p, q, r, 0)) := Lib.hid (FF.out.trans (ct_ok (po_s ha hwa) (po_s hb hwb) (po_s hc hwc)))
                    have c0 : World.cell? _ ⟨bb, off, none⟩ = some (Value.string a) := rowS_cell KS.out 0 (by decide)
                    have c1 : _ = some (Value.string b) := rowS_cell KS.out 1 (by decide)
                    have c2 : _ = some (Value.string c) := rowS_cell KS.out 2 (by decide)
                    have q0 := kq.out.cell (i := 0) rfl
                    have g0 := kq.out.frozen 0
                    have q1 := kq.out.cell (i := 1) rfl
                    have g1 := kq.out.frozen 1
                    have q2 := kq.out.cell (i := 2) rfl
                    have g2 := kq.out.frozen 2
                    have z0 := kr.out.cell (i := 0) rfl
                    have f0 := kr.out.frozen 0
                    have z1 := kr.out.cell (i := 1) rfl
                    have f1 := kr.out.frozen 1
                    have z2 := kr.out.cell (i := 2) rfl
                    have f2 := kr.out.frozen 2
                    go_wp2_with fail
                    exact bodyPost_ret (v := .tuple #[.agg #[.int .i64 (p), .int .i64 (q), .int .i64 (r)], .int .i64 (0)]) (by simp [results, Tryd.results10, go_sem, z0, z1, z2]) rfl ⟨by rw [HE.out]; rfl, ((HB.out.setCell (by simp) _).setCell (by simp) _).setCell (by simp) _⟩
                  · have x1 : (re != 0) = true := by simp [h0]
                    have HE : Hid (cornerS s.data.toList v t n = (0, 0, 0, re)) := Lib.hid (FF.out.trans (ct_c (po_s ha hwa) (po_s hb hwb) (po_s hc hwc) h0))
                    have c0 : World.cell? _ ⟨bb, off, none⟩ = some (Value.string a) := rowS_cell KS.out 0 (by decide)
                    have c1 : _ = some (Value.string b) := rowS_cell KS.out 1 (by decide)
                    have c2 : _ = some (Value.string c) := rowS_cell KS.out 2 (by decide)
                    have q0 := kq.out.cell (i := 0) rfl
                    have g0 := kq.out.frozen 0
                    have q1 := kq.out.cell (i := 1) rfl
                    have g1 := kq.out.frozen 1
                    have q2 := kq.out.cell (i := 2) rfl
                    have g2 := kq.out.frozen 2
                    have z0 := kr.out.cell (i := 0) rfl
                    have f0 := kr.out.frozen 0
                    have z1 := kr.out.cell (i := 1) rfl
                    have f1 := kr.out.frozen 1
                    have z2 := kr.out.cell (i := 2) rfl
                    have f2 := kr.out.frozen 2
                    go_wp2_with fail
                    exact bodyPost_ret (v := .tuple #[.agg #[.int .i64 (0), .int .i64 (0), .int .i64 (0)], .int .i64 (re)]) (by simp [results, Tryd.results10, go_sem, z0, z1, z2]) rfl ⟨by rw [HE.out]; rfl, ((HB.out.setCell (by simp) _).setCell (by simp) _).setCell (by simp) _⟩
                · have x1 : (qe != 0) = true := by simp [h0]
                  have HE : Hid (cornerS s.data.toList v t n = (0, 0, 0, qe)) := Lib.hid (FF.out.trans (ct_b (po_s ha hwa) (po_s hb hwb) h0))
                  have c0 : World.cell? _ ⟨bb, off, none⟩ = some (Value.string a) := rowS_cell KS.out 0 (by decide)
                  have c1 : _ = some (Value.string b) := rowS_cell KS.out 1 (by decide)
                  have c2 : _ = some (Value.string c) := rowS_cell KS.out 2 (by decide)
                  have q0 := kq.out.cell (i := 0) rfl
                  have g0 := kq.out.frozen 0
                  have q1 := kq.out.cell (i := 1) rfl
                  have g1 := kq.out.frozen 1
                  have q2 := kq.out.cell (i := 2) rfl
                  have g2 := kq.out.frozen 2
                  have z0 := kr.out.cell (i := 0) rfl
                  have f0 := kr.out.frozen 0
                  have z1 := kr.out.cell (i := 1) rfl
                  have f1 := kr.out.frozen 1
                  have z2 := kr.out.cell (i := 2) rfl
                  have f2 := kr.out.frozen 2
                  go_wp2_with fail
                  exact bodyPost_ret (v := .tuple #[.agg #[.int .i64 (0), .int .i64 (0), .int .i64 (0)], .int .i64 (qe)]) (by simp [results, Tryd.results10, go_sem, z0, z1, z2]) rfl ⟨by rw [HE.out]; rfl, ((HB.out.setCell (by simp) _).setCell (by simp) _).setCell (by simp) _⟩
              · have x1 : (pe != 0) = true := by simp [h0]
                have HE : Hid (cornerS s.data.toList v t n = (0, 0, 0, pe)) := Lib.hid (FF.out.trans (ct_a (po_s ha hwa) h0))
                have c0 : World.cell? _ ⟨bb, off, none⟩ = some (Value.string a) := rowS_cell KS.out 0 (by decide)
                have c1 : _ = some (Value.string b) := rowS_cell KS.out 1 (by decide)
                have c2 : _ = some (Value.string c) := rowS_cell KS.out 2 (by decide)
                have q0 := kq.out.cell (i := 0) rfl
                have g0 := kq.out.frozen 0
                have q1 := kq.out.cell (i := 1) rfl
                have g1 := kq.out.frozen 1
                have q2 := kq.out.cell (i := 2) rfl
                have g2 := kq.out.frozen 2
                have z0 := kr.out.cell (i := 0) rfl
                have f0 := kr.out.frozen 0
                have z1 := kr.out.cell (i := 1) rfl
                have f1 := kr.out.frozen 1
                have z2 := kr.out.cell (i := 2) rfl
                have f2 := kr.out.frozen 2
                go_wp2_with fail
                exact bodyPost_ret (v := .tuple #[.agg #[.int .i64 (0), .int .i64 (0), .int .i64 (0)], .int .i64 (pe)]) (by simp [results, Tryd.results10, go_sem, z0, z1, z2]) rfl ⟨by rw [HE.out]; rfl, ((HB.out.setCell (by simp) _).setCell (by simp) _).setCell (by simp) _⟩
end Go.Proofs.YtlpfijdjkaijeaaDoor
