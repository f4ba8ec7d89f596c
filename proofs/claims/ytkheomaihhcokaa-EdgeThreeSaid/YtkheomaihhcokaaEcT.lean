/-
  What is reached from a triangle; parts told one by one. No program.
-/
import Derived.Test.YtkheomaihhcokaaEcN
namespace Go.Proofs.Ytkheomaihhcokaa

/-- Some are reached from f (R), those are told f (Q), all others as before (P). -/
structure SpI (F : Nat → Nat → Int) (n f : Nat) (P R Q : List Int) : Prop where
  len : Q.length = n
  nodup : R.Nodup
  mem : ∀ x ∈ R, ∃ j : Nat, x = (j : Int) ∧ j < n ∧ cnP F n f j
  first : (f : Int) ∈ R
  val : ∀ j, j < n → Q.getD j 0 = if (j : Int) ∈ R then (f : Int) else P.getD j 0
theorem SpI.short {F : Nat → Nat → Int} {n f : Nat} {P R Q : List Int} (h : SpI F n f P R Q) : R.length ≤ n := by
  have z := fits_len (m := upL n) h.nodup fun x hx => by
    obtain ⟨j, rfl, hj, _⟩ := h.mem x hx
    have e := upL_get n j hj
    have hl : j < (upL n).length := by rw [upL_len]; exact hj
    rw [List.getD_eq_getElem?_getD, List.getElem?_eq_getElem hl] at e
    have e2 : (upL n)[j] = (j : Int) := e
    rw [← e2]
    exact List.getElem_mem _
  rw [upL_len] at z
  exact z
theorem sp_start {F : Nat → Nat → Int} {n f : Nat} {P : List Int} (hP : P.length = n) (hf : f < n) : SpI F n f P [(f : Int)] (P.set f f) where
  len := by rw [List.length_set]; exact hP
  nodup := by simp
  mem := fun x hx => ⟨f, List.mem_singleton.1 hx, hf, cn_self F n f⟩
  first := List.mem_singleton.2 rfl
  val := fun j hj => by
    rw [List.getD_eq_getElem?_getD, List.getD_eq_getElem?_getD, List.getElem?_set]
    by_cases e : f = j
    · subst e
      rw [if_pos rfl, if_pos (by omega), if_pos (List.mem_singleton.2 rfl)]; rfl
    · rw [if_neg e, if_neg (fun q => e (by have := List.mem_singleton.1 q; omega))]
theorem SpI.there {F : Nat → Nat → Int} {n f : Nat} {P R Q : List Int} (h : SpI F n f P R Q) {k : Nat} (hk : k < n) (hq : Q.getD k 0 = -1) : ¬ (k : Int) ∈ R := fun q => by
  rw [h.val k hk, if_pos q] at hq
  omega
theorem SpI.more {F : Nat → Nat → Int} {n f i k : Nat} {P R Q : List Int} (h : SpI F n f P R Q) (hf : f < n) (hi : i < n) (hk : k < n) (hR : (i : Int) ∈ R) (hx : nxB F i k = true) (hq : Q.getD k 0 = -1) : SpI F n f P (R ++ [(k : Int)]) (Q.set k f) where
  len := by rw [List.length_set]; exact h.len
  nodup := List.nodup_append.2 ⟨h.nodup, by simp, fun a ha b hb e => h.there hk hq (by rw [← List.mem_singleton.1 hb, ← e]; exact ha)⟩
  mem := fun x hx' => by
    rcases List.mem_append.1 hx' with hx' | hx'
    · exact h.mem x hx'
    · obtain ⟨j, e, hj, hc⟩ := h.mem _ hR
      have : i = j := by omega
      subst this
      exact ⟨k, List.mem_singleton.1 hx', hk, cn_step hf hi hk hc hx⟩
  first := List.mem_append.2 (.inl h.first)
  val := fun j hj => by
    have hl := h.len
    rw [List.getD_eq_getElem?_getD, List.getElem?_set]
    by_cases e : k = j
    · subst e
      rw [if_pos rfl, if_pos (by omega), if_pos (List.mem_append.2 (.inr (List.mem_singleton.2 rfl)))]; rfl
    · rw [if_neg e, ← List.getD_eq_getElem?_getD, h.val j hj]
      by_cases q : (j : Int) ∈ R
      · rw [if_pos q, if_pos (List.mem_append.2 (.inl q))]
      · rw [if_neg q, if_neg (fun z => by
          rcases List.mem_append.1 z with z | z
          · exact q z
          · have := List.mem_singleton.1 z; omega)]
theorem set_told {Q : List Int} {k f j : Nat} (h : Q.getD j 0 ≠ -1) : (Q.set k (f : Int)).getD j 0 ≠ -1 := by
  rw [List.getD_eq_getElem?_getD, List.getElem?_set]
  by_cases e : k = j
  · subst e
    rw [if_pos rfl]
    split
    · simp
    · simp
  · rw [if_neg e, ← List.getD_eq_getElem?_getD]; exact h
theorem set_self_told {Q : List Int} {k f : Nat} (h : k < Q.length) : (Q.set k (f : Int)).getD k 0 ≠ -1 := by
  rw [List.getD_eq_getElem?_getD, List.getElem?_set, if_pos rfl, if_pos h]
  simp
/-- What is next to the first m that are reached is told. -/
def SpD (F : Nat → Nat → Int) (n : Nat) (R Q : List Int) (m : Nat) : Prop := ∀ a, a < m → ∀ i : Nat, R.getD a 0 = (i : Int) → ∀ j, j < n → nxB F i j = true → Q.getD j 0 ≠ -1
theorem SpD.more {F : Nat → Nat → Int} {n k f m : Nat} {R Q : List Int} (h : SpD F n R Q m) (hm : m ≤ R.length) : SpD F n (R ++ [(k : Int)]) (Q.set k f) m := fun a ha i hi j hj hx => by
  have e : (R ++ [(k : Int)]).getD a 0 = R.getD a 0 := by
    rw [List.getD_eq_getElem?_getD, List.getD_eq_getElem?_getD, List.getElem?_append_left (by omega)]
  rw [e] at hi
  exact set_told (h a ha i hi j hj hx)
/-- The places that are told before f: the least ones of their parts. -/
def PtI (F : Nat → Nat → Int) (n f : Nat) (P : List Int) : Prop := P.length = n ∧ ∀ j, j < n → P.getD j 0 = if (ptR F n n).getD j 0 < (f : Int) then (ptR F n n).getD j 0 else -1
theorem pt_start (F : Nat → Nat → Int) (n : Nat) : PtI F n 0 (List.replicate n (-1)) := by
  refine ⟨by simp, fun j hj => ?_⟩
  obtain ⟨m, h, _⟩ := pt_least (F := F) hj
  rw [h, if_neg (by omega), List.getD_eq_getElem?_getD, List.getElem?_replicate, if_pos hj]; rfl
theorem pt_end {F : Nat → Nat → Int} {n : Nat} {P : List Int} (h : PtI F n n P) : P = ptR F n n := by
  refine list_of_getD (by rw [h.1, ptR_len]) fun j hj => ?_
  rw [h.1] at hj
  obtain ⟨m, e, hm, _⟩ := pt_least (F := F) hj
  rw [h.2 j hj, if_pos (by rw [e]; omega)]
theorem pt_told {F : Nat → Nat → Int} {n f : Nat} {P : List Int} (h : PtI F n f P) (hf : f < n) (ne : P.getD f 0 ≠ -1) : PtI F n (f + 1) P := by
  refine ⟨h.1, fun j hj => ?_⟩
  rw [h.2 j hj]
  obtain ⟨m, e, hm, _⟩ := pt_least (F := F) hj
  by_cases q : (m : Int) < (f : Int)
  · rw [e, if_pos q, if_pos (by omega)]
  · rw [e, if_neg q]
    by_cases z : m = f
    · exfalso
      subst z
      have o := (pt_own hj e).2
      apply ne
      rw [h.2 m hf, o, if_neg (by omega)]
    · rw [if_neg (by omega)]
theorem pt_spread {F : Nat → Nat → Int} {n f : Nat} {P R Q : List Int} (h : PtI F n f P) (hf : f < n) (hq : P.getD f 0 = -1) (s : SpI F n f P R Q) (hd : SpD F n R Q R.length) : PtI F n (f + 1) Q := by
  have lf : (ptR F n n).getD f 0 = (f : Int) := by
    obtain ⟨m, e, hm, _⟩ := pt_least (F := F) hf
    have z := h.2 f hf
    rw [hq, e] at z
    rw [e]
    by_cases q : (m : Int) < (f : Int)
    · rw [if_pos q] at z; omega
    · omega
  have all : ∀ r j, j < n → wtP F n f r j = true → (j : Int) ∈ R := by
    intro r
    induction r with
    | zero =>
      intro j hj hw
      have : f = j := beq_iff_eq.1 (show (f == j) = true from hw)
      rw [← this]; exact s.first
    | succ r ih =>
      intro j hj hw
      rcases wt_cases hw with hw | ⟨k, hk, h1, h2⟩
      · exact ih j hj hw
      · have hkR := ih k hk h1
        obtain ⟨a, ha, e⟩ := List.mem_iff_getElem.1 hkR
        have hg : R.getD a 0 = (k : Int) := by rw [List.getD_eq_getElem?_getD, List.getElem?_eq_getElem ha]; exact e
        have told := hd a ha k hg j hj h2
        apply Classical.byContradiction
        intro hn
        rw [s.val j hj, if_neg hn, h.2 j hj] at told
        have hc : cnP F n f j := wt_all hf (r + 1) j hj hw
        have same := pt_same hf hj hc
        rw [← same, lf, if_neg (by omega)] at told
        exact told rfl
  refine ⟨s.len, fun j hj => ?_⟩
  rw [s.val j hj]
  by_cases q : (j : Int) ∈ R
  · obtain ⟨j', e, _, hc⟩ := s.mem _ q
    have : j = j' := by omega
    subst this
    rw [if_pos q, ← pt_same hf hj hc, lf, if_pos (by omega)]
  · rw [if_neg q, h.2 j hj]
    obtain ⟨m, e, hm, _⟩ := pt_least (F := F) hj
    have ne : ¬ m = f := fun z => by
      subst z
      have hc : cnP F n m j := pt_tells hf hj (by rw [lf, e])
      exact q (all n j hj hc)
    rw [e]
    by_cases r : (m : Int) < (f : Int)
    · rw [if_pos r, if_pos (by omega)]
    · rw [if_neg r, if_neg (by omega)]
end Go.Proofs.Ytkheomaihhcokaa
