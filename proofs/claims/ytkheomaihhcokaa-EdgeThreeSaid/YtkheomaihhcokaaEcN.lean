/-
  The program's package edge: Edges.
-/
import Derived.Test.YtkheomaihhcokaaEcM
namespace Go.Proofs.Ytkheomaihhcokaa
open Go.RowKit Go.Sort

theorem fits_len {α : Type} [DecidableEq α] : ∀ {l m : List α}, l.Nodup → (∀ x ∈ l, x ∈ m) → l.length ≤ m.length
  | [], _, _, _ => Nat.zero_le _
  | a :: l, m, hn, h => by
    obtain ⟨h1, h2⟩ := List.nodup_cons.1 hn
    have ha := h a (List.mem_cons_self ..)
    have z := fits_len (m := m.erase a) h2 fun x hx => (List.mem_erase_of_ne (fun e => h1 (by rw [← e]; exact hx))).2 (h x (List.mem_cons_of_mem _ hx))
    rw [List.length_erase_of_mem ha] at z
    have := List.length_pos_of_mem ha
    rw [List.length_cons]
    omega
theorem own_sortE (base : Nat) (v : Value) (D : List SdE) (w : World) (h : w.ownsRow base 39 3 v D.length (D.flatMap encE)) (hl : D.length ≤ 1000000) :
    Calls Try.prog 31 #[v, .func (.func 32) #[] #[]] w fun e w' => e = .returned (.tuple #[]) ∧ ∃ E : List SdE, E.Perm D ∧ SortedIn (ltOf cfE) 0 E.toArray.size E.toArray ∧ w'.ownsRow base 39 3 v E.length (E.flatMap encE) ∧ w.grownBy w' v.ownBlock := by
  have h' := h
  obtain ⟨h1, ⟨rfl, h0⟩ | ⟨g, cap, cur, rfl, hg, hh, hn, hm, hs, ht⟩⟩ := h
  · have e : D = [] := List.eq_nil_of_length_eq_zero h0
    subst e
    refine (AnyF.slices_SortFunc_none (P := Try.prog) (ρ := Try.laysSortF_ren) Try.laysSortF none 0 (.func (.func 32) #[] #[]) w).mono ?_
    rintro e w' ⟨rfl, rfl⟩
    exact ⟨rfl, [], .refl _, fun i j _ _ hj => absurd hj (by simp), h', World.grownBy.refl _ _⟩
  · have z := AnyQ.slices_SortFunc (P := Try.prog) (ρ := Try.laysSortF_ren) Try.laysSortF 3 (fun w => by kernel_rfl) (fun w => by kernel_rfl) encE encE_len encE_one cfE swoE 32 #[] g 0 cap D.toArray w eg_sorts (laysE g 0 D.toArray.size w) (holds_flat h') (Array.getElem?_eq_some_iff.1 hh).1 (by simp; omega)
    rw [show D.toArray.size = D.length from by simp] at z
    refine z.mono ?_
    rintro e w' ⟨rfl, d', n, os, ⟨p1, p2, p3⟩, hso, rfl⟩
    have hl2 : d'.toList.length = D.length := by rw [Array.length_toList, p1]; simp
    have ex : ∀ x : Array SdE, x.size = D.length → x.extract 0 D.length = x := fun x hx => by rw [← hx]; simp
    rw [ex d' (by simpa using hl2), ex D.toArray (by simp)] at p3
    refine ⟨rfl, d'.toList, by simpa using p3, ?_, ?_, ?_⟩
    · rw [Array.toArray_toList, show d'.size = D.length from by simpa using hl2]
      exact hso
    · have q := own_sorted (n := n) (os := os) h' hl2
      rw [Array.toArray_toList] at q
      rw [hl2] at q ⊢
      exact q
    · exact grown_putA _
theorem map_facts {w : World} {base b n1 n4 : Nat} {N : Nat → Prop} {FC : Nat → Nat → Int} (h : MapG w base b N (ownS FC n4)) (hF : ∀ i, i < n4 → ∀ j, j = 0 ∨ j = 3 ∨ j = 6 → 0 ≤ FC i j ∧ FC i j < (n1 : Int)) (h20 : n1 ≤ 20) :
    ∃ es clock, w.heap[b]? = some (.map es clock) ∧ MapKept.Stamped es clock ∧ (∀ e ∈ es.toList, ∃ a c : Int, e.key = keyV a c ∧ ownS FC n4 a c ≠ [] ∧ OwnI w base e.val (ownS FC n4 a c)) ∧ (∀ a c, ownS FC n4 a c ≠ [] → ∃ e ∈ es.toList, e.key = keyV a c) ∧
      (∀ x ∈ es.toList, ∀ y ∈ es.toList, x.key ≠ y.key → ∀ g, x.val.ownBlock = some g → y.val.ownBlock ≠ some g) ∧ es.toList.length ≤ 400 ∧ ((es.toList.map toSd).map fun x => (x.1, x.2.1)).Nodup := by
  obtain ⟨es, clock, h1, h2, h3, h4, h5, h6, h7⟩ := h
  have hk : ((es.toList.map toSd).map fun x => (x.1, x.2.1)).Nodup := by
    rw [List.map_map]
    have z := h2.2.2
    rw [List.nodup_iff_pairwise_ne, List.pairwise_map] at z ⊢
    refine z.imp_of_mem fun {x y} hx hy ne e => ne ?_
    obtain ⟨a, c, q1, _⟩ := h4 x hx
    obtain ⟨a', c', q2, _⟩ := h4 y hy
    simp only [Function.comp, toSd, q1, q2, kA_key, Prod.mk.injEq] at e
    rw [q1, q2, e.1, e.2]
  refine ⟨es, clock, h1, h2, fun e he => ?_, h5, h6, ?_, hk⟩
  · obtain ⟨a, c, q1, q2, q3, q4⟩ := h4 e he
    exact ⟨a, c, q1, q3, q4⟩
  · have z := fits_len (m := (eaL FC n4 n1 n1).map fun e => (e.1, e.2.1)) hk fun x hx => by
      rw [List.map_map, List.mem_map] at hx
      obtain ⟨e, he, rfl⟩ := hx
      obtain ⟨a, c, q1, q2, q3, q4⟩ := h4 e he
      simp only [Function.comp, toSd, q1, kA_key]
      rw [List.mem_map]
      have z := q3
      unfold ownS at z
      by_cases q : a < c
      · rw [if_pos q] at z
        obtain ⟨y, hy⟩ := List.exists_mem_of_ne_nil _ z
        obtain ⟨k, hk, e, hh⟩ := th_mem.1 hy
        obtain ⟨⟨b1, b2⟩, b3, b4⟩ := sdL_ok (m := (n1 : Int)) (p := (a, c)) (sdL_mem.2 ⟨q, hh⟩) (hF k hk 0 (.inl rfl)) (hF k hk 3 (.inr (.inl rfl))) (hF k hk 6 (.inr (.inr rfl)))
        simp only at b1 b2 b3 b4
        obtain ⟨A, rfl⟩ : ∃ A : Nat, a = (A : Int) := ⟨a.toNat, by omega⟩
        obtain ⟨B, rfl⟩ : ∃ B : Nat, c = (B : Int) := ⟨c.toNat, by omega⟩
        exact ⟨_, ea_iff.2 ⟨A, B, by omega, by omega, rfl, fun q => z (List.eq_nil_of_length_eq_zero q)⟩, rfl⟩
      · rw [if_neg q] at z; exact absurd rfl z
    simp only [List.length_map] at z
    have l := eaL_len FC n4 n1 n1
    have : n1 * n1 ≤ 20 * 20 := Nat.mul_le_mul h20 h20
    omega
end Go.Proofs.Ytkheomaihhcokaa
