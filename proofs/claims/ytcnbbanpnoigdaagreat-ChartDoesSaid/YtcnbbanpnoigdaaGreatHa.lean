import Derived.Test.YtcnbbanpnoigdaaGreatBase
namespace Go.Proofs.YtcnbbanpnoigdaaGreat

def isIn (l : List Int) (x : Int) : Bool := decide (x ∈ l)
theorem isIn_iff {l : List Int} {x : Int} : isIn l x = true ↔ x ∈ l := decide_eq_true_iff
theorem isIn_not {l : List Int} {x : Int} : isIn l x = false ↔ ¬ x ∈ l := decide_eq_false_iff_not
structure ChF where
 n : Nat
 A : Int → Int
 S : Int → Int
 K : Int → Bool
 ov : Int → Int → Int → Bool
 nx : Int → Int → Bool
abbrev ChT := Int × Int × List Int
theorem sub_len {α : Type} [DecidableEq α] : ∀ {l m : List α}, l.Nodup → (∀ x ∈ l, x ∈ m) → l.length ≤ m.length
 | [], _, _, _ => Nat.zero_le _
 | a :: l, m, hn, h => by
  obtain ⟨h1, h2⟩ := List.nodup_cons.1 hn;have ha := h a (List.mem_cons_self ..);have z := sub_len (m := m.erase a) h2 fun x hx => (List.mem_erase_of_ne (fun e => h1 (by rw [← e]; exact hx))).2 (h x (List.mem_cons_of_mem _ hx));rw [List.length_erase_of_mem ha] at z;have := List.length_pos_of_mem ha;rw [List.length_cons]
  omega
theorem nodup_once : ∀ {l : List Int} {x : Int}, l.Nodup → x ∈ l → l.count x = 1
 | [], _, _, h => absurd h List.not_mem_nil
 | a :: l, x, hn, h => by
  obtain ⟨h1, h2⟩ := List.nodup_cons.1 hn
  by_cases e : a = x
  ·subst e
   rw [List.count_cons_self, List.count_eq_zero.2 h1]
  ·rw [List.count_cons_of_ne e]
   rcases List.mem_cons.1 h with z | z
   ·exact absurd z.symm e
   ·exact nodup_once h2 z
namespace ChF
variable (F : ChF)
def fb (i ax sd : Int) : Bool := F.K i && (F.A i == ax && F.S i == sd)
theorem fb_iff {i ax sd : Int} : F.fb i ax sd = true ↔ F.K i = true ∧ F.A i = ax ∧ F.S i = sd := by
 unfold fb; rw [Bool.and_eq_true, Bool.and_eq_true, beq_iff_eq, beq_iff_eq]
theorem fb_self {i : Int} (h : F.K i = true) : F.fb i (F.A i) (F.S i) = true := F.fb_iff.2 ⟨h, rfl, rfl⟩
def fits (ax sd : Int) (l : List Int) (i : Int) : Bool := F.fb i ax sd && (!isIn l i && (l.all (fun k => F.fb k ax sd && !F.ov ax i k) && (l.isEmpty || l.any (fun k => F.nx i k))))
theorem fits_iff {ax sd : Int} {l : List Int} {i : Int} : F.fits ax sd l i = true ↔ F.fb i ax sd = true ∧ ¬ i ∈ l ∧ (∀ k ∈ l, F.fb k ax sd = true ∧ F.ov ax i k = false) ∧ (l = [] ∨ ∃ k ∈ l, F.nx i k = true) := by
 unfold fits;rw [Bool.and_eq_true, Bool.and_eq_true, Bool.and_eq_true, Bool.or_eq_true, Bool.not_eq_true', isIn_not, List.all_eq_true, List.any_eq_true, List.isEmpty_iff]
 simp only [Bool.and_eq_true, Bool.not_eq_true']
theorem fits_nil {ax sd i : Int} (h : F.fb i ax sd = true) : F.fits ax sd [] i = true := F.fits_iff.2 ⟨h, List.not_mem_nil, fun _ hk => absurd hk List.not_mem_nil, .inl rfl⟩
def least (ax sd : Int) (P c : List Int) : Option Nat := (List.range F.n).find? fun i => !isIn P i && (!isIn c i && F.fits ax sd c i)
theorem least_some {ax sd : Int} {P c : List Int} {i : Nat} (h : F.least ax sd P c = some i) : i < F.n ∧ ¬ (i : Int) ∈ P ∧ ¬ (i : Int) ∈ c ∧ F.fits ax sd c i = true := by
 have h1 := List.mem_of_find?_eq_some h;have h2 := List.find?_some h;rw [Bool.and_eq_true, Bool.and_eq_true, Bool.not_eq_true', Bool.not_eq_true', isIn_not, isIn_not] at h2
 exact ⟨List.mem_range.1 h1, h2.1, h2.2.1, h2.2.2⟩
def grC (ax sd : Int) (P : List Int) : Nat → List Int → List Int
 | 0, c => c
 | f + 1, c => match F.least ax sd P c with
  | none => c
  | some i => grC ax sd P f (c ++ [(i : Int)])
def chain (ax sd : Int) (l : List Int) : Prop := ∀ j (h : j < l.length), F.fits ax sd (l.take j) l[j] = true
theorem chain_one {ax sd i : Int} (h : F.fb i ax sd = true) : F.chain ax sd [i] := fun j hj => by
 have : j = 0 := by simpa using hj
 subst this
 exact F.fits_nil h
theorem chain_snoc {ax sd : Int} {c : List Int} {i : Int} (h : F.chain ax sd c) (k : F.fits ax sd c i = true) : F.chain ax sd (c ++ [i]) := fun j hj => by
 rcases Nat.lt_or_ge j c.length with q | q
 ·rw [List.getElem_append_left q, List.take_append_of_le_length (Nat.le_of_lt q)]
  exact h j q
 ·have e : j = c.length := by rw [List.length_append] at hj; simp at hj; omega
  subst e;rw [List.getElem_append_right (Nat.le_refl _), List.take_append_of_le_length (Nat.le_refl _), List.take_length]
  simpa using k
structure Good (ax sd : Int) (P c : List Int) : Prop where
 chain : F.chain ax sd c
 nodup : c.Nodup
 apart : ∀ x ∈ c, ¬ x ∈ P
 place : ∀ x ∈ c, 0 ≤ x ∧ x < (F.n : Int)
 face : ∀ x ∈ c, F.fb x ax sd = true
theorem Good.snoc {ax sd : Int} {P c : List Int} {i : Nat} (h : F.Good ax sd P c) (q : F.least ax sd P c = some i) : F.Good ax sd P (c ++ [(i : Int)]) := by
 obtain ⟨h1, h2, h3, h4⟩ := F.least_some q
 refine ⟨F.chain_snoc h.chain h4, ?_, fun x hx => ?_, fun x hx => ?_, fun x hx => ?_⟩
 ·rw [List.nodup_append]
  refine ⟨h.nodup, List.nodup_cons.2 ⟨List.not_mem_nil, List.nodup_nil⟩, fun a ha b hb e => ?_⟩
  rw [List.mem_singleton] at hb;subst hb;subst e
  exact h3 ha
 ·rcases List.mem_append.1 hx with z | z
  ·exact h.apart x z
  ·rw [List.mem_singleton.1 z]; exact h2
 ·rcases List.mem_append.1 hx with z | z
  ·exact h.place x z
  ·rw [List.mem_singleton.1 z]; omega
 ·rcases List.mem_append.1 hx with z | z
  ·exact h.face x z
  ·rw [List.mem_singleton.1 z]; exact (F.fits_iff.1 h4).1
theorem grC_head {ax sd : Int} {P : List Int} : ∀ (f : Nat) (c : List Int), ∃ d, F.grC ax sd P f c = c ++ d
 | 0, c => ⟨[], (List.append_nil c).symm⟩
 | f + 1, c => by
  unfold grC
  split
  ·exact ⟨[], (List.append_nil c).symm⟩
  ·rename_i i q
   obtain ⟨d, e⟩ := grC_head f (c ++ [(i : Int)])
   exact ⟨(i : Int) :: d, by rw [e, List.append_assoc]; rfl⟩
theorem good_len {ax sd : Int} {P c : List Int} (h : F.Good ax sd P c) : c.length ≤ F.n := by
 have h1 : (c.map Int.toNat).Nodup := by
  rw [List.nodup_iff_pairwise_ne, List.pairwise_map]
  exact h.nodup.imp_of_mem fun {a b} ha hb ne e => ne (by have := h.place a ha; have := h.place b hb; omega)
 have h2 : (c.map Int.toNat) ⊆ List.range F.n := fun x hx => by
  obtain ⟨y, hy, rfl⟩ := List.mem_map.1 hx;have := h.place y hy
  exact List.mem_range.2 (by omega)
 have h3 := sub_len h1 h2;rw [List.length_map, List.length_range] at h3
 exact h3
def all : List ChT → List Int
 | [] => []
 | c :: r => c.2.2 ++ all r
theorem all_snoc (L : List ChT) (c : ChT) : all (L ++ [c]) = all L ++ c.2.2 := by
 induction L with
 | nil => show c.2.2 ++ [] = [] ++ c.2.2; rw [List.append_nil, List.nil_append]
 | cons a r ih => show a.2.2 ++ all (r ++ [c]) = (a.2.2 ++ all r) ++ c.2.2; rw [ih, List.append_assoc]
def grow : Nat → List ChT
 | 0 => []
 | k + 1 => if F.K k && !isIn (all (grow k)) k then grow k ++ [(F.A k, F.S k, F.grC (F.A k) (F.S k) (all (grow k)) F.n [(k : Int)])] else grow k
theorem good_one {k : Nat} (hk : k < F.n) {P : List Int} (h : F.K k = true) (q : ¬ (k : Int) ∈ P) : F.Good (F.A k) (F.S k) P [(k : Int)] := by
 refine ⟨F.chain_one (F.fb_self h), List.nodup_cons.2 ⟨List.not_mem_nil, List.nodup_nil⟩, fun x hx => ?_, fun x hx => ?_, fun x hx => ?_⟩ <;> rw [List.mem_singleton.1 hx]
 ·exact q
 ·omega
 ·exact F.fb_self h
theorem grow_takes {i : Nat} (h : F.K i = true) : ∀ k, i < k → (i : Int) ∈ all (F.grow k)
 | 0, q => absurd q (by omega)
 | k + 1, q => by
  rcases Nat.lt_or_ge i k with z | z
  ·have := grow_takes h k z
   unfold grow
   split
   ·rw [all_snoc]; exact List.mem_append_left _ this
   ·exact this
  ·obtain rfl : i = k := by omega
   unfold grow
   split
   ·rw [all_snoc]
    obtain ⟨d, e⟩ := F.grC_head (ax := F.A i) (sd := F.S i) (P := all (F.grow i)) F.n [(i : Int)];rw [show (F.A i, F.S i, F.grC (F.A i) (F.S i) (all (F.grow i)) F.n [(i : Int)]).2.2 = F.grC (F.A i) (F.S i) (all (F.grow i)) F.n [(i : Int)] from rfl, e]
    exact List.mem_append_right _ (List.mem_cons_self ..)
   ·rename_i hc
    rw [h, Bool.true_and, Bool.not_eq_true', isIn_not] at hc
    exact Classical.not_not.1 hc
structure Grown (k : Nat) (L : List ChT) : Prop where
 good : ∀ c ∈ L, ∃ P, F.Good c.1 c.2.1 P c.2.2 ∧ F.least c.1 c.2.1 P c.2.2 = none ∧ ∀ x ∈ P, x ∈ all L
 head : ∀ c ∈ L, ∃ i d, i < k ∧ c.2.2 = (i : Int) :: d ∧ ∀ x ∈ c.2.2, (i : Int) ≤ x
 nodup : (all L).Nodup
 rise : L.Pairwise fun a b => ∀ i d j e, a.2.2 = (i : Int) :: d → b.2.2 = (j : Int) :: e → i < j
 full : L.Pairwise fun a b => ∀ x ∈ b.2.2, F.fits a.1 a.2.1 a.2.2 x = false
def right (L : List ChT) : Prop := (∀ c ∈ L, ¬ c.2.2 = [] ∧ F.chain c.1 c.2.1 c.2.2) ∧ ∀ i : Nat, i < F.n → F.K i = true → (all L).count (i : Int) = 1
structure Turned (G : ChF) : Prop where
 n : G.n = F.n
 A : ∀ i, F.K i = true → G.A i = F.A i
 S : ∀ i, F.K i = true → G.S i = -F.S i
 K : ∀ i, G.K i = F.K i
 ov : ∀ ax i k, F.K i = true → F.K k = true → G.ov ax i k = F.ov ax i k
 nx : ∀ i k, F.K i = true → F.K k = true → G.nx i k = F.nx i k
def turnC (c : ChT) : ChT := (c.1, -c.2.1, c.2.2)
def chainB (ax sd : Int) (l : List Int) : Bool := (List.range l.length).all fun j => F.fits ax sd (l.take j) (l.getD j 0)
theorem chainB_iff {ax sd : Int} {l : List Int} : F.chainB ax sd l = true ↔ F.chain ax sd l := by
 unfold chainB chain;rw [List.all_eq_true]
 constructor
 ·intro h j hj
  have z := h j (List.mem_range.2 hj)
  rwa [List.getD_eq_getElem?_getD, List.getElem?_eq_getElem hj] at z
 ·intro h j hj
  have hj := List.mem_range.1 hj;rw [List.getD_eq_getElem?_getD, List.getElem?_eq_getElem hj]
  exact h j hj
def goodB (c : ChT) : Bool := !c.2.2.isEmpty && F.chainB c.1 c.2.1 c.2.2
def onceB (L : List ChT) (i : Nat) : Bool := !F.K i || ((all L).count (i : Int) == 1)
def rightB (L : List ChT) : Bool := L.all F.goodB && (List.range F.n).all (F.onceB L)
theorem goodB_iff {c : ChT} : F.goodB c = true ↔ ¬ c.2.2 = [] ∧ F.chain c.1 c.2.1 c.2.2 := by
 unfold goodB;rw [Bool.and_eq_true, F.chainB_iff, Bool.not_eq_true', List.isEmpty_eq_false_iff]
theorem onceB_iff {L : List ChT} {i : Nat} : F.onceB L i = true ↔ (F.K i = true → (all L).count (i : Int) = 1) := by
 unfold onceB
 cases h : F.K i with
 | false => exact ⟨fun _ q => absurd q Bool.false_ne_true, fun _ => rfl⟩
 | true => rw [Bool.not_true, Bool.false_or, beq_iff_eq]; exact ⟨fun q _ => q, fun q => q rfl⟩
theorem rightB_iff {L : List ChT} : F.rightB L = true ↔ F.right L := by
 unfold rightB right;rw [Bool.and_eq_true, List.all_eq_true, List.all_eq_true]
 exact ⟨fun h => ⟨fun c hc => F.goodB_iff.1 (h.1 c hc), fun i hi => F.onceB_iff.1 (h.2 i (List.mem_range.2 hi))⟩, fun h => ⟨fun c hc => F.goodB_iff.2 (h.1 c hc), fun i hi => F.onceB_iff.2 (h.2 i (List.mem_range.1 hi))⟩⟩
end ChF
end Go.Proofs.YtcnbbanpnoigdaaGreat
namespace Go.Proofs.YtcnbbanpnoigdaaGreat

theorem range_miss {p : Nat → Bool} {i : Nat} (h : (List.range i).find? p = none) (q : p i = false) : (List.range (i + 1)).find? p = none := by
 rw [List.range_succ, List.find?_append, h, Option.none_or, List.find?_singleton, q]
 rfl
theorem range_hit {p : Nat → Bool} {i n : Nat} (h : (List.range i).find? p = none) (q : p i = true) (hi : i < n) : (List.range n).find? p = some i := by
 obtain ⟨d, rfl⟩ : ∃ d, n = (i + 1) + d := ⟨n - (i + 1), by omega⟩;rw [List.range_add, List.range_succ, List.find?_append, List.find?_append, h, Option.none_or, List.find?_singleton, q]
 rfl
namespace ChF
variable (F : ChF)
def Way (ax sd : Int) (P : List Int) (k : Nat) (c : List Int) : Prop := F.Good ax sd P c ∧ ∃ f, F.n < f + c.length ∧ F.grC ax sd P f c = F.grC ax sd P F.n [(k : Int)]
theorem way_one {k : Nat} (hk : k < F.n) {P : List Int} (h : F.K k = true) (q : ¬ (k : Int) ∈ P) : F.Way (F.A k) (F.S k) P k [(k : Int)] := ⟨F.good_one hk h q, F.n, by simp, rfl⟩
theorem Way.fuel {ax sd : Int} {P : List Int} {k : Nat} {c : List Int} (h : F.Way ax sd P k c) : ∃ f, F.n < (f + 1) + c.length ∧ F.grC ax sd P (f + 1) c = F.grC ax sd P F.n [(k : Int)] := by
 obtain ⟨g, f, h1, h2⟩ := h;have := F.good_len g
 cases f with
 | zero => omega
 | succ f => exact ⟨f, h1, h2⟩
theorem Way.more {ax sd : Int} {P : List Int} {k : Nat} {c : List Int} (h : F.Way ax sd P k c) {i : Nat} (q : F.least ax sd P c = some i) : F.Way ax sd P k (c ++ [(i : Int)]) := by
 obtain ⟨f, h1, h2⟩ := h.fuel F;rw [grC, q] at h2
 exact ⟨h.1.snoc F q, f, by rw [List.length_append]; simp; omega, h2⟩
theorem Way.done {ax sd : Int} {P : List Int} {k : Nat} {c : List Int} (h : F.Way ax sd P k c) (q : F.least ax sd P c = none) : c = F.grC ax sd P F.n [(k : Int)] := by
 obtain ⟨f, h1, h2⟩ := h.fuel F;rw [grC, q] at h2
 exact h2
theorem Way.len {ax sd : Int} {P : List Int} {k : Nat} {c : List Int} (h : F.Way ax sd P k c) : c.length ≤ F.n := F.good_len h.1
theorem grow_skip {k : Nat} (h : F.K k = false ∨ (k : Int) ∈ all (F.grow k)) : F.grow (k + 1) = F.grow k := by
 show (if F.K k && !isIn (all (F.grow k)) k then _ else _) = _
 rw [if_neg]
 rcases h with h | h
 ·rw [h]; exact Bool.false_ne_true
 ·rw [isIn_iff.2 h, Bool.not_true, Bool.and_false]; exact Bool.false_ne_true
theorem grow_take {k : Nat} (h : F.K k = true) (q : ¬ (k : Int) ∈ all (F.grow k)) {c : List Int} (e : c = F.grC (F.A k) (F.S k) (all (F.grow k)) F.n [(k : Int)]) : F.grow (k + 1) = F.grow k ++ [(F.A k, F.S k, c)] := by
 show (if F.K k && !isIn (all (F.grow k)) k then _ else _) = _
 rw [if_pos (by rw [h, isIn_not.2 q]; rfl), ← e]
def okB (ax sd i k : Int) : Bool := F.fb k ax sd && !F.ov ax i k
theorem fits_head {ax sd : Int} {l : List Int} {i : Int} (h : F.fb i ax sd = false) : F.fits ax sd l i = false := by unfold fits; rw [h]; rfl
theorem fits_in {ax sd : Int} {l : List Int} {i : Int} (h : i ∈ l) : F.fits ax sd l i = false := by unfold fits; rw [isIn_iff.2 h, Bool.not_true, Bool.false_and, Bool.and_false]
theorem fits_bad {ax sd : Int} {l : List Int} {i k : Int} (hk : k ∈ l) (h : F.okB ax sd i k = false) : F.fits ax sd l i = false := by
 cases q : F.fits ax sd l i with
 | false => rfl
 | true =>
  obtain ⟨a, b⟩ := (F.fits_iff.1 q).2.2.1 k hk;unfold okB at h;rw [a, b] at h
  cases h
theorem fits_all {ax sd : Int} {l : List Int} {i : Int} (h : F.fb i ax sd = true) (q : ¬ i ∈ l) (hk : ∀ k ∈ l, F.okB ax sd i k = true) : F.fits ax sd l i = (l.isEmpty || l.any (fun k => F.nx i k)) := by
 have z : (l.all fun k => F.fb k ax sd && !F.ov ax i k) = true := List.all_eq_true.2 hk;unfold fits;rw [h, isIn_not.2 q, z]
 rfl
theorem all_take {L : List ChT} {k : Nat} {c : ChT} (h : L[k]? = some c) : all (L.take (k + 1)) = all (L.take k) ++ c.2.2 := by
 rw [List.take_add_one, h]
 exact all_snoc _ _
theorem right_no {L : List ChT} {c : ChT} (hc : c ∈ L) (h : F.goodB c = false) : F.rightB L = false := by
 cases q : F.rightB L with
 | false => rfl
 | true => rw [F.goodB_iff.2 ((F.rightB_iff.1 q).1 c hc)] at h; cases h
theorem good_no {c : ChT} {k : Nat} (hk : k < c.2.2.length) (h : F.fits c.1 c.2.1 (c.2.2.take k) (c.2.2.getD k 0) = false) : F.goodB c = false := by
 cases q : F.goodB c with
 | false => rfl
 | true =>
  have z := (F.goodB_iff.1 q).2 k hk;rw [List.getD_eq_getElem?_getD, List.getElem?_eq_getElem hk, Option.getD_some, z] at h
  cases h
theorem good_yes {c : ChT} (h0 : ¬ c.2.2.length = 0) (h : ∀ k, k < c.2.2.length → F.fits c.1 c.2.1 (c.2.2.take k) (c.2.2.getD k 0) = true) : F.goodB c = true :=
 F.goodB_iff.2 ⟨fun e => h0 (by rw [e]; rfl), fun k hk => by have z := h k hk; rwa [List.getD_eq_getElem?_getD, List.getElem?_eq_getElem hk, Option.getD_some] at z⟩
theorem once_no {L : List ChT} {i : Nat} (hi : i < F.n) (h : F.onceB L i = false) : F.rightB L = false := by
 cases q : F.rightB L with
 | false => rfl
 | true => rw [F.onceB_iff.2 ((F.rightB_iff.1 q).2 i hi)] at h; cases h
theorem right_yes {L : List ChT} (h : ∀ c ∈ L, F.goodB c = true) (q : ∀ i, i < F.n → F.onceB L i = true) : F.rightB L = true :=
 F.rightB_iff.2 ⟨fun c hc => F.goodB_iff.1 (h c hc), fun i hi => F.onceB_iff.1 (q i hi)⟩
end ChF
end Go.Proofs.YtcnbbanpnoigdaaGreat
