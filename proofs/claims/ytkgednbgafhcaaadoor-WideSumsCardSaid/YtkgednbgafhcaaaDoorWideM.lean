/-
  The law WideSums: its walks.
-/
import Derived.Test.YtkgednbgafhcaaaDoorWideL
namespace Go.Proofs.YtkgednbgafhcaaaDoor
open Go.RowKit
attribute [local go_sem ↓] Go.wp_at_zero Go.wp_at_succ

theorem set2_other {w : World} {G o : Nat} {u v x : Value} {b : Nat} (h : w.cell? ⟨b, o, none⟩ = some x) (_ne : ¬ b = G) : ((w.setCell ⟨G, 0, none⟩ u).setCell ⟨G, 1, none⟩ v).cell? ⟨b, o, none⟩ = some x := by
  simp [go_sem, h]
theorem set2_fst {w : World} {G : Nat} {u v x : Value} (h : w.cell? ⟨G, 0, none⟩ = some x) : ((w.setCell ⟨G, 0, none⟩ u).setCell ⟨G, 1, none⟩ v).cell? ⟨G, 0, none⟩ = some u := by
  simp [go_sem, h]
theorem set2_snd {w : World} {G : Nat} {u v x : Value} (h : w.cell? ⟨G, 1, none⟩ = some x) : ((w.setCell ⟨G, 0, none⟩ u).setCell ⟨G, 1, none⟩ v).cell? ⟨G, 1, none⟩ = some v := by
  simp [go_sem, h]
theorem keepf {W w1 : World} {b o : Nat} {v : Value} (hb : Below W.heap.size W w1) (h : W.frozen? ⟨b, o, none⟩ = false) (c : W.cell? ⟨b, 0, none⟩ = some v) : w1.frozen? ⟨b, o, none⟩ = false := (hb.frozen (p := ⟨b, o, none⟩) (show b < W.heap.size from cell_lt c)).trans h

/-- Sums of three. -/
theorem aE_turn (ah al bh bl : Int) : aE bh bl ah al = aE ah al bh bl ∧ aH bh bl ah al = aH ah al bh bl ∧ aL bh bl ah al = aL ah al bh bl := by
  have e1 : sH bh bl ah al = sH ah al bh bl := by unfold sH; rw [Int.add_comm bl al, Int.add_comm bh ah]
  have e2 : sL bl al = sL al bl := by unfold sL; rw [Int.add_comm bl al]
  have e3 : aE bh bl ah al = aE ah al bh bl := by
    unfold aE; rw [e1, e2]
    by_cases h : Rt ah al ∧ Rt bh bl
    · rw [if_pos h, if_pos ⟨h.2, h.1⟩]
    · rw [if_neg h, if_neg (fun k => h ⟨k.2, k.1⟩)]
  unfold aH aL
  rw [e3, e1, e2]
  exact ⟨rfl, rfl, rfl⟩
theorem aE_assoc {ah al bh bl ch cl : Int} (h1 : aE ah al bh bl = 0) (h2 : aE (aH ah al bh bl) (aL ah al bh bl) ch cl = 0) (h3 : aE bh bl ch cl = 0) (h4 : aE ah al (aH bh bl ch cl) (aL bh bl ch cl) = 0) :
    aH (aH ah al bh bl) (aL ah al bh bl) ch cl = aH ah al (aH bh bl ch cl) (aL bh bl ch cl) ∧ aL (aH ah al bh bl) (aL ah al bh bl) ch cl = aL ah al (aH bh bl ch cl) (aL bh bl ch cl) := by
  obtain ⟨_, _, _, e1, e2⟩ := aE_zero h1
  obtain ⟨_, _, _, e3, e4⟩ := aE_zero h2
  obtain ⟨_, _, _, e5, e6⟩ := aE_zero h3
  obtain ⟨_, _, _, e7, e8⟩ := aE_zero h4
  rw [e3, e4, e7, e8, e1, e2, e5, e6]
  unfold sH sL
  omega

/-- What Neg answers, as three numbers. -/
def nE (hi lo : Int) : Int := if Rt hi lo then (if Rt (ngH hi lo) (ngL lo) then 0 else 4) else 1
def nH (hi lo : Int) : Int := if nE hi lo = 0 then ngH hi lo else 0
def nL (hi lo : Int) : Int := if nE hi lo = 0 then ngL lo else 0
theorem neg_any (hi lo : Int) (w : World) :
    Calls Tryd.prog 13 #[.agg #[.int .i64 hi, .int .i64 lo]] w fun e w' => e = .returned (.tuple #[.agg #[.int .i64 (nH hi lo), .int .i64 (nL hi lo)], .int .i64 (nE hi lo)]) ∧ Below w.heap.size w w' := by
  by_cases k : Rt hi lo
  · by_cases k3 : Rt (ngH hi lo) (ngL lo)
    · have e : nE hi lo = 0 := by unfold nE; rw [if_pos k, if_pos k3]
      unfold nH nL; rw [e, if_pos rfl, if_pos rfl]; exact neg_ok hi lo w k k3
    · have e : nE hi lo = 4 := by unfold nE; rw [if_pos k, if_neg k3]
      unfold nH nL; rw [e, if_neg (by decide), if_neg (by decide)]; exact neg_wide hi lo w k k3
  · have e : nE hi lo = 1 := by unfold nE; rw [if_neg k]
    unfold nH nL; rw [e, if_neg (by decide), if_neg (by decide)]; exact neg_arg hi lo w (decide_eq_false k)
theorem nE_zero {hi lo : Int} (h : nE hi lo = 0) : Rt hi lo ∧ Rt (ngH hi lo) (ngL lo) ∧ nH hi lo = ngH hi lo ∧ nL hi lo = ngL lo := by
  have e1 : nH hi lo = ngH hi lo := by unfold nH; rw [if_pos h]
  have e2 : nL hi lo = ngL lo := by unfold nL; rw [if_pos h]
  unfold nE at h
  split at h
  · rename_i h1
    split at h
    · rename_i h2; exact ⟨h1, h2, e1, e2⟩
    · omega
  · omega
theorem nE_three (hi lo : Int) : nE hi lo = 0 ∨ nE hi lo = 1 ∨ nE hi lo = 4 := by
  unfold nE; split
  · split
    · exact .inl rfl
    · exact .inr (.inr rfl)
  · exact .inr (.inl rfl)
/-- A number and its other side make 0; the other side's other side is the number. -/
theorem neg_facts {hi lo : Int} (h : nE hi lo = 0) : aE hi lo (nH hi lo) (nL hi lo) = 0 ∧ aH hi lo (nH hi lo) (nL hi lo) = 0 ∧ aL hi lo (nH hi lo) (nL hi lo) = 0 ∧ nE (nH hi lo) (nL hi lo) = 0 ∧ nH (nH hi lo) (nL hi lo) = hi ∧ nL (nH hi lo) (nL hi lo) = lo := by
  obtain ⟨k1, k2, e1, e2⟩ := nE_zero h
  rw [e1, e2]
  obtain ⟨a1, a2, a3, a4⟩ := k1
  have s1 : sH hi lo (ngH hi lo) (ngL lo) = 0 := by unfold sH ngH ngL; omega
  have s2 : sL lo (ngL lo) = 0 := by unfold sL ngL; omega
  have t1 : ngH (ngH hi lo) (ngL lo) = hi := by unfold ngH ngL; omega
  have t2 : ngL (ngL lo) = lo := by unfold ngL; omega
  have f1 : aE hi lo (ngH hi lo) (ngL lo) = 0 := by unfold aE; rw [if_pos ⟨⟨a1, a2, a3, a4⟩, k2⟩, s1, s2, if_pos (by decide)]
  have f2 : nE (ngH hi lo) (ngL lo) = 0 := by unfold nE; rw [if_pos k2, t1, t2, if_pos ⟨a1, a2, a3, a4⟩]
  refine ⟨f1, ?_, ?_, f2, ?_, ?_⟩
  · unfold aH; rw [if_pos f1, s1]
  · unfold aL; rw [if_pos f1, s2]
  · unfold nH; rw [if_pos f2, t1]
  · unfold nL; rw [if_pos f2, t2]
end Go.Proofs.YtkgednbgafhcaaaDoor
