/- Plain facts: unlike numbers make unlike words. -/
import Derived.Test.YtihagkngjnblaaaPack
namespace Go.Proofs.Ytihagkngjnblaaa

theorem mul_add_inj (P Q t x y : Int) (x0 : 0 ≤ x) (x1 : x < t) (y0 : 0 ≤ y) (y1 : y < t) (h : P * t + x = Q * t + y) : P = Q ∧ x = y := by
  have t0 : t ≠ 0 := by omega
  have e1 : (P * t + x) / t = P := by rw [Int.add_comm, Int.add_mul_ediv_right _ _ t0, Int.ediv_eq_zero_of_lt x0 x1]; omega
  have e2 : (Q * t + y) / t = Q := by rw [Int.add_comm, Int.add_mul_ediv_right _ _ t0, Int.ediv_eq_zero_of_lt y0 y1]; omega
  have e3 : P = Q := by rw [← e1, h, e2]
  subst e3
  exact ⟨rfl, by omega⟩

theorem pack_inj {ls ms ws : List Int} (k : Nat) (ok : okTo ls ws k) (om : okTo ms ws k) : packTo ls ws k = packTo ms ws k ↔ ∀ i, i < k → ls.getD i 0 = ms.getD i 0 := by
  induction k with
  | zero => simp [packTo]
  | succ k ih =>
    have o1 := ok k (by omega)
    have o2 := om k (by omega)
    have ih' := ih (fun i hi => ok i (by omega)) (fun i hi => om i (by omega))
    constructor
    · intro h i hi
      obtain ⟨e1, e2⟩ := mul_add_inj _ _ _ _ _ o1.1 o1.2 o2.1 o2.2 h
      by_cases e : i = k
      · subst e; exact e2
      · exact ih'.1 e1 i (by omega)
    · intro h
      have e1 := ih'.2 (fun i hi => h i (by omega))
      have e2 := h k (by omega)
      simp only [packTo]
      rw [e1, e2]

theorem packE_bd (ls ws : List Int) : 0 ≤ packE ls ws ∧ packE ls ws ≤ 2 := by
  unfold packE; split <;> omega

theorem packE_zero {ls ws : List Int} (h : packE ls ws = 0) : okTo ls ws ws.length := by
  refine Classical.byContradiction fun g => ?_
  rw [packE_no g] at h; omega

theorem pack_same {ls ms ws : List Int} (h : packE ls ws + packE ms ws = 0) : packW ls ws = packW ms ws ↔ ∀ i, i < ws.length → ls.getD i 0 = ms.getD i 0 := by
  have b1 := packE_bd ls ws
  have b2 := packE_bd ms ws
  have o1 := packE_zero (ls := ls) (ws := ws) (by omega)
  have o2 := packE_zero (ls := ms) (ws := ws) (by omega)
  rw [packW_ok o1, packW_ok o2]
  exact pack_inj _ o1 o2

theorem all_lt_two {p : Nat → Prop} : (∀ i, i < 2 → p i) ↔ p 0 ∧ p 1 :=
  ⟨fun h => ⟨h 0 (by omega), h 1 (by omega)⟩, fun h i hi => by
    rcases i with _ | _ | i
    · exact h.1
    · exact h.2
    · omega⟩
theorem all_lt_three {p : Nat → Prop} : (∀ i, i < 3 → p i) ↔ p 0 ∧ p 1 ∧ p 2 :=
  ⟨fun h => ⟨h 0 (by omega), h 1 (by omega), h 2 (by omega)⟩, fun h i hi => by
    rcases i with _ | _ | _ | i
    · exact h.1
    · exact h.2.1
    · exact h.2.2
    · omega⟩
theorem all_lt_four {p : Nat → Prop} : (∀ i, i < 4 → p i) ↔ p 0 ∧ p 1 ∧ p 2 ∧ p 3 :=
  ⟨fun h => ⟨h 0 (by omega), h 1 (by omega), h 2 (by omega), h 3 (by omega)⟩, fun h i hi => by
    rcases i with _ | _ | _ | _ | i
    · exact h.1
    · exact h.2.1
    · exact h.2.2.1
    · exact h.2.2.2
    · omega⟩

theorem same3 {a0 a1 a2 b0 b1 b2 x y z : Int} (h : packE [a0, a1, a2, 0] [x, y, z] + packE [b0, b1, b2, 0] [x, y, z] = 0) :
    (packW [a0, a1, a2, 0] [x, y, z] == packW [b0, b1, b2, 0] [x, y, z]) = (a0 == b0 && a1 == b1 && a2 == b2) := by
  have e : packW [a0, a1, a2, 0] [x, y, z] = packW [b0, b1, b2, 0] [x, y, z] ↔ a0 = b0 ∧ a1 = b1 ∧ a2 = b2 := by
    rw [pack_same h]; exact all_lt_three
  rw [Bool.eq_iff_iff]; simp only [beq_iff_eq, Bool.and_eq_true]; rw [e]; exact ⟨fun ⟨p, q, r⟩ => ⟨⟨p, q⟩, r⟩, fun ⟨⟨p, q⟩, r⟩ => ⟨p, q, r⟩⟩
theorem same4 {a0 a1 a2 a3 b0 b1 b2 b3 x y z u : Int} (h : packE [a0, a1, a2, a3] [x, y, z, u] + packE [b0, b1, b2, b3] [x, y, z, u] = 0) :
    (packW [a0, a1, a2, a3] [x, y, z, u] == packW [b0, b1, b2, b3] [x, y, z, u]) = (a0 == b0 && (a1 == b1 && (a2 == b2 && a3 == b3))) := by
  have e : packW [a0, a1, a2, a3] [x, y, z, u] = packW [b0, b1, b2, b3] [x, y, z, u] ↔ a0 = b0 ∧ a1 = b1 ∧ a2 = b2 ∧ a3 = b3 := by
    rw [pack_same h]; exact all_lt_four
  rw [Bool.eq_iff_iff]; simp only [beq_iff_eq, Bool.and_eq_true]; exact e
theorem same2 {a0 a1 b0 b1 x y : Int} (h : packE [a0, a1, 0, 0] [x, y] + packE [b0, b1, 0, 0] [x, y] = 0) :
    (packW [a0, a1, 0, 0] [x, y] == packW [b0, b1, 0, 0] [x, y]) = (a0 == b0 && a1 == b1) := by
  have e : packW [a0, a1, 0, 0] [x, y] = packW [b0, b1, 0, 0] [x, y] ↔ a0 = b0 ∧ a1 = b1 := by
    rw [pack_same h]; exact all_lt_two
  rw [Bool.eq_iff_iff]; simp only [beq_iff_eq, Bool.and_eq_true]; exact e

end Go.Proofs.Ytihagkngjnblaaa
