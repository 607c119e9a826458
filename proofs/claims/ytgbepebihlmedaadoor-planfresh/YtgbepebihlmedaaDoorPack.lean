/- Several numbers in one word: plain facts. -/
import Derived.Test.YtgbepebihlmedaaDoorMath
namespace Go.Proofs.YtgbepebihlmedaaDoor

/-- what the first k numbers make, the highest first. -/
def packTo (ls ws : List Int) : Nat → Int
  | 0 => 0
  | k + 1 => packTo ls ws k * pw (ws.getD k 0) + ls.getD k 0
/-- how many bits the first k have. -/
def sumTo (ws : List Int) : Nat → Int
  | 0 => 0
  | k + 1 => sumTo ws k + ws.getD k 0
def okTo (ls ws : List Int) (k : Nat) : Prop := ∀ i, i < k → 0 ≤ ls.getD i 0 ∧ ls.getD i 0 < pw (ws.getD i 0)
def okB (ls ws : List Int) (k : Nat) : Bool := (List.range k).all fun i => decide (0 ≤ ls.getD i 0 ∧ ls.getD i 0 < pw (ws.getD i 0))
theorem okB_iff (ls ws : List Int) (k : Nat) : okB ls ws k = true ↔ okTo ls ws k := by simp [okB, okTo]
/-- the widths are those of one word. -/
structure Wide (ws : List Int) : Prop where
  part : ∀ i, i < ws.length → 1 ≤ ws.getD i 0 ∧ ws.getD i 0 ≤ 62
  all : sumTo ws ws.length = 64

def packW (ls ws : List Int) : Int := if okB ls ws ws.length = true then packTo ls ws ws.length else 0
def packE (ls ws : List Int) : Int := if okB ls ws ws.length = true then 0 else 2
theorem packW_ok {ls ws : List Int} (h : okTo ls ws ws.length) : packW ls ws = packTo ls ws ws.length := if_pos ((okB_iff _ _ _).2 h)
theorem packE_ok {ls ws : List Int} (h : okTo ls ws ws.length) : packE ls ws = 0 := if_pos ((okB_iff _ _ _).2 h)
theorem packW_no {ls ws : List Int} (h : ¬ okTo ls ws ws.length) : packW ls ws = 0 := if_neg (fun g => h ((okB_iff _ _ _).1 g))
theorem packE_no {ls ws : List Int} (h : ¬ okTo ls ws ws.length) : packE ls ws = 2 := if_neg (fun g => h ((okB_iff _ _ _).1 g))

theorem sumTo_nonneg {ws : List Int} (h : Wide ws) (k : Nat) (hk : k ≤ ws.length) : 0 ≤ sumTo ws k := by
  induction k with
  | zero => simp [sumTo]
  | succ k ih => have := h.part k (by omega); have := ih (by omega); simp only [sumTo]; omega

theorem sumTo_mono {ws : List Int} (h : Wide ws) (j k : Nat) (hk : j + k ≤ ws.length) : sumTo ws j ≤ sumTo ws (j + k) := by
  induction k with
  | zero => simp
  | succ k ih => have := h.part (j + k) (by omega); have := ih (by omega); rw [← Nat.add_assoc]; simp only [sumTo]; omega

theorem sumTo_le {ws : List Int} (h : Wide ws) (k : Nat) (hk : k ≤ ws.length) : sumTo ws k ≤ 64 := by
  have := sumTo_mono h k (ws.length - k) (by omega)
  rw [show k + (ws.length - k) = ws.length by omega, h.all] at this
  exact this

theorem okTo_succ {ls ws : List Int} {k : Nat} (h : okTo ls ws k) (g : 0 ≤ ls.getD k 0 ∧ ls.getD k 0 < pw (ws.getD k 0)) : okTo ls ws (k + 1) := by
  intro i hi
  by_cases e : i = k
  · subst e; exact g
  · exact h i (by omega)

theorem okTo_not {ls ws : List Int} {k n : Nat} (hk : k < n) (g : ¬ (0 ≤ ls.getD k 0 ∧ ls.getD k 0 < pw (ws.getD k 0))) : ¬ okTo ls ws n := fun h => g (h k hk)

theorem packTo_bd {ls ws : List Int} (h : Wide ws) (k : Nat) (hk : k ≤ ws.length) (ok : okTo ls ws k) : 0 ≤ packTo ls ws k ∧ packTo ls ws k < pw (sumTo ws k) := by
  induction k with
  | zero => simp [packTo, sumTo, pw_zero]
  | succ k ih =>
    obtain ⟨i0, i1⟩ := ih (by omega) (fun i hi => ok i (by omega))
    obtain ⟨o0, o1⟩ := ok k (by omega)
    have hp := h.part k (by omega)
    have s0 := sumTo_nonneg h k (by omega)
    simp only [packTo, sumTo]
    rw [pw_add _ _ s0 (by omega)]
    have p := pw_pos (ws.getD k 0)
    have m0 : 0 ≤ packTo ls ws k * pw (ws.getD k 0) := Int.mul_nonneg i0 (by omega)
    have m1 : (packTo ls ws k + 1) * pw (ws.getD k 0) ≤ pw (sumTo ws k) * pw (ws.getD k 0) := Int.mul_le_mul_of_nonneg_right (by omega) (by omega)
    rw [Int.add_mul] at m1
    omega

/-- where a number is put under those ahead. -/
theorem put_pack (P s t x : Int) (hp : partB s t = true) (hx : x < pw t) : putW (P * pw (s + t)) s t x = (P * pw t + x) * pw s := by
  obtain ⟨q0, q1, q2⟩ := partB_yes hp
  have p0 := pw_pos s
  have p1 := pw_pos t
  simp only [putW, hp, hx, if_true]
  have e : P * pw (s + t) = (P * pw t) * pw s := by rw [pw_add s t q0 (by omega), Int.mul_comm (pw s), Int.mul_assoc]
  rw [e, Int.mul_ediv_cancel _ (by omega), Int.mul_emod_left, Int.add_mul]
  omega

theorem word_bd {ls ws : List Int} (h : Wide ws) (k : Nat) (hk : k ≤ ws.length) (ok : okTo ls ws k) :
    0 ≤ packTo ls ws k * pw (64 - sumTo ws k) ∧ packTo ls ws k * pw (64 - sumTo ws k) < 18446744073709551616 := by
  obtain ⟨b0, b1⟩ := packTo_bd h k hk ok
  have s0 := sumTo_nonneg h k hk
  have s1 := sumTo_le h k hk
  have p0 := pw_pos (64 - sumTo ws k)
  have e : pw (sumTo ws k) * pw (64 - sumTo ws k) = 18446744073709551616 := by
    rw [← pw_add _ _ s0 (by omega), show sumTo ws k + (64 - sumTo ws k) = 64 by omega, pw_64]
  refine ⟨Int.mul_nonneg b0 (by omega), ?_⟩
  rw [← e]
  exact Int.mul_lt_mul_of_pos_right b1 (by omega)

/-- one number more. -/
theorem pack_step {ls ws : List Int} (h : Wide ws) (k : Nat) (hk : k < ws.length) (g : 0 ≤ ls.getD k 0 ∧ ls.getD k 0 < pw (ws.getD k 0)) :
    putW (packTo ls ws k * pw (64 - sumTo ws k)) (64 - sumTo ws k - ws.getD k 0) (ws.getD k 0) (ls.getD k 0) = packTo ls ws (k + 1) * pw (64 - sumTo ws (k + 1)) := by
  have hp := h.part k hk
  have s1 := sumTo_le h (k + 1) hk
  have s0 := sumTo_nonneg h k (by omega)
  simp only [sumTo] at s1
  have pb : partB (64 - sumTo ws k - ws.getD k 0) (ws.getD k 0) = true := partB_mk (by omega)
  have e := put_pack (packTo ls ws k) (64 - sumTo ws k - ws.getD k 0) (ws.getD k 0) (ls.getD k 0) pb g.2
  rw [show 64 - sumTo ws k - ws.getD k 0 + ws.getD k 0 = 64 - sumTo ws k by omega] at e
  rw [e]
  simp only [packTo, sumTo]
  rw [show 64 - sumTo ws k - ws.getD k 0 = 64 - (sumTo ws k + ws.getD k 0) by omega]

theorem pack_all {ls ws : List Int} (h : Wide ws) : packTo ls ws ws.length * pw (64 - sumTo ws ws.length) = packTo ls ws ws.length := by
  rw [h.all]; simp [pw]

end Go.Proofs.YtgbepebihlmedaaDoor
