/- Cross and Place of the program, and the example. -/
import Derived.Test.YtbcggalbffdhjaaD3
namespace Go.Proofs.Ytbcggalbffdhjaa
open Go.RowKit

/-- all that lay in the world's memory lies there still. -/
def Keeps (a w : World) : Prop := Below a.heap.size a w
theorem Keeps.refl (a : World) : Keeps a a := Below.refl _ _
theorem Keeps.trans {a b c : World} (h : Keeps a b) (k : Keeps b c) : Keeps a c := Below.trans h (k.mono h.size)
theorem Keeps.drewN {a w : World} (h : Keeps a w) (n : Nat) : Keeps a (w.drewN n) := ⟨h.os, h.tape, h.output, h.size, h.block⟩

theorem digit_k (t l b : Int) (w : World) :
    Calls Try.prog 9 #[.int .i64 t, .int .i64 l, .int .i64 b] w fun e w' => e = .returned (.int .i64 (dig t l b)) ∧ Keeps w w' :=
  (digit_any t l b w).mono (by rintro e w' ⟨rfl, n, rfl⟩; exact ⟨rfl, (Keeps.refl w).drewN n⟩)

/-- a level, as it is held against the top. -/
def lz (l : Int) : Int := if l < 0 then 0 else l
theorem lz_in (l : Int) : 0 ≤ lz l := by unfold lz; split <;> omega
theorem lz_same {l : Int} (h : 0 ≤ l) : lz l = l := by unfold lz; split <;> omega
/-- what Cross and Place answer. -/
def crX (a c l b : Int) : Int := if tm c ≤ tm a ∨ top a c b < lz l ∨ lz l < top a c b then 0 else dig a (lz l) b + 1
def crY (a c l b : Int) : Int := if tm c ≤ tm a ∨ top a c b < lz l then 0 else if lz l < top a c b then (sN b : Int) - 1 else dig c (lz l) b
def crB (a c l b : Int) : Bool := if tm c ≤ tm a ∨ top a c b < lz l then false else true
def plK (a c l b : Int) : Int := if tm c ≤ tm a then -1 else if l ≤ top a c b then l else top a c b
def plI (a c l b : Int) : Int := if tm c ≤ tm a then -1 else if l ≤ top a c b then 0 else dig c (top a c b) b

theorem ret_three {k l : IntKind} {a b c d : Int} {p q : Bool} (h : a = b) (g : c = d) (i : p = q) : Ending.returned (.tuple #[.int k a, .int l c, .bool p]) = .returned (.tuple #[.int k b, .int l d, .bool q]) := by rw [h, g, i]

/-- the four cases of Cross. -/
theorem cross_cases (a c l b : Int) : (tm c ≤ tm a ∧ crX a c l b = 0 ∧ crY a c l b = 0 ∧ crB a c l b = false) ∨ (tm a < tm c ∧ top a c b < lz l ∧ crX a c l b = 0 ∧ crY a c l b = 0 ∧ crB a c l b = false)
    ∨ (tm a < tm c ∧ lz l < top a c b ∧ crX a c l b = 0 ∧ crY a c l b = (sN b : Int) - 1 ∧ crB a c l b = true) ∨ (tm a < tm c ∧ lz l = top a c b ∧ crX a c l b = dig a (lz l) b + 1 ∧ crY a c l b = dig c (lz l) b ∧ crB a c l b = true) := by
  unfold crX crY crB
  by_cases h1 : tm c ≤ tm a
  · exact .inl ⟨h1, by simp [h1], by simp [h1], by simp [h1]⟩
  · rcases Int.lt_trichotomy (top a c b) (lz l) with h2 | h2 | h2
    · exact .inr (.inl ⟨by omega, h2, by simp [h2], by simp [h2], by simp [h2]⟩)
    · exact .inr (.inr (.inr ⟨by omega, h2.symm, by rw [if_neg (by omega)], by rw [if_neg (by omega), if_neg (by omega)], by rw [if_neg (by omega)]⟩))
    · exact .inr (.inr (.inl ⟨by omega, h2, by rw [if_pos (by omega)], by rw [if_neg (by omega), if_pos h2], by rw [if_neg (by omega)]⟩))
theorem place_cases (a c l b : Int) : (tm c ≤ tm a ∧ plK a c l b = -1 ∧ plI a c l b = -1) ∨ (tm a < tm c ∧ l ≤ top a c b ∧ plK a c l b = l ∧ plI a c l b = 0)
    ∨ (tm a < tm c ∧ top a c b < l ∧ plK a c l b = top a c b ∧ plI a c l b = dig c (top a c b) b) := by
  unfold plK plI
  by_cases h1 : tm c ≤ tm a
  · exact .inl ⟨h1, by simp [h1], by simp [h1]⟩
  · by_cases h2 : l ≤ top a c b
    · exact .inr (.inl ⟨by omega, h2, by simp [h1, h2], by simp [h1, h2]⟩)
    · exact .inr (.inr ⟨by omega, by omega, by simp [h1, h2], by simp [h1, h2]⟩)

set_option maxHeartbeats 1600000 in
theorem cross_any (a c l b : Int) (w : World) :
    Calls Try.prog 15 #[.int .i64 a, .int .i64 c, .int .i64 l, .int .i64 b] w fun e w' => e = .returned (.tuple #[.int .i64 (crX a c l b), .int .i64 (crY a c l b), .bool (crB a c l b)]) ∧ Keeps w w' := by
  have c1 := top_any a c b w
  have c2 := astime_any c w
  have c3 := astime_any a w
  have c4 := lastslot_any b w
  have c5 := digit_k a (lz l) b w
  have c6 := fun v => digit_k c (lz l) b v
  have hc := cross_cases a c l b
  have hd := dig_in a (lz l) b
  generalize crX a c l b = X at *
  generalize crY a c l b = Y at *
  generalize crB a c l b = Q at *
  generalize top a c b = K at *
  generalize tm a = A at *
  generalize tm c = C at *
  generalize dig a (lz l) b = D at *
  generalize dig c (lz l) b = E at *
  rcases (by unfold lz; split <;> omega : (l < 0 ∧ lz l = 0) ∨ (0 ≤ l ∧ lz l = l)) with ⟨h, e⟩ | ⟨h, e⟩
  all_goals
    rw [e] at hc c5 c6
    clear e
    rcases hc with ⟨h1, rfl, rfl, rfl⟩ | ⟨h1, h2, rfl, rfl, rfl⟩ | ⟨h1, h2, rfl, rfl, rfl⟩ | ⟨h1, rfl, rfl, rfl, rfl⟩
    all_goals
      go_enter Try.func15, Try.ntmps15
      go_wp2_with fail
      refine c1.mono ?_
      rintro e w1 ⟨rfl, rfl⟩
      go_wp2_with fail
      refine c2.mono ?_
      rintro e w1 ⟨rfl, rfl⟩
      go_wp2_with fail
      refine c3.mono ?_
      rintro e w1 ⟨rfl, rfl⟩
  · go_wp2
    go_ret3
    exact ⟨rfl, Keeps.refl _⟩
  · go_wp2
    go_ret3
    exact ⟨rfl, Keeps.refl _⟩
  · go_wp2_with fail
    refine c4.mono ?_
    rintro e w1 ⟨rfl, rfl⟩
    go_wp2
    go_ret3
    exact ⟨rfl, Keeps.refl _⟩
  · go_wp2_with fail
    refine c5.mono ?_
    rintro e w1 ⟨rfl, hk⟩
    go_wp2_with fail
    refine (c6 _).mono ?_
    rintro e w2 ⟨rfl, hk2⟩
    go_wp2
    go_ret3
    exact ⟨rfl, hk.trans hk2⟩
  · go_wp2
    go_ret3
    exact ⟨rfl, Keeps.refl _⟩
  · go_wp2
    go_ret3
    exact ⟨rfl, Keeps.refl _⟩
  · go_wp2_with fail
    refine c4.mono ?_
    rintro e w1 ⟨rfl, rfl⟩
    go_wp2
    go_ret3
    exact ⟨rfl, Keeps.refl _⟩
  · go_wp2_with fail
    refine c5.mono ?_
    rintro e w1 ⟨rfl, hk⟩
    go_wp2_with fail
    refine (c6 _).mono ?_
    rintro e w2 ⟨rfl, hk2⟩
    go_wp2
    go_ret3
    exact ⟨rfl, hk.trans hk2⟩

theorem place_any (a c l b : Int) (w : World) :
    Calls Try.prog 17 #[.int .i64 a, .int .i64 c, .int .i64 l, .int .i64 b] w fun e w' => e = .returned (.tuple #[.int .i64 (plK a c l b), .int .i64 (plI a c l b)]) ∧ Keeps w w' := by
  have c1 := top_any a c b w
  have c2 := astime_any c w
  have c3 := astime_any a w
  have c5 := digit_k c (top a c b) b w
  have hc := place_cases a c l b
  generalize plK a c l b = X at *
  generalize plI a c l b = Y at *
  generalize dig c (top a c b) b = E at *
  generalize top a c b = K at *
  generalize tm a = A at *
  generalize tm c = C at *
  rcases hc with ⟨h1, rfl, rfl⟩ | ⟨h1, h2, rfl, rfl⟩ | ⟨h1, h2, rfl, rfl⟩
  all_goals
    go_enter Try.func17, Try.ntmps17
    go_wp2_with fail
    refine c2.mono ?_
    rintro e w1 ⟨rfl, rfl⟩
    go_wp2_with fail
    refine c3.mono ?_
    rintro e w1 ⟨rfl, rfl⟩
  · go_wp2
    go_ret2
    exact ⟨rfl, Keeps.refl _⟩
  · go_wp2_with fail
    refine c1.mono ?_
    rintro e w1 ⟨rfl, rfl⟩
    go_wp2
    go_ret2
    exact ⟨rfl, Keeps.refl _⟩
  · go_wp2_with fail
    refine c1.mono ?_
    rintro e w1 ⟨rfl, rfl⟩
    go_wp2_with fail
    refine c5.mono ?_
    rintro e w1 ⟨rfl, hk⟩
    go_wp2
    go_ret2
    exact ⟨rfl, hk⟩

theorem speaks5_any (w : World) :
    Calls Try.prog 8 #[] w fun e w' => e = .returned (.bool true) ∧ Keeps w w' := by
  have c1 := fun v => place_any 27 30 8 2 v
  have c2 := fun v => digit_k 27 0 2 v
  have c3 := fun v => digit_k 27 1 2 v
  have c4 := fun v => top_any 27 30 2 v
  rw [show plK 27 30 8 2 = 1 by decide, show plI 27 30 8 2 = 3 by decide] at c1
  rw [show dig 27 0 2 = 3 by decide] at c2
  rw [show dig 27 1 2 = 2 by decide] at c3
  rw [show top 27 30 2 = 1 by decide] at c4
  go_enter Try.func8, Try.ntmps8
  go_wp2_with fail
  refine (c1 _).mono ?_
  rintro e w1 ⟨rfl, k1⟩
  go_wp2_with fail
  refine (c2 _).mono ?_
  rintro e w2 ⟨rfl, k2⟩
  go_wp2_with fail
  refine (c3 _).mono ?_
  rintro e w3 ⟨rfl, k3⟩
  go_wp2_with fail
  refine (c4 _).mono ?_
  rintro e w4 ⟨rfl, k4⟩
  subst k4
  go_wp2
  go_ret
  exact ⟨rfl, (k1.trans k2).trans k3⟩

end Go.Proofs.Ytbcggalbffdhjaa
