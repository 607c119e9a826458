/- The law: of two times that one is later whose digit is greater at the highest level at which they differ. -/
import Derived.Test.YtbcggalbffdhjaaD4
namespace Go.Proofs.Ytbcggalbffdhjaa
open Go.RowKit

/-- two times of which the lower one is less at some level, and which are the same above. -/
theorem lt_at {A B S n : Nat} (h : A / S ^ n < B / S ^ n) : A < B := by
  rcases Nat.lt_or_ge A B with h1 | h1
  · exact h1
  · exact absurd (Nat.div_le_div_right h1) (Nat.not_le.2 h)
/-- the highest level at which two unlike times differ. -/
structure Differ (A B S k : Nat) : Prop where
  above : A / S ^ (k + 1) = B / S ^ (k + 1)
  at_ : A / S ^ k ≠ B / S ^ k
theorem Differ.top {A B S k : Nat} (h : Differ A B S k) : IsTop A B S (k + 1) := IsTop.mk' h.above (.inr h.at_)
theorem differ_of {A B S : Nat} (hA : A < 4294967296) (hB : B < 4294967296) (hS : 2 ≤ S) (h : A ≠ B) : ∃ k, topN 32 A B S = k + 1 ∧ k ≤ 31 ∧ Differ A B S k := by
  have i := top_is hA hB hS
  have l := top_le hA hB hS
  cases hk : topN 32 A B S with
  | zero => rw [hk] at i; exact absurd (by simpa using i.same) h
  | succ k => rw [hk] at i l; exact ⟨k, rfl, by omega, i.same, i.unlike k (by omega)⟩
/-- held against each other at that level. -/
theorem Differ.less {A B S k : Nat} (h : Differ A B S k) : (A < B ∧ A / S ^ k < B / S ^ k ∧ digN A S k < digN B S k) ∨ (B < A ∧ B / S ^ k < A / S ^ k ∧ digN B S k < digN A S k) := by
  have e1 := step A S k
  have e2 := step B S k
  have h1 := h.above
  have h2 := h.at_
  rw [h1] at e1
  generalize S * (B / S ^ (k + 1)) = u at *
  rcases Nat.lt_trichotomy (A / S ^ k) (B / S ^ k) with h3 | h3 | h3
  · exact .inl ⟨lt_at h3, h3, by omega⟩
  · exact absurd h3 h2
  · exact .inr ⟨lt_at h3, h3, by omega⟩

theorem tN_same {x : Int} (h0 : 0 ≤ x) (h1 : x ≤ 4294967295) : tN x = x.toNat := by unfold tN; rw [tm_same h0 h1]
theorem lN_same {l : Nat} (h : l ≤ 32) : lN l = l := by unfold lN; rw [lv_same (by omega) (by omega)]; simp

/-- the integers' own. -/
theorem top_self {x y n : Int} (h : tN x = tN y) : top x y n = -1 := by
  unfold top
  have i := top_is (tN_lt x) (tN_lt y) (sN_in n).1
  have z : IsTop (tN x) (tN y) (sN n) 0 := ⟨by rw [h], fun m hm => by omega⟩
  rw [i.one z]; rfl
theorem orders {x y n : Int} (x0 : 0 ≤ x) (x1 : x ≤ 4294967295) (y0 : 0 ≤ y) (y1 : y ≤ 4294967295) :
    (x = y ∧ top x y n = -1) ∨ ∃ k : Int, 0 ≤ k ∧ k ≤ 31 ∧ top x y n = k ∧ top y x n = k ∧ flo x (k + 1) n = flo y (k + 1) n ∧ ((x < y ∧ dig x k n < dig y k n) ∨ (y < x ∧ dig y k n < dig x k n)) := by
  have hS := (sN_in n).1
  by_cases h : x = y
  · exact .inl ⟨h, top_self (by rw [h])⟩
  · refine .inr ?_
    have hx := tN_same x0 x1
    have hy := tN_same y0 y1
    obtain ⟨k, hk, hk1, hd⟩ := differ_of (tN_lt x) (tN_lt y) hS (by omega)
    have hl := hd.less
    have hL : lN (k : Int) = k := lN_same (by omega)
    refine ⟨k, by omega, by omega, ?_, ?_, ?_, ?_⟩
    · unfold top; rw [hk]; simp
    · unfold top; rw [top_comm (tN_lt y) (tN_lt x) hS, hk]; simp
    · unfold flo floN
      have : lN ((k : Int) + 1) = k + 1 := by have := lN_same (l := k + 1) (by omega); simpa using this
      rw [this, hd.above]
    · unfold dig
      rw [hL]
      omega

set_option maxHeartbeats 1000000 in
theorem orders_law (a c b : Int) (w : World) (ha : 0 ≤ a ∧ a < 4294967296) (hc : 0 ≤ c ∧ c < 4294967296) (hb : 0 ≤ b ∧ b < 256) :
    Calls Try.prog 7 #[.int .u32 a, .int .u32 c, .int .u8 b] w fun e w' => e = .returned (.bool true) ∧ Below w.heap.size w w' := by
  have ho := orders (n := 1 + b % 6) ha.1 (show a ≤ 4294967295 by omega) hc.1 (show c ≤ 4294967295 by omega)
  go_enter Try.func7, Try.ntmps7
  go_wp2_with fail
  refine (speaks5_any _).mono ?_
  rintro e w1 ⟨rfl, k1⟩
  go_wp2_with fail
  generalize 1 + b % 6 = n at *
  refine (top_any _ _ _ _).mono ?_
  rintro e w2 ⟨rfl, rfl⟩
  rcases ho with ⟨rfl, ht⟩ | ⟨k, hk0, hk1, h1, h2, h3, h4⟩
  · rw [ht]
    clear ht
    go_wp2
    go_ret
    exact ⟨ret_bool (by simp), k1⟩
  · rw [h1]
    have c2 := top_any c a n w2
    have c3 := floor_any a (k + 1) n w2
    have c4 := floor_any c (k + 1) n w2
    have c5 := digit_k a k n w2
    have c6 := fun v => digit_k c k n v
    rw [h2] at c2
    rw [h3] at c3
    generalize flo c (k + 1) n = F at *
    generalize dig a k n = D at *
    generalize dig c k n = E at *
    clear h1 h2 h3
    rcases h4 with ⟨h4, h5⟩ | ⟨h4, h5⟩
    all_goals
      have hne : (a == c) = false := beq_eq_false_iff_ne.2 (by omega)
      go_wp2_with fail
      refine c2.mono ?_
      rintro e w2 ⟨rfl, rfl⟩
      go_wp2_with fail
      refine c3.mono ?_
      rintro e w2 ⟨rfl, rfl⟩
      go_wp2_with fail
      refine c4.mono ?_
      rintro e w2 ⟨rfl, rfl⟩
      go_wp2_with fail
      refine c5.mono ?_
      rintro e w3 ⟨rfl, k3⟩
      go_wp2_with fail
      refine (c6 _).mono ?_
      rintro e w4 ⟨rfl, k4⟩
      go_wp2
      go_ret
      exact ⟨ret_bool (by simp <;> omega), (k1.trans k3).trans k4⟩

end Go.Proofs.Ytbcggalbffdhjaa
