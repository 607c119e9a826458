/- Digit, Floor and Top of the program. -/
import Derived.Test.YtbcggalbffdhjaaD2
namespace Go.Proofs.Ytbcggalbffdhjaa
open Go.RowKit

theorem cut64 {T : Nat} (h : T < 4294967296) (n : Nat) : T / 2 ^ min n 64 = T / 2 ^ n := by
  by_cases hn : n ≤ 64
  · rw [Nat.min_eq_left hn]
  · rw [Nat.min_eq_right (by omega), show T / 2 ^ n = 0 from high (S := 2) h (by decide) (by omega), show T / 2 ^ 64 = 0 from high (S := 2) h (by decide) (by omega)]
theorem shr_is (t l b : Int) : tm t / 2 ^ min (bel l b).toNat 64 = ((tN t / sN b ^ lN l : Nat) : Int) := by
  rw [sN_pow, ← bel_nat, ← cut64 (tN_lt t), ← tN_cast]
  push_cast; rfl
theorem dig_bits (t l b : Int) : bits .and .i64 (tm t / 2 ^ min (bel l b).toNat 64) ((sN b : Int) - 1) = dig t l b := by
  obtain ⟨s0, s1⟩ := sN_in b
  have h := tN_lt t
  have hd : tN t / sN b ^ lN l ≤ tN t := Nat.div_le_self _ _
  rw [shr_is, show ((sN b : Int) - 1) = ((sN b - 1 : Nat) : Int) by omega, i64_and_nat _ _ (by omega) (by omega)]
  unfold dig digN
  have e : ∀ x, x &&& sN b - 1 = x % sN b := fun x => by unfold sN; exact Nat.and_two_pow_sub_one_eq_mod _ _
  rw [e]
theorem flo_bits (t l b : Int) : wrap64 (tm t / 2 ^ min (bel l b).toNat 64 * 2 ^ min (bel l b).toNat 64) = flo t l b := by
  have h := flo_in t l b
  have e : tm t / 2 ^ min (bel l b).toNat 64 * 2 ^ min (bel l b).toNat 64 = flo t l b := by
    by_cases hn : (bel l b).toNat ≤ 64
    · rw [shr_is]
      unfold flo floN
      rw [Nat.min_eq_left hn]
      push_cast
      congr 1
      rw [show ((sN b : Int) ^ lN l) = ((sN b ^ lN l : Nat) : Int) by push_cast; rfl, sN_pow, ← bel_nat]; push_cast; rfl
    · rw [shr_is]
      unfold flo floN
      have z : tN t / sN b ^ lN l = 0 := by rw [sN_pow, ← bel_nat]; exact high (S := 2) (tN_lt t) (by decide) (by omega)
      rw [z]; simp
  rw [e]
  unfold wrap64; omega

theorem digit_any (t l b : Int) (w : World) :
    Calls Try.prog 9 #[.int .i64 t, .int .i64 l, .int .i64 b] w fun e w' => e = .returned (.int .i64 (dig t l b)) ∧ ∃ n, w' = w.drewN n := by
  have H := Lib.hid (dig_bits t l b)
  obtain ⟨x0, x1⟩ := bel_in l b
  obtain ⟨s0, s1⟩ := sN_in b
  go_enter Try.func9, Try.ntmps9
  go_wp2_with fail
  go_quiet (first | (go_at_call 19; exact Calls.quiet_of_same (astime_any _ _)) | (go_at_call 20; exact Calls.quiet_of_same (below5_any _ _ _)) | (go_at_call 21; exact Calls.quiet_of_same (lastslot_any _ _)))
  go_wp2
  go_ret
  exact ⟨ret_int H.out, _, rfl⟩

theorem floor_any (t l b : Int) (w : World) :
    Calls Try.prog 13 #[.int .i64 t, .int .i64 l, .int .i64 b] w fun e w' => e = .returned (.int .i64 (flo t l b)) ∧ w' = w := by
  have H := Lib.hid (flo_bits t l b)
  have c1 := below5_any l b w
  have c2 := astime_any t w
  obtain ⟨x0, x1⟩ := bel_in l b
  generalize bel l b = Y at *
  generalize tm t = T at *
  go_enter Try.func13, Try.ntmps13
  go_wp2_with fail
  refine c1.mono ?_
  rintro e w1 ⟨rfl, rfl⟩
  go_wp2_with fail
  refine c2.mono ?_
  rintro e w1 ⟨rfl, rfl⟩
  go_wp2
  go_ret
  exact ⟨ret_int H.out, rfl⟩

/-- Top's loop: n digits are struck, and what is left of the difference is x. -/
structure Struck (A B S : Nat) (n x : Nat) : Prop where
  x1 : x < 4294967296
  n1 : n ≤ 32
  zero : x = 0 ↔ A / S ^ n = B / S ^ n
  unlike : ∀ m, m < n → A / S ^ m ≠ B / S ^ m
  is : x = (A ^^^ B) / S ^ n

theorem struck_zero {A B S : Nat} (hA : A < 4294967296) (hB : B < 4294967296) : Struck A B S 0 (A ^^^ B) := by
  refine ⟨(i64_xor_nat A B hA hB).2, by omega, ?_, fun m h => by omega, by simp⟩
  rw [xor_zero_iff]; simp
theorem struck_more {A B : Nat} {b : Int} {n x : Nat} (hA : A < 4294967296) (hB : B < 4294967296) (h : Struck A B (sN b) n x) (hx : x ≠ 0) : Struck A B (sN b) (n + 1) (x / sN b) := by
  obtain ⟨s0, s1⟩ := sN_in b
  have e : x / sN b = (A ^^^ B) / sN b ^ (n + 1) := by rw [h.is, Nat.div_div_eq_div_mul, Nat.pow_succ]
  refine ⟨by have := Nat.div_le_self x (sN b); have := h.x1; omega, ?_, ?_, ?_, e⟩
  · have h1 := h.n1
    rcases Nat.lt_or_ge n 32 with h2 | h2
    · omega
    · exact absurd (h.zero.2 (by rw [high hA s0 h2, high hB s0 h2])) hx
  · rw [e, sN_pow, xor_div, xor_zero_iff]
  · intro m hm
    rcases Nat.lt_or_ge m n with h2 | h2
    · exact h.unlike m h2
    · rw [show m = n by omega]; intro he; exact hx (h.zero.2 he)
theorem struck_top {A B S : Nat} {n x : Nat} (hA : A < 4294967296) (hB : B < 4294967296) (hS : 2 ≤ S) (h : Struck A B S n x) (hx : x = 0) : n = topN 32 A B S :=
  IsTop.one ⟨h.zero.1 hx, h.unlike⟩ (top_is hA hB hS)

theorem top_any (a c b : Int) (w : World) :
    Calls Try.prog 11 #[.int .i64 a, .int .i64 c, .int .i64 b] w fun e w' => e = .returned (.int .i64 (top a c b)) ∧ w' = w := by
  have hA := tN_lt a
  have hB := tN_lt c
  obtain ⟨s0, s1⟩ := sN_in b
  obtain ⟨b0, b1⟩ := bt_in b
  have HX := Lib.hid (show bits .xor .i64 (tm a) (tm c) = ((tN a ^^^ tN c : Nat) : Int) by rw [← tN_cast, ← tN_cast]; exact (i64_xor_nat _ _ hA hB).1)
  have HS := Lib.hid (show (2 : Int) ^ (bt b).toNat = (sN b : Int) by unfold sN; push_cast; rfl)
  have hz := Lib.hid (struck_zero (S := sN b) hA hB)
  have ht := Lib.hid (show top a c b = (topN 32 (tN a) (tN c) (sN b) : Nat) - 1 from rfl)
  have hm := Lib.hid (fun n x h hx => struck_more (b := b) (n := n) (x := x) hA hB h hx)
  have he := Lib.hid (fun n x h hx => struck_top (n := n) (x := x) hA hB s0 h hx)
  have c1 := astime_any a w
  have c2 := astime_any c w
  have c3 := asbits_any b w
  go_enter Try.func11, Try.ntmps11
  go_wp2_with fail
  refine c1.mono ?_
  rintro e w1 ⟨rfl, rfl⟩
  go_wp2_with fail
  refine c2.mono ?_
  rintro e w1 ⟨rfl, rfl⟩
  go_wp2_with fail
  rw [HX.out]
  generalize tN a = A at *
  generalize tN c = C at *
  generalize bt b = B at *
  generalize sN b = S at *
  go_loop [7, 8] (fun p i => ∃ n x : Nat, Hid (Struck A C S n x) ∧ n ≤ 32 ∧ x < 4294967296 ∧ i = .int .i64 x ∧ p = .int .i64 ((n : Int) - 1)) (fun _ i => (intOf i).toNat)
  case atStart => exact ⟨0, _, hz, by omega, hz.out.x1, rfl, rfl⟩
  case round =>
    obtain ⟨n, x, hs, hn, hx1, rfl, rfl⟩ := hrel
    by_cases hx : (x : Int) = 0
    · go_wp2
      go_ret
      exact ⟨ret_int (by rw [ht.out, he.out n x hs.out (by omega)]), rfl⟩
    · have hx' : ((x : Int) == 0) = false := beq_eq_false_iff_ne.2 hx
      go_wp2_with fail
      refine c3.mono ?_
      rintro e w1 ⟨rfl, rfl⟩
      go_wp2
      go_round
      case rel => exact ⟨n + 1, x / S, Lib.hid (hm.out n x hs.out (by omega)), (hm.out n x hs.out (by omega)).n1, (hm.out n x hs.out (by omega)).x1, by rw [HS.out]; simp, by simp⟩
      case measure =>
        have : x / S < x := Nat.div_lt_self (by omega) (by omega)
        simp [intOf, HS.out]; omega
end Go.Proofs.Ytbcggalbffdhjaa
