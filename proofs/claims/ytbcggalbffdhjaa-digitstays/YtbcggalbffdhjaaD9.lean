/- The law: what stands at its place, as seen from one time, stands there as seen from a later one, unless its slot is passed till then. -/
import Derived.Test.YtbcggalbffdhjaaD8
namespace Go.Proofs.Ytbcggalbffdhjaa
open Go.RowKit

set_option maxHeartbeats 4000000 in
theorem stays_law (a c d l b : Int) (w : World) (ha : 0 ≤ a ∧ a < 4294967296) (hc : 0 ≤ c ∧ c < 4294967296) (hd : 0 ≤ d ∧ d < 4294967296) (hl : 0 ≤ l ∧ l < 256) (hb : 0 ≤ b ∧ b < 256) :
    Calls Try.prog 5 #[.int .u32 a, .int .u32 c, .int .u32 d, .int .u8 l, .int .u8 b] w fun e w' => e = .returned (.bool true) ∧ Below w.heap.size w w' := by
  by_cases h1 : c ≤ a ∨ d ≤ a
  · rcases (by omega : c ≤ a ∨ (¬ c ≤ a ∧ d ≤ a)) with h | ⟨h, h2⟩
    all_goals
      clear h1
      go_enter Try.func5, Try.ntmps5
      go_wp2_with fail
      refine (speaks5_any _).mono ?_
      rintro e w1 ⟨rfl, k1⟩
      go_wp2
      go_ret
      exact ⟨rfl, k1⟩
  · have hst := stays (n := 1 + l % 8) (b := 1 + b % 6) ha.1 (show a ≤ 4294967295 by omega) hc.1 (show c ≤ 4294967295 by omega) hd.1 (show d ≤ 4294967295 by omega) (show a < c by omega) (show a < d by omega)
    have n0 : 1 ≤ 1 + l % 8 ∧ 1 + l % 8 ≤ 8 := by omega
    obtain ⟨hac, had⟩ : a < c ∧ a < d := by omega
    clear h1
    go_enter Try.func5, Try.ntmps5
    go_wp2_with fail
    refine (speaks5_any _).mono ?_
    rintro e w1 ⟨rfl, k1⟩
    go_wp2_with fail
    generalize 1 + l % 8 = n at *
    generalize 1 + b % 6 = B at *
    have c3 := fun v => top_any a c B v
    have c4 := fun v => cross_any a c (plK a d n B) B v
    refine (place_any _ _ _ _ _).mono ?_
    rintro e w2 ⟨rfl, k2⟩
    go_wp2_with fail
    refine (place_any _ _ _ _ _).mono ?_
    rintro e w3 ⟨rfl, k3⟩
    have hK := Lib.hid ((k1.trans k2).trans k3)
    clear k1 k2 k3
    generalize crX a c (plK a d n B) B = x at *
    generalize crY a c (plK a d n B) B = y at *
    generalize crB a c (plK a d n B) B = ok at *
    generalize plK a d n B = k at *
    generalize plI a d n B = i at *
    generalize plK c d n B = m at *
    generalize plI c d n B = j at *
    generalize top a c B = q at *
    unfold Stays at hst
    go_wp2_with fail
    refine (c3 _).mono ?_
    rintro e w4 ⟨rfl, rfl⟩
    rcases hst with ⟨h1, rfl, rfl, rfl⟩ | ⟨h1, rfl, h2, h3, rfl, rfl⟩ | ⟨h1, rfl, h2, h3, h4, rfl⟩ | ⟨h1, rfl, h2, h3, h4, h5⟩ | ⟨rfl, h1, rfl, rfl⟩ | ⟨rfl, h1, h2, rfl⟩ | ⟨rfl, h1, h2, h3⟩ | ⟨rfl, h1, h2, rfl⟩
    · go_wp2_with fail
      refine (c4 _).mono ?_
      rintro e w5 ⟨rfl, k5⟩
      go_wp2
      go_ret
      exact ⟨ret_bool (by simp), hK.out.trans k5⟩
    · have hq : decide (j ≤ y) = false := decide_eq_false (by omega)
      go_wp2_with fail
      refine (c4 _).mono ?_
      rintro e w5 ⟨rfl, k5⟩
      go_wp2
      go_ret
      exact ⟨ret_bool (by simp), hK.out.trans k5⟩
    · go_wp2_with fail
      refine (c4 _).mono ?_
      rintro e w5 ⟨rfl, k5⟩
      go_wp2
      go_ret
      exact ⟨ret_bool (by simp), hK.out.trans k5⟩
    · go_wp2_with fail
      refine (c4 _).mono ?_
      rintro e w5 ⟨rfl, k5⟩
      go_wp2
      go_ret
      exact ⟨ret_bool (by simp), hK.out.trans k5⟩
    · have hq : decide (m ≤ q) = false := decide_eq_false (by omega)
      go_wp2
      go_ret
      exact ⟨ret_bool (by simp), hK.out⟩
    · go_wp2
      go_ret
      exact ⟨ret_bool (by simp), hK.out⟩
    · go_wp2
      go_ret
      exact ⟨ret_bool (by simp), hK.out⟩
    · go_wp2
      go_ret
      exact ⟨ret_bool (by simp), hK.out⟩
end Go.Proofs.Ytbcggalbffdhjaa
