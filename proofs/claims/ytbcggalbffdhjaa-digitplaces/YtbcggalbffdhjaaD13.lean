/- The law: the slots that are passed, and the places, are as the document says. -/
import Derived.Test.YtbcggalbffdhjaaD11
namespace Go.Proofs.Ytbcggalbffdhjaa
open Go.RowKit

set_option maxHeartbeats 2000000 in
theorem rcross_any (a c l b : Int) (w : World) :
    Calls Try.prog 16 #[.int .i64 a, .int .i64 c, .int .i64 l, .int .i64 b] w fun e w' => e = .returned (.tuple #[.int .i64 (crX a c l b), .int .i64 (crY a c l b), .bool (crB a c l b)]) ∧ Keeps w w' := by
  have c1 := fun v => rtop_any a c b v
  have c2 := fun v => rtime_any c v
  have c3 := fun v => rtime_any a v
  have c4 := fun v => size_any b v
  have c5 := fun v => rdigit_any a (lz l) b v
  have c6 := fun v => rdigit_any c (lz l) b v
  have hc := cross_cases a c l b
  have hd := dig_in a (lz l) b
  have hs := sN_in b
  generalize crX a c l b = X at *
  generalize crY a c l b = Y at *
  generalize crB a c l b = Q at *
  generalize top a c b = K at *
  generalize tm a = A at *
  generalize tm c = C at *
  generalize sN b = S at *
  generalize dig a (lz l) b = D at *
  generalize dig c (lz l) b = E at *
  rcases (by unfold lz; split <;> omega : (l < 0 ∧ lz l = 0) ∨ (0 ≤ l ∧ lz l = l)) with ⟨h, e⟩ | ⟨h, e⟩
  all_goals
    rw [e] at hc c5 c6
    clear e
    rcases hc with ⟨h1, rfl, rfl, rfl⟩ | ⟨h1, h2, rfl, rfl, rfl⟩ | ⟨h1, h2, rfl, rfl, rfl⟩ | ⟨h1, rfl, rfl, rfl, rfl⟩
    all_goals
      go_enter Try.func16, Try.ntmps16
      go_wp2_with fail
      refine (c1 _).mono ?_
      rintro e w1 ⟨rfl, k1⟩
      go_wp2_with fail
      refine (c2 _).mono ?_
      rintro e w2 ⟨rfl, rfl⟩
      go_wp2_with fail
      refine (c3 _).mono ?_
      rintro e w3 ⟨rfl, rfl⟩
  · go_wp2
    go_ret3
    exact ⟨rfl, k1⟩
  · go_wp2
    go_ret3
    exact ⟨rfl, k1⟩
  · go_wp2_with fail
    refine (c4 _).mono ?_
    rintro e w4 ⟨rfl, rfl⟩
    go_wp2
    go_ret3
    exact ⟨rfl, k1⟩
  · go_wp2_with fail
    refine (c5 _).mono ?_
    rintro e w4 ⟨rfl, k2⟩
    go_wp2_with fail
    refine (c6 _).mono ?_
    rintro e w5 ⟨rfl, k3⟩
    go_wp2
    go_ret3
    exact ⟨rfl, (k1.trans k2).trans k3⟩
  · go_wp2
    go_ret3
    exact ⟨rfl, k1⟩
  · go_wp2
    go_ret3
    exact ⟨rfl, k1⟩
  · go_wp2_with fail
    refine (c4 _).mono ?_
    rintro e w4 ⟨rfl, rfl⟩
    go_wp2
    go_ret3
    exact ⟨rfl, k1⟩
  · go_wp2_with fail
    refine (c5 _).mono ?_
    rintro e w4 ⟨rfl, k2⟩
    go_wp2_with fail
    refine (c6 _).mono ?_
    rintro e w5 ⟨rfl, k3⟩
    go_wp2
    go_ret3
    exact ⟨rfl, (k1.trans k2).trans k3⟩

theorem rplace_any (a c l b : Int) (w : World) :
    Calls Try.prog 18 #[.int .i64 a, .int .i64 c, .int .i64 l, .int .i64 b] w fun e w' => e = .returned (.tuple #[.int .i64 (plK a c l b), .int .i64 (plI a c l b)]) ∧ Keeps w w' := by
  have c1 := fun v => rtop_any a c b v
  have c2 := fun v => rtime_any c v
  have c3 := fun v => rtime_any a v
  have c5 := fun v => rdigit_any c (top a c b) b v
  have hc := place_cases a c l b
  generalize plK a c l b = X at *
  generalize plI a c l b = Y at *
  generalize dig c (top a c b) b = E at *
  generalize top a c b = K at *
  generalize tm a = A at *
  generalize tm c = C at *
  rcases hc with ⟨h1, rfl, rfl⟩ | ⟨h1, h2, rfl, rfl⟩ | ⟨h1, h2, rfl, rfl⟩
  all_goals
    go_enter Try.func18, Try.ntmps18
    go_wp2_with fail
    refine (c2 _).mono ?_
    rintro e w1 ⟨rfl, rfl⟩
    go_wp2_with fail
    refine (c3 _).mono ?_
    rintro e w1 ⟨rfl, rfl⟩
  · go_wp2
    go_ret2
    exact ⟨rfl, Keeps.refl _⟩
  · go_wp2_with fail
    refine (c1 _).mono ?_
    rintro e w2 ⟨rfl, k1⟩
    go_wp2
    go_ret2
    exact ⟨rfl, k1⟩
  · go_wp2_with fail
    refine (c1 _).mono ?_
    rintro e w2 ⟨rfl, k1⟩
    go_wp2_with fail
    refine (c5 _).mono ?_
    rintro e w3 ⟨rfl, k2⟩
    go_wp2
    go_ret2
    exact ⟨rfl, k1.trans k2⟩

set_option maxHeartbeats 2000000 in
theorem places5_law (a c l b : Int) (w : World) :
    Calls Try.prog 4 #[.int .i64 a, .int .i64 c, .int .i64 l, .int .i64 b] w fun e w' => e = .returned (.bool true) ∧ Below w.heap.size w w' := by
  have c2 := fun v => cross_any a c l b v
  have c3 := fun v => rcross_any a c l b v
  have c4 := fun v => place_any a c l b v
  have c5 := fun v => rplace_any a c l b v
  generalize crX a c l b = X at *
  generalize crY a c l b = Y at *
  generalize crB a c l b = Q at *
  generalize plK a c l b = K at *
  generalize plI a c l b = I at *
  go_enter Try.func4, Try.ntmps4
  go_wp2_with fail
  refine (speaks5_any _).mono ?_
  rintro e w1 ⟨rfl, k1⟩
  go_wp2_with fail
  refine (c2 _).mono ?_
  rintro e w2 ⟨rfl, k2⟩
  go_wp2_with fail
  refine (c3 _).mono ?_
  rintro e w3 ⟨rfl, k3⟩
  go_wp2_with fail
  refine (c4 _).mono ?_
  rintro e w4 ⟨rfl, k4⟩
  go_wp2_with fail
  refine (c5 _).mono ?_
  rintro e w5 ⟨rfl, k5⟩
  go_wp2
  go_ret
  exact ⟨ret_bool (by simp), (((k1.trans k2).trans k3).trans k4).trans k5⟩

end Go.Proofs.Ytbcggalbffdhjaa
