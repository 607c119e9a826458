/- The law: digits, tops and floors are as the document says. -/
import Derived.Test.YtbcggalbffdhjaaD11
namespace Go.Proofs.Ytbcggalbffdhjaa
open Go.RowKit

set_option maxHeartbeats 2000000 in
theorem tells5_law (a c l b : Int) (w : World) :
    Calls Try.prog 3 #[.int .i64 a, .int .i64 c, .int .i64 l, .int .i64 b] w fun e w' => e = .returned (.bool true) ∧ Below w.heap.size w w' := by
  have c2 := fun v => digit_k a l b v
  have c3 := fun v => rdigit_any a l b v
  have c4 := fun v => top_any a c b v
  have c5 := fun v => rtop_any a c b v
  have c6 := fun v => floor_any a l b v
  have c7 := fun v => rfloor_any a l b v
  generalize dig a l b = D at *
  generalize top a c b = K at *
  generalize flo a l b = F at *
  go_enter Try.func3, Try.ntmps3
  go_wp2_with fail
  refine (speaks5_any _).mono ?_
  rintro e w1 ⟨rfl, k1⟩
  go_wp2_with fail
  refine (c2 _).mono ?_
  rintro e w2 ⟨rfl, k2⟩
  go_wp2_with fail
  refine (c3 _).mono ?_
  rintro e w3 ⟨rfl, k3⟩
  go_wp2_with fail
  refine (c4 _).mono ?_
  rintro e w4 ⟨rfl, rfl⟩
  go_wp2_with fail
  refine (c5 _).mono ?_
  rintro e w5 ⟨rfl, k5⟩
  go_wp2_with fail
  refine (c6 _).mono ?_
  rintro e w6 ⟨rfl, rfl⟩
  go_wp2_with fail
  refine (c7 _).mono ?_
  rintro e w7 ⟨rfl, k7⟩
  go_wp2
  go_ret
  exact ⟨ret_bool (by simp), (((k1.trans k2).trans k3).trans k5).trans k7⟩

end Go.Proofs.Ytbcggalbffdhjaa
