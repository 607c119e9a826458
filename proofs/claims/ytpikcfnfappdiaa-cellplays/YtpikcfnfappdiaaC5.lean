/- The chapter's example. -/
import Derived.Test.YtpikcfnfappdiaaC4
namespace Go.Proofs.Ytpikcfnfappdiaa
open Go.RowKit

section
variable {p c : Nat} {l : List Int} {k : Int} {w : World}
theorem Aft.trans {l' : List Int} {k' : Int} {w1 w2 : World} (h : Turns [p, c] w w1) (g : Aft w1 p c l' k' w2) : Aft w p c l' k' w2 := ⟨g.1, h.trans g.2⟩
/-- what is made, and turned, is new. -/
theorem Made.below {n : Nat} {w1 w2 : World} (h : Made w n w1) (g : Turns [w.heap.size + 1, w.heap.size] w1 w2) : Below w.heap.size w w2 :=
  h.2.1.trans (g.below (by simp) (by have := h.2.2; omega))
end

theorem speaks_any (w : World) :
    Calls Try.prog 8 #[] w fun e w' => e = .returned (.bool true) ∧ Below w.heap.size w w' := by
  go_enter Try.func8, Try.ntmps8
  go_wp2_with fail
  refine (new_any 1 _ (by omega) (by omega)).mono ?_
  rintro e w1 ⟨rfl, hm⟩
  go_wp2_with fail
  refine (cas_any _ _ _ (by simp [U64]) hm.1 (by omega)).mono ?_
  rintro e w2 ⟨rfl, h2⟩
  rw [show casB (List.replicate 1 0) 0 0 = true by decide]
  rw [show casA (List.replicate 1 0) 0 0 5 = [5] by decide] at h2
  rw [show moreA (List.replicate 1 0) 0 0 = 1 by decide] at h2
  go_wp2_with fail
  refine (cas_any _ _ _ (by simp [U64]) h2.1 (by omega)).mono ?_
  rintro e w3 ⟨rfl, h3⟩
  rw [show casB [5] 0 0 = false by decide]
  rw [show casA [5] 0 0 5 = [5] by decide, show moreA [5] 0 1 = 2 by decide] at h3
  go_wp2_with fail
  refine (load_any _ h3.1 (by omega)).mono ?_
  rintro e w4 ⟨rfl, h4⟩
  rw [show getA [5] 0 = 5 by decide]
  go_wp2
  go_ret
  exact ⟨rfl, hm.below ((h2.2.trans h3.2).trans h4.2)⟩

end Go.Proofs.Ytpikcfnfappdiaa
