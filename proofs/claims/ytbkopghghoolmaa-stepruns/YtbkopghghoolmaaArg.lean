/- Slices of numbers, and of structs of numbers, that are handed in. -/
import Derived.Test.YtbkopghghoolmaaC2
import Derived.Test.YtbkopghghoolmaaArgR
namespace Go.Proofs.Ytbkopghghoolmaa
open Go.RowKit Go.ChangeShapes Go.WideShapes

theorem u64_of_wf {x : Int} (h : (Lit.int .u64 x).wf = true) : N64 x := by
  have := bounds_u64 h
  unfold N64; omega

theorem Row.fit {w : World} {A : Option Addr} {n : Nat} {xs : List Int} (h : Row w .u64 A n xs) (i : Nat) : N64 (xs.getD i 0) := by
  by_cases hi : i < xs.length
  · simp [List.getD, hi]
    exact u64_of_wf (h.wf _ (List.getElem_mem _))
  · simp [List.getD, hi, N64]

theorem Row.getA {w : World} {k : IntKind} {A : Option Addr} {n : Nat} {xs : List Int} (h : Row w k A n xs) (i : Nat) (hi : i < n) : xs.getD i 0 = getA xs i := by
  have : i < xs.length := by rw [h.len]; exact hi
  rw [getA_nat this]; simp [List.getD, this]

end Go.Proofs.Ytbkopghghoolmaa
