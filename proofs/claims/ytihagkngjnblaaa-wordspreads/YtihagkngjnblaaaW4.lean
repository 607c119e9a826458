/- Contracts: the example of the document; the law on parts. -/
import Derived.Test.YtihagkngjnblaaaW3
namespace Go.Proofs.Ytihagkngjnblaaa
open Go.RowKit

theorem ex_ok : okTo [1, 2, 1, 0] stateWs 3 := by
  intro i hi
  rcases i with _ | _ | _ | i
  · simp [stateWs, pw]
  · simp [stateWs, pw]
  · simp [stateWs, pw]
  · omega
theorem ex_word : packW [1, 2, 1, 0] stateWs = 4294967305 := by
  rw [packW_ok ex_ok]
  simp [stateWs, packTo, pw]
theorem ex_err : packE [1, 2, 1, 0] stateWs = 0 := packE_ok ex_ok

theorem speaks_any (w : World) : Calls Try.prog 10 #[] w fun e w' => e = .returned (.bool true) ∧ Below w.heap.size w w' := by
  go_enter Try.func10, Try.ntmps10
  go_wp2_with fail
  refine (state_word 1 2 1 _ ⟨by omega, by omega⟩ ⟨by omega, by omega⟩ ⟨by omega, by omega⟩).mono ?_
  rintro e w' ⟨rfl, hbel⟩
  rw [ex_word, ex_err]
  go_wp2
  go_ret
  exact ⟨rfl, hbel⟩

abbrev U64 (n : Int) : Prop := 0 ≤ n ∧ n < 18446744073709551616

theorem below_drewn {w W : World} {n : Nat} (h : Below (w.drewN n).heap.size (w.drewN n) W) : Below w.heap.size w W :=
  (below_drewN (Below.refl w.heap.size w) n).trans h

theorem parts_law (v s t u : Int) (w : World) (hv : U64 v) (ht : I64 t) (hu : U64 u) :
    Calls Try.prog 3 #[.int .u64 v, .int .i64 s, .int .i64 t, .int .u64 u] w fun e w' => e = .returned (.bool true) ∧ Below w.heap.size w w' := by
  have h1 : ∀ n : Int, (n == n) = true := fun n => by simp
  have e1 := h1 (getW v s t)
  have e2 := h1 (putW v s t u)
  have e3 := h1 (putE s t u)
  clear h1
  go_enter Try.func3, Try.ntmps3
  go_wp2_with fail
  refine (put_any _ _ _ _ _ hv.1 hv.2 ht.2 hu.1 hu.2).mono ?_
  rintro e w1 ⟨rfl, n, rfl⟩
  go_wp2_with fail
  refine (rput_any _ _ _ _ _ hv.1 hv.2 hu.1 hu.2).mono ?_
  rintro e w1 ⟨rfl, rfl⟩
  go_wp2_with fail
  refine (speaks_any _).mono ?_
  rintro e w1 ⟨rfl, hb⟩
  have HB := Lib.hid (below_drewn hb)
  clear hb
  go_wp2_with fail
  refine (get_any _ _ _ _ hv.1 hv.2 ht.2).mono ?_
  rintro e w2 ⟨rfl, m, rfl⟩
  go_wp2_with fail
  refine (rget_any _ _ _ _ hv.1 hv.2).mono ?_
  rintro e w2 ⟨rfl, rfl⟩
  go_wp2
  go_ret
  exact ⟨rfl, below_drewN HB.out _⟩

end Go.Proofs.Ytihagkngjnblaaa
