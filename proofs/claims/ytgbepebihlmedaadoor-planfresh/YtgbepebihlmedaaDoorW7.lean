/- Contracts: the document's words (Word, Widths). -/
import Derived.Test.YtgbepebihlmedaaDoorW4
import Derived.Deep.DeepCutAuto
namespace Go.Proofs.YtgbepebihlmedaaDoor
open Go.RowKit

theorem power_q (n : Int) (w : World) (h0 : 0 ≤ n) (h1 : n ≤ 63) :
    Calls Tryd.prog 49 #[.int .i64 n] w fun e w' => e = .returned (.int .u64 (pw n)) ∧ w' = w :=
  (power_any n w h0 h1).mono fun _ _ ⟨h, g⟩ => ⟨h, g.symm⟩

/-- the first n cells of a block are these numbers. -/
def HasInts (w : World) (b n : Nat) (ls : List Int) : Prop := ∀ i, i < n → w.cell? ⟨b, i, none⟩ = some (.int .i64 (ls.getD i 0))

theorem pack_lt {ls ws : List Int} (h : Wide ws) (k : Nat) (hk : k < ws.length) (ok : okTo ls ws k) :
    0 ≤ packTo ls ws k * pw (ws.getD k 0) ∧ packTo ls ws k * pw (ws.getD k 0) + (pw (ws.getD k 0) - 1) < 18446744073709551616 := by
  obtain ⟨b0, b1⟩ := packTo_bd h k (by omega) ok
  have hp := h.part k hk
  have s0 := sumTo_nonneg h k (by omega)
  have s1 := sumTo_le h (k + 1) hk
  simp only [sumTo] at s1
  have p0 := pw_pos (ws.getD k 0)
  have e : pw (sumTo ws k) * pw (ws.getD k 0) ≤ 18446744073709551616 := by
    rw [← pw_add _ _ s0 (by omega)]; exact pw_le_64 _ (by omega) s1
  have m : (packTo ls ws k + 1) * pw (ws.getD k 0) ≤ pw (sumTo ws k) * pw (ws.getD k 0) := Int.mul_le_mul_of_nonneg_right (by omega) (by omega)
  rw [Int.add_mul] at m
  refine ⟨Int.mul_nonneg b0 (by omega), by omega⟩

/-- a world that has drawn, and no more. -/
def Dr (w W : World) : Prop := ∃ m, W = w.drewN m
theorem Dr.refl (w : World) : Dr w w := ⟨0, rfl⟩
theorem Dr.next {w W : World} (h : Dr w W) (n : Nat) : Dr w (W.drewN n) := by
  obtain ⟨m, rfl⟩ := h
  exact ⟨m + n, World.drewN_drewN ..⟩
theorem Dr.cell {w W : World} (h : Dr w W) (a : Addr) : W.cell? a = w.cell? a := by
  obtain ⟨m, rfl⟩ := h; rfl
theorem Dr.below {B : Nat} {w W : World} (h : Dr w W) : Below B w W := by
  obtain ⟨m, rfl⟩ := h; exact below_drewN (Below.refl _ _) _

end Go.Proofs.YtgbepebihlmedaaDoor
