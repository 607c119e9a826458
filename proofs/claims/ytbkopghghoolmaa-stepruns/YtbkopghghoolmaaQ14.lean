/- The law: each step touches the cells once at most; a task ends behind just as many steps as it has. -/
import Derived.Test.YtbkopghghoolmaaQ13
namespace Go.Proofs.Ytbkopghghoolmaa
open Go.RowKit

def zeroS : ASt := ⟨[0, 0, 0, 0], 0, fun _ => 0⟩

section
variable {B p c sb ns : Nat} {LL : List Nat}
theorem AI.again {r : Nat} {s : ASt} {w : World} (h : AI p c sb ns r s w) (q : Nat) (hk : s.k + q ≤ 4611686018427387904) : AI p c sb ns q s w := ⟨h.ar, hk, h.sum, h.fit⟩
end

section
variable {B p c sb ns : Nat} {LL : List Nat}
theorem am_endedX (j : Nat) (xs : List Act4) (i : Nat) : (AM B p c sb ns LL).ended (j, xs.drop i) = decide (xs.length ≤ i) := by
  have := am_ended (B := B) (p := p) (c := c) (sb := sb) (ns := ns) (LL := LL) j xs zeroS 0 i
  rw [am_run] at this
  exact this
end

/-- an arena and a sum that have just been made. -/
structure Fresh1 (w : World) (N : Nat) (W : World) : Prop where
  ai : AI (N + 1) N (N + 2) 1 1000 zeroS W
  be : Below w.heap.size w W
  size : W.heap.size = N + 3
  le : w.heap.size ≤ N
theorem fresh1 {w w1 w2 : World} (h : Below w.heap.size w w1) (hm : Made w1 4 w2) : Fresh1 w w1.heap.size (w2.alloc (.cells #[.int .u64 0] 44)) := by
  obtain ⟨h1, h2, h3⟩ := hm
  have hs := h.size
  refine ⟨⟨h1.turn (L := []) ((Turns.refl _ _).alloc _) (by simp) (by simp), by decide, ?_, fun _ => by simp [N64, zeroS]⟩, (h.trans (h2.mono hs)).alloc (by omega) _, by simp; omega, hs⟩
  exact Lies.new_at _ _ h3

end Go.Proofs.Ytbkopghghoolmaa
