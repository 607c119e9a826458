/- Calls within a law of layer 3: what lies there lies there still. -/
import Derived.Test.YtgbepebihlmedaaDoorP9
import Derived.Deep.DeepCutAuto
import Derived.Deep.CutBlock
namespace Go.Proofs.YtgbepebihlmedaaDoor
open Go.RowKit

theorem icl_arr (C : Nat → Int) : (Tryd.prog.info? 22).map (·.size) = some (icl C).length := by kernel_rfl
theorem arr_size : (Tryd.prog.info? 22).map (·.size) = some 13 := by kernel_rfl

/-- the configuration is boxed; the table stands. -/
theorem boxed3 (C : Nat → Int) (w : World) (ht : Tab w) (t : TypeId) : Lies (w.alloc (.cells (ic C) t)) w.heap.size t (ic C) ∧ Below w.heap.size w (w.alloc (.cells (ic C) t)) ∧ Tab (w.alloc (.cells (ic C) t)) :=
  ⟨Lies.new _ _ _, (Below.refl _ _).alloc (Nat.le_refl _) _, ht.keep ((Below.refl w.heap.size w).alloc (Nat.le_refl _) _) ht.lt⟩

/-- a call within: what lies at block B lies there still. -/
structure Box (w : World) (B : Nat) (C : Nat → Int) (W : World) : Prop where
  l : Lies W B 23 (ic C)
  be : Below B w W
  t : Tab W
theorem Box.next {w : World} {B : Nat} {C : Nat → Int} {W W' : World} (h : Box w B C W) (k : Below W.heap.size W W') : Box w B C W' :=
  ⟨h.l.below k h.l.lt, h.be.trans (k.mono (Nat.le_of_lt h.l.lt)), h.t.keep k h.t.lt⟩
theorem Box.turn {w : World} {B : Nat} {C : Nat → Int} {W W' : World} {L : List Nat} (h : Box w B C W) (k : Turns L W W') (hL : ∀ x, x ∈ L → B < x) : Box w B C W' := by
  have hb : Below (B + 1) W W' := k.below (fun x hx => hL x hx) h.l.lt
  exact ⟨h.l.below hb (by omega), h.be.trans (hb.mono (by omega)), h.t.keep hb (by omega)⟩

end Go.Proofs.YtgbepebihlmedaaDoor
