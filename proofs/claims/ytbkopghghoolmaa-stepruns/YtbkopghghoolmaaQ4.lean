/- Tasks: Finish and Run. -/
import Derived.Test.YtbkopghghoolmaaQ3
import Derived.LoopN
namespace Go.Proofs.Ytbkopghghoolmaa
open Go.RowKit

section
variable {St Pr : Type} (M : Mc St Pr)
/-- behind so many steps, as long as there are any. -/
def runN (q : Pr) (s : St) (d : Nat) : Nat → Pr × St × Nat
  | 0 => (q, s, d)
  | j + 1 => let c := runN q s d j; (stepQ M c.1 c.2.1, stepS M c.1 c.2.1, stepD M c.1 c.2.2)
variable {M}
theorem runN_ended {q : Pr} {s : St} {d j : Nat} (h : M.ended (runN M q s d j).1 = true) : ∀ i, runN M q s d (j + i) = runN M q s d j
  | 0 => rfl
  | i + 1 => by
    show (stepQ M (runN M q s d (j + i)).1 (runN M q s d (j + i)).2.1, stepS M (runN M q s d (j + i)).1 (runN M q s d (j + i)).2.1, stepD M (runN M q s d (j + i)).1 (runN M q s d (j + i)).2.2) = _
    rw [runN_ended h i]
    simp [stepQ, stepS, stepD, h]
theorem runN_d {q : Pr} {s : St} {d : Nat} : ∀ j, (runN M q s d j).2.2 ≤ d + j
  | 0 => Nat.le_refl _
  | j + 1 => by
    have := runN_d (q := q) (s := s) (d := d) j
    show stepD M _ _ ≤ _
    unfold stepD
    split <;> omega

/-- a task that is under way: j steps were done since. -/
structure Under (M : Mc St Pr) (m : Nat) (q : Pr) (s : St) (d t : Nat) (w : World) (j : Nat) (W : World) : Prop where
  tk : TaskAt M (m - j) (runN M q s d j).1 (runN M q s d j).2.2 t W
  inv : M.I (m - j) (runN M q s d j).2.1 W
  tu : Turns (t :: M.L) w W
  mo : Moves M.B M.LL w W

theorem Under.next {m : Nat} {q : Pr} {s : St} {d t j : Nat} {w W : World} (hM : M.Ok) (h : Under M m q s d t w j W) (hj : j < m) (hd : d + m < 4611686018427387904) :
    Calls Try.prog 32 #[.pointer (some ⟨t, 0, none⟩)] W fun e w' => e = .returned (.bool (M.ended (runN M q s d (j + 1)).1)) ∧ Under M m q s d t w (j + 1) w' := by
  have h1 := h.tk
  have h2 := h.inv
  rw [show m - j = (m - (j + 1)) + 1 by omega] at h1 h2
  have := runN_d (M := M) (q := q) (s := s) (d := d) j
  refine (step_any hM h1 h2 (by omega)).mono ?_
  rintro e w' ⟨he, a1, a2, a3, a4⟩
  exact ⟨he, a1, a2, h.tu.trans a3, h.mo.trans a4⟩

end

end Go.Proofs.Ytbkopghghoolmaa
