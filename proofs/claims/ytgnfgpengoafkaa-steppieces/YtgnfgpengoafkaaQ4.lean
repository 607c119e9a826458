/- Tasks: Finish and Run. -/
import Derived.Test.YtgnfgpengoafkaaQ3
import Derived.LoopN
namespace Go.Proofs.Ytgnfgpengoafkaa
open Go.RowKit

section
variable {St Pr : Type} (M : Mc St Pr)
/-- behind so many steps, as long as there are any. -/
def runN (q : Pr) (s : St) (d : Nat) : Nat → Pr × St × Nat
  | 0 => (q, s, d)
  | j + 1 => let c := runN q s d j; (stepQ M c.1 c.2.1, stepS M c.1 c.2.1, stepD M c.1 c.2.2)
variable {M}
theorem runN_ended {q : Pr} {s : St} {d j : Nat} (h : M.ended (runN M q s d j).1 = true) : ∀ i, runN M q s d (j + i) = runN M q s d j
  | 0 => rfl
  | i + 1 => by
    show (stepQ M (runN M q s d (j + i)).1 (runN M q s d (j + i)).2.1, stepS M (runN M q s d (j + i)).1 (runN M q s d (j + i)).2.1, stepD M (runN M q s d (j + i)).1 (runN M q s d (j + i)).2.2) = _
    rw [runN_ended h i]
    simp [stepQ, stepS, stepD, h]
theorem runN_d {q : Pr} {s : St} {d : Nat} : ∀ j, (runN M q s d j).2.2 ≤ d + j
  | 0 => Nat.le_refl _
  | j + 1 => by
    have := runN_d (q := q) (s := s) (d := d) j
    show stepD M _ _ ≤ _
    unfold stepD
    split <;> omega

/-- a task that is under way: j steps were done since. -/
structure Under (M : Mc St Pr) (m : Nat) (q : Pr) (s : St) (d t : Nat) (w : World) (j : Nat) (W : World) : Prop where
  tk : TaskAt M (m - j) (runN M q s d j).1 (runN M q s d j).2.2 t W
  inv : M.I (m - j) (runN M q s d j).2.1 W
  tu : Turns (t :: M.L) w W
  mo : Moves M.B M.LL w W

theorem Under.next {m : Nat} {q : Pr} {s : St} {d t j : Nat} {w W : World} (hM : M.Ok) (h : Under M m q s d t w j W) (hj : j < m) (hd : d + m < 4611686018427387904) :
    Calls Try.prog 20 #[.pointer (some ⟨t, 0, none⟩)] W fun e w' => e = .returned (.bool (M.ended (runN M q s d (j + 1)).1)) ∧ Under M m q s d t w (j + 1) w' := by
  have h1 := h.tk
  have h2 := h.inv
  rw [show m - j = (m - (j + 1)) + 1 by omega] at h1 h2
  have := runN_d (M := M) (q := q) (s := s) (d := d) j
  refine (step_any hM h1 h2 (by omega)).mono ?_
  rintro e w' ⟨he, a1, a2, a3, a4⟩
  exact ⟨he, a1, a2, h.tu.trans a3, h.mo.trans a4⟩

theorem finish_any {m : Nat} {q : Pr} {s : St} {d t : Nat} {w : World} (hM : M.Ok) (most : Int) (hmost : most ≤ 9223372036854775807) (h : TaskAt M (m + 1) q d t w) (hi : M.I (m + 1) s w) (hd : d + (m + 1) < 4611686018427387904)
    (hm : most ≤ m ∨ M.ended (runN M q s d m).1 = true) :
    Calls Try.prog 21 #[.pointer (some ⟨t, 0, none⟩), .int .i64 most] w fun e w' => e = .returned (.bool (M.ended (runN M q s d most.toNat).1)) ∧
      TaskAt M 0 (runN M q s d most.toNat).1 (runN M q s d most.toNat).2.2 t w' ∧ M.I 0 (runN M q s d most.toNat).2.1 w' ∧ Turns (t :: M.L) w w' ∧ Moves M.B M.LL w w' := by
  have h0 : Under M (m + 1) q s d t w 0 w := ⟨h, hi, Turns.refl _ _, Moves.refl _ _ _⟩
  have down : ∀ r (W : World) s', M.I r s' W → M.I 0 s' W := fun r => by
    induction r with
    | zero => exact fun W s' h => h
    | succ r ih => exact fun W s' h => ih W s' (hM.less _ _ _ h)
  have downT : ∀ r (W : World) q' d', TaskAt M r q' d' t W → TaskAt M 0 q' d' t W := fun r => by
    induction r with
    | zero => exact fun W q' d' h => h
    | succ r ih => exact fun W q' d' h => ih W q' d' h.less
  clear h hi
  go_enter Try.func21, Try.ntmps21
  go_wp2_with fail
  go_loopw [6] (fun i wr => ∃ j : Nat, i = .int .i64 j ∧ j ≤ m + 1 ∧ (j = 0 ∨ (j : Int) ≤ most) ∧ (j ≤ m ∨ most ≤ j) ∧ Under M (m + 1) q s d t w j wr) (fun i _ => (most - intOf i).toNat)
  case atStart => exact ⟨0, rfl, by omega, .inl rfl, by omega, h0⟩
  case round =>
    obtain ⟨j, rfl, hj, hj2, hj3, hU⟩ := hrel
    by_cases hlt : (j : Int) < most
    · have hjm : j ≤ m := by omega
      have c1 := hU.next hM (by omega) hd
      cases hb : M.ended (runN M q s d (j + 1)).1 with
      | true =>
        rw [hb] at c1
        have e1 : runN M q s d most.toNat = runN M q s d (j + 1) := by
          have := runN_ended hb (most.toNat - (j + 1))
          rwa [show j + 1 + (most.toNat - (j + 1)) = most.toNat by omega] at this
        have E1 := Lib.hid e1
        have HB := Lib.hid hb
        clear hU h0 e1 hm hb
        go_wp2_with fail
        refine c1.mono ?_
        rintro e w1 ⟨rfl, hU⟩
        have c2 := ended_any hU.tk
        rw [HB.out] at c2
        have HU := Lib.hid (And.intro (downT _ _ _ _ hU.tk) (And.intro (down _ _ _ hU.inv) (And.intro hU.tu hU.mo)))
        clear hU c1
        go_wp2_with fail
        refine c2.mono ?_
        rintro e w1 ⟨rfl, rfl⟩
        go_wp2
        go_ret
        rw [E1.out]
        exact ⟨ret_bool HB.out.symm, HU.out⟩
      | false =>
        rw [hb] at c1
        have hj4 : j + 1 ≤ m ∨ most ≤ ((j + 1 : Nat) : Int) := by
          rcases Nat.lt_or_ge j m with h1 | h1
          · exact .inl h1
          · obtain rfl : j = m := by omega
            rcases hm with h2 | h2
            · exact .inr (by omega)
            · have e1 := runN_ended h2 1
              rw [e1, h2] at hb
              cases hb
        clear hU h0 hm hb
        go_wp2_with fail
        refine c1.mono ?_
        rintro e w1 ⟨rfl, hU⟩
        go_wp2
        go_roundw
        case rel => exact ⟨j + 1, by go_num, by omega, .inr (by omega), hj4, hU⟩
        case measure => simp [intOf]; omega
    · have c2 := ended_any hU.tk
      have e1 : runN M q s d most.toNat = runN M q s d j := by
        rw [show most.toNat = j by omega]
      have E1 := Lib.hid e1
      have HU := Lib.hid (And.intro (downT _ _ _ _ hU.tk) (And.intro (down _ _ _ hU.inv) (And.intro hU.tu hU.mo)))
      obtain ⟨bb, hbb⟩ : ∃ bb, M.ended (runN M q s d j).1 = bb := ⟨_, rfl⟩
      rw [hbb] at c2
      have HB := Lib.hid hbb
      clear hU h0 e1 hm hbb
      go_wp2_with fail
      refine c2.mono ?_
      rintro e w1 ⟨rfl, rfl⟩
      go_wp2
      go_ret
      rw [E1.out]
      exact ⟨ret_bool HB.out.symm, HU.out⟩

end

end Go.Proofs.Ytgnfgpengoafkaa
