/- Events: which ones are right is what the document says. -/
import Derived.Test.YtiaknnhfbfoeiaaDoorE9
import Derived.Test.YtiaknnhfbfoeiaaDoorE5
namespace Go.Proofs.YtiaknnhfbfoeiaaDoor
set_option maxRecDepth 100000

/-- the fields' number, by kind, operation, and whether the error is nothing. -/
def flT (k o : Nat) (z : Bool) : Int := if fb (tF k o) 256 && !z then bits .andNot .u16 (tF k o) 24 else tF k o
def mdN (o : Nat) : Bool := o == 1 || o == 3
def in2 (o : Nat) : Bool := o == 2 || o == 3 || o == 4
def in1 (o : Nat) : Bool := o == 1 || o == 3 || o == 4
/-- all fields, one by one. -/
def tabOk (k o : Nat) (z : Bool) : Bool :=
  let l := flT k o z
  let ok := (k == 1 && o == 0) || (k == 4 && o == 0) || ((k == 2 || k == 5) && (1 ≤ o && o ≤ 7)) || (k == 3 && (1 ≤ o && o ≤ 4))
  ((l == 0) == !ok) && (!ok || (
    fb l 1 == !(k == 1) && fb l 2 == !(o == 0) &&
    fb l 4 == (k == 4 || (k == 2 && in2 o || k == 3 && in2 o)) &&
    fb l 8 == (((k == 3 || k == 5) && mdN o) && z) &&
    fb l 16 == (k == 1 || k == 4 || k == 2 && mdN o || (k == 3 && mdN o) && z || k == 5 && (o == 6 || o == 7)) &&
    fb l 32 == (k == 2 && (o == 1 || o == 4)) &&
    fb l 64 == (k == 4 || k == 2 && o == 1) &&
    fb l 128 == ((k == 3 || k == 5) && o == 2) &&
    fb l 256 == ((k == 3 || k == 5) && in1 o) &&
    fb (tN k) 1 && fb (tN k) 4 == !(k == 2 || k == 3) && fb (tN k) 8 && fb (tN k) 16 == !(k == 2) && fb (tN k) 32 == !(k == 2) && fb (tN k) 64 == !(k == 2) && fb (tN k) 256))
theorem tab_all : ∀ k, k < 6 → ∀ o, o < 8 → ∀ z, tabOk k o z = true := by decide +kernel

theorem fl_flT {x : Ev} {kk oo : Nat} (hk : x.k = (kk : Nat)) (ho : x.o = (oo : Nat)) (h1 : kk < 6) (h2 : oo < 8) : x.fl = flT kk oo (x.e == 0) := by
  have e0 : x.fl0 = tF kk oo := by
    unfold Ev.fl0
    rw [if_neg (by omega), hk, ho]
    rfl
  unfold Ev.fl flT
  rw [e0]
  by_cases he : x.e = 0
  · simp [he]
  · have : (x.e == 0) = false := by simpa using he
    simp [he, this]
theorem keepI (l f v : Int) : (v == kI l f v) = (fb l f || v == 0) := by
  unfold kI
  cases fb l f <;> simp
theorem keepB (l f : Int) (v : Bool) : (v == kB l f v) = (fb l f || !v) := by
  unfold kB
  cases fb l f <;> cases v <;> rfl
theorem eqb_only (x : Ev) (l : Int) : eqb x (x.only l) = ((fb l 1 || x.w == 0) && ((fb l 2 || x.o == 0) && (((fb l 4 || x.hn == 0) && (fb l 4 || x.hg == 0)) && (((fb l 8 || x.nn == 0) && (fb l 8 || x.ng == 0)) && ((fb l 16 || x.t == 0) && ((fb l 32 || x.a == 0) && ((fb l 64 || x.u == 0) && ((fb l 128 || !x.y) && (fb l 256 || x.e == 0))))))))) := by
  unfold eqb Ev.only
  simp only [keepI, keepB, beq_self_eq_true, Bool.true_and]
theorem bdK_of (x : Ev) (k : Nat) : x.bdK k = (decide ((if k = 5 then -1 else 0) ≤ kI (tN k) 16 x.t) && (decide (0 ≤ kI (tN k) 1 x.w) && decide (0 ≤ kI (tN k) 4 x.hn) && decide (0 ≤ kI (tN k) 4 x.hg) && decide (0 ≤ kI (tN k) 8 x.nn) && decide (0 ≤ kI (tN k) 8 x.ng) && decide (0 ≤ kI (tN k) 32 x.a) && decide (0 ≤ kI (tN k) 64 x.u) && decide (0 ≤ kI (tN k) 256 x.e))) := rfl
theorem kindB_in {x : Ev} (h : kindB x = true) : 1 ≤ x.k ∧ x.k ≤ 5 ∧ 0 ≤ x.o ∧ x.o ≤ 7 := by
  unfold kindB at h
  simp at h
  omega
theorem right_out {x : Ev} (h : ¬ (1 ≤ x.k ∧ x.k ≤ 5 ∧ 0 ≤ x.o ∧ x.o ≤ 7)) : rightR x = false := by
  unfold rightR
  cases hk : kindB x with
  | true => exact absurd (kindB_in hk) h
  | false => rfl
theorem right_in (x : Ev) {kk oo : Nat} (hk : x.k = (kk : Nat)) (ho : x.o = (oo : Nat)) (h1 : kk < 6) (h2 : oo < 8) : x.rightC = rightR x := by
  have T := tab_all kk h1 oo h2 (x.e == 0)
  have e1 := fl_flT hk ho h1 h2
  unfold Ev.rightC
  rw [e1, eqb_only, show x.k.toNat = kk by omega, bdK_of]
  unfold rightR kindB emptyB more2 none4 hasH hasN hasT hasA hasU hasY hasE mdB leastR kI
  rw [hk, ho]
  obtain ⟨k, w, o, hn, hg, nn, ng, t, a, u, y, e⟩ := x
  dsimp only at *
  clear hk ho e1
  generalize hz : (e == 0) = z at *
  rcases (by omega : kk = 0 ∨ kk = 1 ∨ kk = 2 ∨ kk = 3 ∨ kk = 4 ∨ kk = 5) with rfl | rfl | rfl | rfl | rfl | rfl
  all_goals
    rcases (by omega : oo = 0 ∨ oo = 1 ∨ oo = 2 ∨ oo = 3 ∨ oo = 4 ∨ oo = 5 ∨ oo = 6 ∨ oo = 7) with rfl | rfl | rfl | rfl | rfl | rfl | rfl | rfl
    all_goals
      unfold tabOk at T
      generalize flT _ _ _ = l at *
      cases z
      all_goals
        simp [mdN, in1, in2] at T hz
        first
        | (simp [T, inB, hz]; done)
        | (cases y
           all_goals
             simp [T, inB, hz]
             try (rw [Bool.eq_iff_iff]; simp; omega))
theorem right_eq (x : Ev) : x.rightC = rightR x := by
  by_cases h : 1 ≤ x.k ∧ x.k ≤ 5 ∧ 0 ≤ x.o ∧ x.o ≤ 7
  · exact right_in x (kk := x.k.toNat) (oo := x.o.toNat) (by omega) (by omega) (by omega) (by omega)
  · rw [right_out h]
    by_cases h2 : 0 ≤ x.k ∧ x.k ≤ 5 ∧ 0 ≤ x.o ∧ x.o ≤ 7
    · rw [right_in x (kk := x.k.toNat) (oo := x.o.toNat) (by omega) (by omega) (by omega) (by omega), right_out h]
    · have hf : x.fl = 0 := Classical.byContradiction fun hne => h2 (Ev.fl_in hne)
      unfold Ev.rightC
      rw [hf]
      rfl

/-- of an event that is right: its fields are those that the document tells. -/
theorem flags_in (x : Ev) {kk oo : Nat} (hk : x.k = (kk : Nat)) (ho : x.o = (oo : Nat)) (h1 : kk < 6) (h2 : oo < 8) (hne : x.fl ≠ 0) : fb x.fl 1 = (x.k != 1) ∧ fb x.fl 2 = decide (0 < x.o) ∧ fb x.fl 4 = hasH x ∧ fb x.fl 8 = hasN x ∧ fb x.fl 16 = hasT x ∧ fb x.fl 32 = hasA x ∧ fb x.fl 64 = hasU x ∧ fb x.fl 128 = hasY x ∧ fb x.fl 256 = hasE x := by
  have T := tab_all kk h1 oo h2 (x.e == 0)
  have e1 := fl_flT hk ho h1 h2
  rw [e1] at hne ⊢
  unfold hasH hasN hasT hasA hasU hasY hasE mdB
  rw [hk, ho]
  obtain ⟨k, w, o, hn, hg, nn, ng, t, a, u, y, e⟩ := x
  dsimp only at *
  clear hk ho e1
  generalize hz : (e == 0) = z at *
  rcases (by omega : kk = 0 ∨ kk = 1 ∨ kk = 2 ∨ kk = 3 ∨ kk = 4 ∨ kk = 5) with rfl | rfl | rfl | rfl | rfl | rfl
  all_goals
    rcases (by omega : oo = 0 ∨ oo = 1 ∨ oo = 2 ∨ oo = 3 ∨ oo = 4 ∨ oo = 5 ∨ oo = 6 ∨ oo = 7) with rfl | rfl | rfl | rfl | rfl | rfl | rfl | rfl
    all_goals
      unfold tabOk at T
      generalize flT _ _ _ = l at *
      cases z
      all_goals
        simp [mdN, in1, in2] at T
        first
        | exact absurd T hne
        | (simp [T, inB]; done)
theorem flags_of {x : Ev} (hne : x.fl ≠ 0) : fb x.fl 1 = (x.k != 1) ∧ fb x.fl 2 = decide (0 < x.o) ∧ fb x.fl 4 = hasH x ∧ fb x.fl 8 = hasN x ∧ fb x.fl 16 = hasT x ∧ fb x.fl 32 = hasA x ∧ fb x.fl 64 = hasU x ∧ fb x.fl 128 = hasY x ∧ fb x.fl 256 = hasE x := by
  have h := Ev.fl_in hne
  exact flags_in x (kk := x.k.toNat) (oo := x.o.toNat) (by omega) (by omega) (by omega) (by omega) hne

end Go.Proofs.YtiaknnhfbfoeiaaDoor
