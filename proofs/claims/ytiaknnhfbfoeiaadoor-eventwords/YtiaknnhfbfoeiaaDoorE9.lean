/- Events, the document's: is an event right? -/
import Derived.Test.YtiaknnhfbfoeiaaDoorE8
namespace Go.Proofs.YtiaknnhfbfoeiaaDoor
open Go.RowKit Go.ChangeShapes Go.WideShapes
set_option maxRecDepth 100000

def kindB (x : Ev) : Bool := (x.k == 1 && (x.o == 0 && x.w == 0)) || (x.k == 4 && x.o == 0) || ((x.k == 2 || x.k == 5) && (decide (1 ≤ x.o) && decide (x.o ≤ 7))) || (x.k == 3 && (decide (1 ≤ x.o) && decide (x.o ≤ 4)))
def leastR (k : Int) : Int := if k = 5 then -1 else 0
def rightR (x : Ev) : Bool := kindB x && emptyB x && decide (0 ≤ x.w) && decide (0 ≤ x.e) && (x.k == 2 || ((x.k == 3 || (decide (0 ≤ x.hn) && decide (0 ≤ x.hg))) && (decide (0 ≤ x.nn) && decide (0 ≤ x.ng) && decide (0 ≤ x.a) && decide (0 ≤ x.u) && decide (leastR x.k ≤ x.t))))

set_option maxHeartbeats 4000000 in
theorem kind_any (x : Ev) (w : World) : Calls Tryd.prog 22 #[.agg x.c] w fun e w' => e = .returned (.bool (kindB x)) ∧ Below w.heap.size w w' := by
  obtain ⟨k, ww, o, hn, hg, nn, ng, t, a, u, y, er⟩ := x
  show Calls Tryd.prog 22 #[.agg #[.int .i64 k, .int .i64 ww, .int .i64 o, .int .i64 hn, .int .i64 hg, .int .i64 nn, .int .i64 ng, .int .i64 t, .int .i64 a, .int .i64 u, .bool y, .int .i64 er]] w _
  have bx : ∀ ob : Obj, Below w.heap.size w (w.alloc ob) := fun ob => (Below.refl _ _).alloc (Nat.le_refl _) _
  unfold kindB
  dsimp only
  by_cases h1 : k = 1
  · subst h1
    go_enter Tryd.func22, Tryd.ntmps22
    go_wp2_with fail
    all_goals
      go_ret
      refine ⟨?_, bx _⟩
      first
      | (simp [*]; done)
      | (show Ending.returned (.bool _) = Ending.returned (.bool _); refine congrArg (fun b => Ending.returned (.bool b)) ?_; rw [Bool.eq_iff_iff]; simp; omega)
      | (trace_state; sorry)
  have hb1 : (k == 1) = false := by simpa using h1
  by_cases h4 : k = 4
  · subst h4
    go_enter Tryd.func22, Tryd.ntmps22
    go_wp2_with fail
    all_goals
      go_ret
      refine ⟨?_, bx _⟩
      first
      | (simp [*]; done)
      | (show Ending.returned (.bool _) = Ending.returned (.bool _); refine congrArg (fun b => Ending.returned (.bool b)) ?_; rw [Bool.eq_iff_iff]; simp; omega)
      | (trace_state; sorry)
  have hb4 : (k == 4) = false := by simpa using h4
  by_cases h2 : k = 2
  · subst h2
    go_enter Tryd.func22, Tryd.ntmps22
    go_wp2_with fail
    all_goals
      go_ret
      refine ⟨?_, bx _⟩
      first
      | (simp [*]; done)
      | (show Ending.returned (.bool _) = Ending.returned (.bool _); refine congrArg (fun b => Ending.returned (.bool b)) ?_; rw [Bool.eq_iff_iff]; simp; omega)
      | (trace_state; sorry)
  have hb2 : (k == 2) = false := by simpa using h2
  by_cases h5 : k = 5
  · subst h5
    go_enter Tryd.func22, Tryd.ntmps22
    go_wp2_with fail
    all_goals
      go_ret
      refine ⟨?_, bx _⟩
      first
      | (simp [*]; done)
      | (show Ending.returned (.bool _) = Ending.returned (.bool _); refine congrArg (fun b => Ending.returned (.bool b)) ?_; rw [Bool.eq_iff_iff]; simp; omega)
      | (trace_state; sorry)
  have hb5 : (k == 5) = false := by simpa using h5
  by_cases h3 : k = 3
  · subst h3
    go_enter Tryd.func22, Tryd.ntmps22
    go_wp2_with fail
    all_goals
      go_ret
      refine ⟨?_, bx _⟩
      first
      | (simp [*]; done)
      | (show Ending.returned (.bool _) = Ending.returned (.bool _); refine congrArg (fun b => Ending.returned (.bool b)) ?_; rw [Bool.eq_iff_iff]; simp; omega)
      | (trace_state; sorry)
  have hb3 : (k == 3) = false := by simpa using h3
  clear h1 h4 h2 h5 h3
  go_enter Tryd.func22, Tryd.ntmps22
  go_wp2_with fail
  all_goals
    go_ret
    refine ⟨?_, bx _⟩
    first
    | (simp [*]; done)
    | (show Ending.returned (.bool _) = Ending.returned (.bool _); refine congrArg (fun b => Ending.returned (.bool b)) ?_; rw [Bool.eq_iff_iff]; simp; omega)
    | (trace_state; sorry)

set_option maxHeartbeats 8000000 in
theorem refright_any (x : Ev) (w : World) : Calls Tryd.prog 10 #[.agg x.c] w fun e w' => e = .returned (.bool (rightR x)) ∧ Below w.heap.size w w' := by
  obtain ⟨k, ww, o, hn, hg, nn, ng, t, a, u, y, er⟩ := x
  show Calls Tryd.prog 10 #[.agg #[.int .i64 k, .int .i64 ww, .int .i64 o, .int .i64 hn, .int .i64 hg, .int .i64 nn, .int .i64 ng, .int .i64 t, .int .i64 a, .int .i64 u, .bool y, .int .i64 er]] w _
  unfold rightR
  obtain ⟨bk, bkh⟩ : ∃ b, kindB ⟨k, ww, o, hn, hg, nn, ng, t, a, u, y, er⟩ = b := ⟨_, rfl⟩
  obtain ⟨be, beh⟩ : ∃ b, emptyB ⟨k, ww, o, hn, hg, nn, ng, t, a, u, y, er⟩ = b := ⟨_, rfl⟩
  have cK : ∀ W, Calls Tryd.prog 22 #[.agg (Ev.c ⟨k, ww, o, hn, hg, nn, ng, t, a, u, y, er⟩)] W fun e w' => e = .returned (.bool bk) ∧ Below W.heap.size W w' := fun W => by rw [← bkh]; exact kind_any ⟨k, ww, o, hn, hg, nn, ng, t, a, u, y, er⟩ W
  have cE : ∀ W, Calls Tryd.prog 23 #[.agg (Ev.c ⟨k, ww, o, hn, hg, nn, ng, t, a, u, y, er⟩)] W fun e w' => e = .returned (.bool be) ∧ Below W.heap.size W w' := fun W => by rw [← beh]; exact empty_any ⟨k, ww, o, hn, hg, nn, ng, t, a, u, y, er⟩ W
  rw [bkh, beh]
  clear bkh beh
  dsimp only
  obtain ⟨lt, hlt⟩ : ∃ lt, leastR k = lt := ⟨_, rfl⟩
  rw [hlt]
  have HLT := Lib.hid hlt
  clear hlt
  obtain ⟨rr, hrr⟩ : ∃ rr, (bk && be && decide (0 ≤ ww) && decide (0 ≤ er) && (k == 2 || ((k == 3 || (decide (0 ≤ hn) && decide (0 ≤ hg))) && (decide (0 ≤ nn) && decide (0 ≤ ng) && decide (0 ≤ a) && decide (0 ≤ u) && decide (lt ≤ t))))) = rr := ⟨_, rfl⟩
  rw [hrr]
  have HRR := Lib.hid hrr
  clear hrr
  obtain ⟨W1, hW1⟩ : ∃ W1, w.alloc (.cells #[.int .i64 k, .int .i64 ww, .int .i64 o, .int .i64 hn, .int .i64 hg, .int .i64 nn, .int .i64 ng, .int .i64 t, .int .i64 a, .int .i64 u, .bool y, .int .i64 er] 25) = W1 := ⟨_, rfl⟩
  have l1 : Lies W1 w.heap.size 25 (Ev.c ⟨k, ww, o, hn, hg, nn, ng, t, a, u, y, er⟩) := by rw [← hW1]; exact Lies.new _ _ _
  have bW : Below w.heap.size w W1 := by rw [← hW1]; exact (Below.refl _ _).alloc (by simp) _
  have HW1 := Lib.hid hW1
  clear hW1
  obtain ⟨f0, f1, f2, f3, f4, f5, f6, f7, f8, f9, fa, fbb⟩ := cellsX l1
  go_enter Tryd.func10, Tryd.ntmps10
  go_upto_region 1 with (fail)
  try rw [HW1.out]
  clear HW1
  go_wp2_with fail
  refine (show Calls Tryd.prog 22 #[.agg (Ev.c ⟨k, ww, o, hn, hg, nn, ng, t, a, u, y, er⟩)] _ _ from cK _).mono ?_
  rintro e wn ⟨rfl, bb⟩
  have l1 := l1.below bb l1.lt
  have bW := bW.trans (bb.mono bW.size)
  clear f0 f1 f2 f3 f4 f5 f6 f7 f8 f9 fa fbb
  obtain ⟨f0, f1, f2, f3, f4, f5, f6, f7, f8, f9, fa, fbb⟩ := cellsX l1
  cases bk with
  | false =>
    go_wp2_with fail
    go_ret
    refine ⟨?_, bW⟩
    rw [← HRR.out]
    first
    | (simp [*]; done)
    | (show Ending.returned (.bool _) = Ending.returned (.bool _); refine congrArg (fun b => Ending.returned (.bool b)) ?_; rw [Bool.eq_iff_iff]; simp; omega)
    | (trace_state; sorry)
  | true =>
    go_wp2_with fail
    refine (show Calls Tryd.prog 23 #[.agg (Ev.c ⟨k, ww, o, hn, hg, nn, ng, t, a, u, y, er⟩)] _ _ from cE _).mono ?_
    rintro e wn ⟨rfl, bb⟩
    have l1 := l1.below bb l1.lt
    have bW := bW.trans (bb.mono bW.size)
    clear f0 f1 f2 f3 f4 f5 f6 f7 f8 f9 fa fbb
    obtain ⟨f0, f1, f2, f3, f4, f5, f6, f7, f8, f9, fa, fbb⟩ := cellsX l1
    cases be with
    | false =>
      go_wp2_with fail
      go_ret
      refine ⟨?_, bW⟩
      rw [← HRR.out]
      first
      | (simp [*]; done)
      | (show Ending.returned (.bool _) = Ending.returned (.bool _); refine congrArg (fun b => Ending.returned (.bool b)) ?_; rw [Bool.eq_iff_iff]; simp; omega)
      | (trace_state; sorry)
    | true =>
      by_cases hw0 : ww < 0
      · skip
        go_wp2_with fail
        go_ret
        refine ⟨?_, bW⟩
        rw [← HRR.out]
        first
        | (simp [*]; done)
        | (show Ending.returned (.bool _) = Ending.returned (.bool _); refine congrArg (fun b => Ending.returned (.bool b)) ?_; rw [Bool.eq_iff_iff]; simp; omega)
        | (trace_state; sorry)
      · by_cases he0 : er < 0
        · skip
          go_wp2_with fail
          go_ret
          refine ⟨?_, bW⟩
          rw [← HRR.out]
          first
          | (simp [*]; done)
          | (show Ending.returned (.bool _) = Ending.returned (.bool _); refine congrArg (fun b => Ending.returned (.bool b)) ?_; rw [Bool.eq_iff_iff]; simp; omega)
          | (trace_state; sorry)
        · have hw1 : 0 ≤ ww := by omega
          have he1 : 0 ≤ er := by omega
          by_cases h5 : k = 5
          · have hl := HLT.out
            subst h5
            have hl : -1 = lt := hl
            subst hl
            go_wp2_with fail
            all_goals
              go_ret
              refine ⟨?_, bW⟩
              rw [← HRR.out]
              first
              | (simp [*]; done)
              | (show Ending.returned (.bool _) = Ending.returned (.bool _); refine congrArg (fun b => Ending.returned (.bool b)) ?_; rw [Bool.eq_iff_iff]; simp; omega)
              | (trace_state; sorry)
          have hb5 : (k == 5) = false := by simpa using h5
          by_cases h2 : k = 2
          · have hl := HLT.out
            subst h2
            have hl : 0 = lt := hl
            subst hl
            go_wp2_with fail
            all_goals
              go_ret
              refine ⟨?_, bW⟩
              rw [← HRR.out]
              first
              | (simp [*]; done)
              | (show Ending.returned (.bool _) = Ending.returned (.bool _); refine congrArg (fun b => Ending.returned (.bool b)) ?_; rw [Bool.eq_iff_iff]; simp; omega)
              | (trace_state; sorry)
          have hb2 : (k == 2) = false := by simpa using h2
          by_cases h3 : k = 3
          · have hl := HLT.out
            subst h3
            have hl : 0 = lt := hl
            subst hl
            go_wp2_with fail
            all_goals
              go_ret
              refine ⟨?_, bW⟩
              rw [← HRR.out]
              first
              | (simp [*]; done)
              | (show Ending.returned (.bool _) = Ending.returned (.bool _); refine congrArg (fun b => Ending.returned (.bool b)) ?_; rw [Bool.eq_iff_iff]; simp; omega)
              | (trace_state; sorry)
          have hb3 : (k == 3) = false := by simpa using h3
          have hb3n : (k != 3) = true := by simpa using h3
          have hl := HLT.out
          have hl : 0 = lt := by rw [← hl]; unfold leastR; rw [if_neg h5]
          subst hl
          have hne : k ≠ 2 ∧ k ≠ 3 ∧ k ≠ 5 := ⟨h2, h3, h5⟩
          go_wp2_with fail
          all_goals
            go_ret
            refine ⟨?_, bW⟩
            rw [← HRR.out]
            first
            | (simp [*]; done)
            | (show Ending.returned (.bool _) = Ending.returned (.bool _); refine congrArg (fun b => Ending.returned (.bool b)) ?_; rw [Bool.eq_iff_iff]; simp; omega)
            | (trace_state; sorry)

end Go.Proofs.YtiaknnhfbfoeiaaDoor
