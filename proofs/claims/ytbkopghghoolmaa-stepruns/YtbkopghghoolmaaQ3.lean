/- Tasks: New, Step, Finish. -/
import Derived.Test.YtbkopghghoolmaaQ2
namespace Go.Proofs.Ytbkopghghoolmaa
open Go.RowKit

/-- a value that code has. -/
def IsCode (v : Value) : Prop := v = .nilFunc ∨ ∃ g cap, v = .func (.func g) #[] cap

theorem newtask_any (v : Value) (hv : IsCode v) (w : World) :
    Calls Try.prog 8 #[v] w fun e w' => e = .returned (.pointer (some ⟨w.heap.size, 0, none⟩)) ∧ w.alloc (.cells #[v, .int .i64 0] 67) = w' := by
  rcases hv with rfl | ⟨g, cap, rfl⟩
  all_goals
    go_enter Try.func8, Try.ntmps8
    go_wp2
    go_ret
    exact ⟨rfl, rfl⟩

section
variable {St Pr : Type} {M : Mc St Pr} {m : Nat} {q : Pr} {d t : Nat} {w : World}

theorem CodeAt.code {v : Value} (h : CodeAt M m q v w) : IsCode v := by
  rcases h.shape with ⟨_, h⟩ | ⟨_, h⟩
  · exact .inl h
  · exact .inr h

theorem TaskAt.made {v : Value} (h : CodeAt M m q v w) (hL : ∀ b, b ∈ M.LL → b < w.heap.size) (hB : M.B ≤ w.heap.size) : TaskAt M m q 0 w.heap.size (w.alloc (.cells #[v, .int .i64 0] 67)) := by
  refine ⟨⟨v, Lies.new _ _ _, h.moves (Moves.of_turns ((Turns.refl [] w).alloc _) (by simp))⟩, fun hm => ?_, hB⟩
  have := hL _ hm
  omega

theorem task_put {v : Value} {n : Int} {u : Value} {j : Nat} (h : Lies w t 67 #[v, .int .i64 n]) (L : List Nat) {B : Nat} (hB : B ≤ t) : Moves B L w (w.setCell ⟨t, j, none⟩ u) :=
  Moves.of_turns ((Turns.refl [t] w).setCell (.inl (by simp)) u) (fun b hb => by
    simp at hb
    subst hb
    exact .inr (.inr ⟨hB, _, _, task_loose, h⟩))

theorem step_any {r : Nat} {s : St} (hM : M.Ok) (h : TaskAt M (m + 1) q d t w) (hi : M.I (r + 1) s w) (hd : d < 4611686018427387904) :
    Calls Try.prog 32 #[.pointer (some ⟨t, 0, none⟩)] w fun e w' => e = .returned (.bool (M.ended (stepQ M q s))) ∧
      TaskAt M m (stepQ M q s) (stepD M q d) t w' ∧ M.I r (stepS M q s) w' ∧ Turns (t :: M.L) w w' ∧ Moves M.B M.LL w w' := by
  have c1 := ended_any h
  obtain ⟨v, h1, h2⟩ := h.at_
  rcases h2 with ⟨hq, rfl⟩ | ⟨hq, g, cap, rfl, hE, hs⟩
  · rw [hq] at c1
    have e1 : stepQ M q s = q := by simp [stepQ, hq]
    have e2 : stepD M q d = d := by simp [stepD, hq]
    have e3 : stepS M q s = s := by simp [stepS, hq]
    rw [e1, e2, e3, hq]
    clear e1 e2 e3
    have hh := Lib.hid (show TaskAt M m q d t w ∧ M.I r s w from ⟨h.less, hM.less _ _ _ hi⟩)
    clear h hi hq h1
    go_enter Try.func32, Try.ntmps32
    go_wp2_with fail
    refine c1.mono ?_
    rintro e w' ⟨rfl, rfl⟩
    go_wp2_with fail
    refine c1.mono ?_
    rintro e w' ⟨rfl, rfl⟩
    go_wp2
    go_ret
    exact ⟨rfl, hh.out.1, hh.out.2, Turns.refl _ _, Moves.refl _ _ _⟩
  · rw [hq] at c1
    have e1 : stepQ M q s = (M.step q s).1 := by simp [stepQ, hq]
    have e2 : stepD M q d = d + 1 := by simp [stepD, hq]
    have e3 : stepS M q s = (M.step q s).2 := by simp [stepS, hq]
    rw [e1, e2, e3]
    clear e1 e2 e3
    have c2 := hs w s r (Moves.refl _ _ _) hi
    have k0 := h1.cell 0
    have k1 := h1.cell 1
    simp at k0 k1
    have kl := h1.lt
    have HO := Lib.hid h.out
    have HB := Lib.hid h.base
    have HL : t ∉ M.L := fun hm => h.out (hM.sub _ hm)
    have HM := Lib.hid hM
    have H1 := Lib.hid h1
    clear hs hi h hM hq h1
    generalize (M.step q s).1 = q' at *
    generalize (M.step q s).2 = s' at *
    unfold Then Ent at *
    go_enter Try.func32, Try.ntmps32
    go_wp2_with fail
    refine c1.mono ?_
    rintro e w' ⟨rfl, rfl⟩
    go_wp2_with fail
    refine c2.mono ?_
    rintro e w1 ⟨v', rfl, ⟨hi1, hc1⟩, t1⟩
    have L1 := H1.out.turn t1 HL
    have d0 := L1.cell 0
    have d1 := L1.cell 1
    have f0 := L1.frozen 0
    have f1 := L1.frozen 1
    simp at d0 d1
    have M1 := Lib.hid (Moves.of_turns (B := M.B) (L := M.LL) t1 (fun b hb => .inl (HM.out.sub b hb)))
    have P1 := Lib.hid ((L1.set 0 v').set 1 (.int .i64 ((d + 1 : Nat) : Int)))
    have Q1 := Lib.hid (task_put (j := 0) (u := v') L1 M.LL HB.out)
    have Q2 := Lib.hid (task_put (j := 1) (u := .int .i64 ((d + 1 : Nat) : Int)) (v := v') (n := d) (by have := L1.set 0 v'; simpa using this) M.LL HB.out)
    have R1 := Lib.hid (task_put (j := 0) (u := v') L1 [] HB.out)
    have R2 := Lib.hid (task_put (j := 1) (u := .int .i64 ((d + 1 : Nat) : Int)) (v := v') (n := d) (by have := L1.set 0 v'; simpa using this) [] HB.out)
    have HT : TaskAt M m q' (d + 1) t ((w1.setCell ⟨t, 0, none⟩ v').setCell ⟨t, 1, none⟩ (.int .i64 ((d + 1 : Nat) : Int))) := ⟨⟨v', by have := P1.out; simpa using this, hc1.moves (Q1.out.trans Q2.out)⟩, HO.out, HB.out⟩
    have c3 := ended_any HT
    have HT := Lib.hid HT
    have HI := Lib.hid (HM.out.task _ _ _ _ (R1.out.trans R2.out) hi1)
    have HTT := Lib.hid (((t1.more (L' := t :: M.L) (fun b hb => .inl (by simp [hb]))).setCell (p := ⟨t, 0, none⟩) (.inl (by simp)) v').setCell (p := ⟨t, 1, none⟩) (.inl (by simp)) (.int .i64 ((d + 1 : Nat) : Int)))
    have HMM := Lib.hid ((M1.out.trans Q1.out).trans Q2.out)
    have HC := hc1.code
    rw [show (((d + 1 : Nat)) : Int) = (d : Int) + 1 by omega] at HT HI HTT HMM c3
    clear hc1 P1 Q1 Q2 R1 R2 M1 L1 hi1 H1 HM c1 c2
    have y1 := fun (a : Addr) (w : World) => run_store Try.prog w a .nilFunc .plain rfl
    have y2 := fun (a : Addr) (f : FuncId) (c : Array Value) (w : World) => run_store Try.prog w a (.func (.func f) #[] c) .plain rfl
    rcases HC with rfl | ⟨g', cap', rfl⟩
    all_goals
      go_wp2_with fail
      refine c3.mono ?_
      rintro e w' ⟨rfl, rfl⟩
      go_wp2
      go_ret
      exact ⟨rfl, HT.out, HI.out, HTT.out, HMM.out⟩
end

end Go.Proofs.Ytbkopghghoolmaa
