/- Code as a machine; tasks that do it step by step. -/
import Derived.Test.YtbkopghghoolmaaQ1
import Derived.Test.YtbkopghghoolmaaQT
namespace Go.Proofs.Ytbkopghghoolmaa
open Go.RowKit

/-- block b, from B on, is a task (or of another loose type). -/
def IsTask (B : Nat) (w : World) (b : Nat) : Prop := B ≤ b ∧ ∃ t cs, t ∈ loose ∧ Lies w b t cs

/-- w' is w, but for blocks of L, for tasks from B on, and for new ones. -/
structure Moves (B : Nat) (L : List Nat) (w w' : World) : Prop where
  os : w'.os = w.os
  tape : w'.tape = w.tape
  output : w'.output = w.output
  size : w.heap.size ≤ w'.heap.size
  block : ∀ b, b < w.heap.size → b ∉ L → w'.heap[b]? = w.heap[b]? ∨ IsTask B w b

section
variable {B : Nat} {L L' : List Nat} {a w w' : World}
theorem IsTask.lt {b : Nat} (h : IsTask B w b) : b < w.heap.size := by obtain ⟨_, _, _, _, h⟩ := h; exact h.lt
theorem IsTask.of_same {b : Nat} (h : IsTask B w b) (e : w'.heap[b]? = w.heap[b]?) : IsTask B w' b := by
  obtain ⟨hb, t, cs, ht, h⟩ := h
  exact ⟨hb, t, cs, ht, e.trans h⟩
theorem Moves.refl (B : Nat) (L : List Nat) (w : World) : Moves B L w w := ⟨rfl, rfl, rfl, Nat.le_refl _, fun _ _ _ => .inl rfl⟩
theorem Moves.trans (h : Moves B L a w) (k : Moves B L w w') : Moves B L a w' :=
  ⟨k.os.trans h.os, k.tape.trans h.tape, k.output.trans h.output, Nat.le_trans h.size k.size, fun b hb hn => by
    rcases h.block b hb hn with e | t1
    · rcases k.block b (Nat.lt_of_lt_of_le hb h.size) hn with e2 | t3
      · exact .inl (e2.trans e)
      · exact .inr (t3.of_same e.symm)
    · exact .inr t1⟩
theorem Moves.of_turns (h : Turns L' w w') (hs : ∀ b, b ∈ L' → b ∈ L ∨ w.heap.size ≤ b ∨ IsTask B w b) : Moves B L w w' :=
  ⟨h.os, h.tape, h.output, h.size, fun b hb hn => by
    by_cases hm : b ∈ L'
    · rcases hs b hm with h1 | h1 | h1
      · exact absurd h1 hn
      · omega
      · exact .inr h1
    · exact .inl (h.block b hb hm)⟩
theorem Moves.lies {b : Nat} {t : TypeId} {cs : Array Value} (h : Moves B L w w') (k : Lies w b t cs) (hb : b ∉ L) (ht : t ∉ loose) : Lies w' b t cs := by
  rcases h.block b k.lt hb with e | ⟨_, t', ds, hl, hd⟩
  · exact e.trans k
  · unfold Lies at k hd
    rw [k] at hd
    injection hd with hd
    injection hd with _ hd
    subst hd
    exact absurd hl ht
theorem Moves.cell (h : Moves B L w w') {p : Addr} (hp : p.block < w.heap.size) (hb : p.block < B) (hn : p.block ∉ L) : w'.cell? p = w.cell? p := by
  refine World.cell?_of_block (w := w) ?_
  rcases h.block p.block hp hn with e | ⟨h1, _⟩
  · exact e
  · omega
theorem Moves.more (h : Moves B L w w') (hs : ∀ b, b ∈ L → b ∈ L') : Moves B L' w w' :=
  ⟨h.os, h.tape, h.output, h.size, fun b hb hn => h.block b hb (fun hm => hn (hs b hm))⟩
end

/-- a machine: what codes do, step by step, to a state that lies in memory. -/
structure Mc (St Pr : Type) where
  ended : Pr → Bool
  step : Pr → St → Pr × St
  /-- the state in memory, with room for so many steps more. -/
  I : Nat → St → World → Prop
  /-- what lies below isn't its own. -/
  B : Nat
  /-- which blocks it writes. -/
  L : List Nat
  /-- which blocks may be written, by it or by others. -/
  LL : List Nat

structure Mc.Ok {St Pr : Type} (M : Mc St Pr) : Prop where
  less : ∀ r s w, M.I (r + 1) s w → M.I r s w
  task : ∀ r s w w', Moves M.B [] w w' → M.I r s w → M.I r s w'
  sub : ∀ b, b ∈ M.L → b ∈ M.LL

section
variable {St Pr : Type} (M : Mc St Pr)
/-- v is code that does what q says, for so many steps. -/
def CodeAt : Nat → Pr → Value → World → Prop
  | 0, q, v, _ => (M.ended q = true ∧ v = .nilFunc) ∨ (M.ended q = false ∧ ∃ g cap, v = .func (.func g) #[] cap)
  | m + 1, q, v, w => (M.ended q = true ∧ v = .nilFunc) ∨ (M.ended q = false ∧ ∃ g cap, v = .func (.func g) #[] cap ∧ Ent g ∧
      ∀ w' s r, Moves M.B M.LL w w' → M.I (r + 1) s w' → Then g cap w' M.L fun v' w'' => M.I r (M.step q s).2 w'' ∧ CodeAt m (M.step q s).1 v' w'')

variable {M}
theorem CodeAt.shape {m : Nat} {q : Pr} {v : Value} {w : World} (h : CodeAt M m q v w) : (M.ended q = true ∧ v = .nilFunc) ∨ (M.ended q = false ∧ ∃ g cap, v = .func (.func g) #[] cap) := by
  cases m with
  | zero => exact h
  | succ m =>
    rcases h with h | ⟨h, g, cap, e, _⟩
    · exact .inl h
    · exact .inr ⟨h, g, cap, e⟩
theorem Then.mono {f : FuncId} {args : Array Value} {w : World} {L : List Nat} {Q R : Value → World → Prop} (h : Then f args w L Q) (hR : ∀ v w', Q v w' → R v w') : Then f args w L R := by
  unfold Then at *
  refine h.mono ?_
  rintro e w' ⟨v, he, hq, ht⟩
  exact ⟨v, he, hR _ _ hq, ht⟩
theorem CodeAt.less {m : Nat} : ∀ {q : Pr} {v : Value} {w : World}, CodeAt M (m + 1) q v w → CodeAt M m q v w := by
  induction m with
  | zero => intro q v w h; exact h.shape
  | succ m ih =>
    intro q v w h
    rcases h with h | ⟨h, g, cap, e, hE, hs⟩
    · exact .inl h
    · exact .inr ⟨h, g, cap, e, hE, fun w' s r hm hi => (hs w' s r hm hi).mono fun v' w'' hq => ⟨hq.1, ih hq.2⟩⟩
theorem CodeAt.moves {m : Nat} {q : Pr} {v : Value} {w w' : World} (h : CodeAt M m q v w) (k : Moves M.B M.LL w w') : CodeAt M m q v w' := by
  cases m with
  | zero => exact h
  | succ m =>
    rcases h with h | ⟨h, g, cap, e, hE, hs⟩
    · exact .inl h
    · exact .inr ⟨h, g, cap, e, hE, fun w2 s r hm hi => hs w2 s r (k.trans hm) hi⟩

/-- a task at block t, whose code does what q says; d steps were done. -/
structure TaskAt (M : Mc St Pr) (m : Nat) (q : Pr) (d : Nat) (t : Nat) (w : World) : Prop where
  at_ : ∃ v, Lies w t 67 #[v, .int .i64 d] ∧ CodeAt M m q v w
  out : t ∉ M.LL
  base : M.B ≤ t

theorem TaskAt.less {m : Nat} {q : Pr} {d t : Nat} {w : World} (h : TaskAt M (m + 1) q d t w) : TaskAt M m q d t w := by
  obtain ⟨v, h1, h2⟩ := h.at_
  exact ⟨⟨v, h1, h2.less⟩, h.out, h.base⟩
theorem TaskAt.is {m : Nat} {q : Pr} {d t : Nat} {w : World} (h : TaskAt M m q d t w) : IsTask M.B w t := by
  obtain ⟨v, h1, _⟩ := h.at_
  exact ⟨h.base, _, _, task_loose, h1⟩
theorem TaskAt.lt {m : Nat} {q : Pr} {d t : Nat} {w : World} (h : TaskAt M m q d t w) : t < w.heap.size := h.is.lt
theorem TaskAt.turns {m : Nat} {q : Pr} {d t : Nat} {w w' : World} {L' : List Nat} (h : TaskAt M m q d t w) (k : Turns L' w w') (g : Moves M.B M.LL w w') (ht : t ∉ L') : TaskAt M m q d t w' := by
  obtain ⟨v, h1, h2⟩ := h.at_
  exact ⟨⟨v, h1.turn k ht, h2.moves g⟩, h.out, h.base⟩

/-- behind a step, if there is one. -/
def stepQ (M : Mc St Pr) (q : Pr) (s : St) : Pr := if M.ended q then q else (M.step q s).1
def stepS (M : Mc St Pr) (q : Pr) (s : St) : St := if M.ended q then s else (M.step q s).2
def stepD (M : Mc St Pr) (q : Pr) (d : Nat) : Nat := if M.ended q then d else d + 1

theorem eqIn_nil (d : Nat) (W : World) : (Op.equalIn (d + 1) 41 .nilFunc .nilFunc).run Try.prog W = .ok true W := by
  simp [Op.equalIn, run_underlying Try.underlying41]
theorem eqIn_func (d : Nat) (fn : Fn) (a cap : Array Value) (W : World) : (Op.equalIn (d + 1) 41 (.func fn a cap) .nilFunc).run Try.prog W = .ok false W := by
  simp [Op.equalIn, run_underlying Try.underlying41]
theorem eqE_nil (W : World) : (Op.equal 41 .nilFunc .nilFunc).run Try.prog W = .ok true W := eqIn_nil 9999 W
theorem eqE_func (fn : Fn) (a cap : Array Value) (W : World) : (Op.equal 41 (.func fn a cap) .nilFunc).run Try.prog W = .ok false W := eqIn_func 9999 fn a cap W
theorem eqn_nil (W : World) : (binOp .eql 41 .nilFunc .nilFunc).run Try.prog W = .ok (.bool true) W := by
  simp only [binOp]
  simp [eqE_nil]
theorem eqn_func (fn : Fn) (a cap : Array Value) (W : World) : (binOp .eql 41 (.func fn a cap) .nilFunc).run Try.prog W = .ok (.bool false) W := by
  simp only [binOp]
  simp [eqE_func]

theorem ended_any {m : Nat} {q : Pr} {d t : Nat} {w : World} (h : TaskAt M m q d t w) :
    Calls Try.prog 13 #[.pointer (some ⟨t, 0, none⟩)] w fun e w' => e = .returned (.bool (M.ended q)) ∧ w' = w := by
  obtain ⟨v, h1, h2⟩ := h.at_
  have c0 := h1.cell 0
  simp at c0
  rcases h2.shape with ⟨hq, rfl⟩ | ⟨hq, g, cap, rfl⟩
  all_goals
    rw [hq]
    clear h h2 hq h1
    have e1 := eqn_nil
    have e2 := eqn_func
    go_enter Try.func13, Try.ntmps13
    go_wp2
    go_ret
    exact ⟨rfl, rfl⟩

theorem steps_any {m : Nat} {q : Pr} {d t : Nat} {w : World} (h : TaskAt M m q d t w) :
    Calls Try.prog 15 #[.pointer (some ⟨t, 0, none⟩)] w fun e w' => e = .returned (.int .i64 d) ∧ w' = w := by
  obtain ⟨v, h1, h2⟩ := h.at_
  have c0 := h1.cell 1
  simp at c0
  go_enter Try.func15, Try.ntmps15
  go_wp2
  go_ret
  exact ⟨rfl, rfl⟩

end

end Go.Proofs.Ytbkopghghoolmaa
