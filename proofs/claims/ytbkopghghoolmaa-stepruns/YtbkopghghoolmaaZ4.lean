/- The rows of the law StepRuns: tasks, and the document's own, made side by side. -/
import Derived.Test.YtbkopghghoolmaaZ3
namespace Go.Proofs.Ytbkopghghoolmaa
open Go.RowKit

/-- the document's tasks that nothing was done of, as cells. -/
def mcells (Sl : Nat → Option Addr × Nat × Nat) : Nat → List Value
  | 0 => []
  | i + 1 => mcells Sl i ++ [.slice (Sl i).1 (Sl i).2.1 (Sl i).2.2, .int .i64 0, .int .u64 0]
theorem mcells_len (Sl : Nat → Option Addr × Nat × Nat) : ∀ i, (mcells Sl i).length = 3 * i
  | 0 => rfl
  | i + 1 => by
    rw [mcells, List.length_append, mcells_len Sl i]
    simp
    omega
theorem mcells_at (Sl : Nat → Option Addr × Nat × Nat) : ∀ i j, j < i → (mcells Sl i)[3 * j]? = some (.slice (Sl j).1 (Sl j).2.1 (Sl j).2.2) ∧ (mcells Sl i)[3 * j + 1]? = some (.int .i64 0) ∧ (mcells Sl i)[3 * j + 2]? = some (.int .u64 0)
  | 0, j, h => by omega
  | i + 1, j, h => by
    have hl := mcells_len Sl i
    rw [mcells]
    by_cases hj : j < i
    · rw [List.getElem?_append_left (by omega), List.getElem?_append_left (by omega), List.getElem?_append_left (by omega)]
      exact mcells_at Sl i j hj
    · obtain rfl : j = i := by omega
      rw [List.getElem?_append_right (by omega), List.getElem?_append_right (by omega), List.getElem?_append_right (by omega), hl]
      simp [show 3 * j + 1 - 3 * j = 1 by omega, show 3 * j + 2 - 3 * j = 2 by omega]

/-- the row of the document's tasks. -/
structure MRow (W : World) (B : Nat) (v : Value) (Sl : Nat → Option Addr × Nat × Nat) (i : Nat) : Prop where
  own : W.ownsRow B 46 3 v i (mcells Sl i)

section
variable {W W' : World} {B : Nat} {v : Value} {Sl : Nat → Option Addr × Nat × Nat} {i : Nat}
theorem MRow.nil (W : World) (B : Nat) (Sl : Nat → Option Addr × Nat × Nat) : MRow W B (.slice none 0 0) Sl 0 := ⟨⟨rfl, .inl ⟨rfl, rfl⟩⟩⟩
theorem MRow.kept (h : MRow W B v Sl i) (k : ∀ g, v.ownBlock = some g → W'.heap[g]? = W.heap[g]?) : MRow W' B v Sl i := by
  refine ⟨⟨h.own.1, ?_⟩⟩
  rcases h.own.2 with h1 | ⟨g, cap, cur, h1, h2, h3, h4⟩
  · exact .inl h1
  · exact .inr ⟨g, cap, cur, h1, h2, (k g (by rw [h1]; rfl)).trans h3, h4⟩
theorem MRow.turns {L : List Nat} (h : MRow W B v Sl i) (k : Turns L W W') (hL : ∀ g, v.ownBlock = some g → g ∉ L) : MRow W' B v Sl i :=
  h.kept fun g hg => k.block g (h.own.lt g hg).2 (hL g hg)
theorem MRow.lies (h : MRow W B v Sl i) {g : Nat} (hg : v.ownBlock = some g) : B ≤ g ∧ ∃ cur, Lies W g 46 cur := by
  rcases h.own.2 with ⟨rfl, _⟩ | ⟨g', cap, cur, rfl, h2, h3, _⟩
  · cases hg
  · simp [Value.ownBlock] at hg
    subst hg
    exact ⟨h2, cur, h3⟩
theorem MRow.slice (h : MRow W B v Sl i) : ∃ A cp, v = .slice A i cp ∧ (0 < i → ∃ a, A = some a ∧ a.block < W.heap.size ∧ ∀ j, j < i → W.cell? (a.add (3 * j)) = some (.slice (Sl j).1 (Sl j).2.1 (Sl j).2.2) ∧ W.cell? (a.add (3 * j + 1)) = some (.int .i64 0) ∧ W.cell? (a.add (3 * j + 2)) = some (.int .u64 0)) := by
  rcases h.own.2 with ⟨rfl, h0⟩ | ⟨g, cap, cur, rfl, h2, h3, h4, h5, _⟩
  · exact ⟨none, 0, by rw [h0], fun hn => by omega⟩
  · refine ⟨_, _, rfl, fun hn => ⟨_, rfl, Lies.lt (t := 46) h3, fun j hj => ?_⟩⟩
    obtain ⟨k1, k2, k3⟩ := mcells_at Sl i j hj
    exact ⟨h.own.cells (g := g) rfl _ _ k1, h.own.cells (g := g) rfl _ _ k2, h.own.cells (g := g) rfl _ _ k3⟩

/-- one task more. -/
theorem wpList_mrow {T : TypeId} {ops : Array Oper} {rest : List Oper} {o : Oper} {a : Act} {Q : Exit → Act → World → Prop} (hT : Try.prog.underlying T = some (.slice 46))
    (h : MRow W B v Sl i) {u : Value} (hu : u = .slice (Sl i).1 (Sl i).2.1 (Sl i).2.2) (hB : B ≤ W.heap.size) (hl : i ≤ 10000) (hgd : Region.wanted o (yielded ops a.tmps) = true) (s x : Operand) (ho : o.op = .call { callee := .builtin .append, args := #[s, x], argTypes := #[T, T] })
    (hs : a.eval s = v) (hx : a.eval x = .slice (some ⟨W.heap.size, 0, none⟩) 1 1)
    (hK : ∀ v' w', MRow w' B v' Sl (i + 1) → Turns v.ownBlock.toList W w' → wpList Try.prog ops Q rest (a.put o.dst v') w') : wpList Try.prog ops Q (o :: rest) a (W.alloc (.cells #[u, .int .i64 0, .int .u64 0] 46)) := by
  subst hu
  obtain ⟨i0, hi0, hz0, hz1, hz2⟩ := info_parts rtask_info
  refine wpList_step fun K hK0 => ?_
  rw [if_pos hgd]
  refine wp_append_own _ s x T ho B 46 i0 _ 3 40 hT hi0 hz0 hz1 hz2 rfl (by omega) v i (mcells Sl i) hs (h.own.alloc _) ⟨W.heap.size, 0, none⟩ 1 1 [.slice (Sl i).1 (Sl i).2.1 (Sl i).2.2, .int .i64 0, .int .u64 0] hx rfl ?_ ?_ (by simp only [maxLen]; omega) (by omega) (by simp; omega) ?_
  · intro j y hy
    match j, hy with
    | 0, hy => simp at hy; subst hy; simp [Addr.add]
    | 1, hy => simp at hy; subst hy; simp [Addr.add]
    | 2, hy => simp at hy; subst hy; simp [Addr.add]
  · intro y hy
    simp at hy
    rcases hy with rfl | rfl | rfl <;> rfl
  · intro v' w' h1 h2 _
    refine hK0 _ _ (hK v' w' ⟨h1⟩ ⟨h2.os, h2.tape, h2.output, ?_, fun k hk hn => ?_⟩)
    · have := h2.size
      simp at this
      omega
    · rw [h2.block k (by simp; omega) (fun e => hn (by rw [← e]; simp))]
      exact Below.heap_alloc W _ k hk
end

/-- what the loop that makes both rows keeps. -/
structure SR (w : World) (LL : List Nat) (N V gg n : Nat) (xss : Nat → List Act4) (Sl : Nat → Option Addr × Nat × Nat) (v1 v2 : Value) (t1 : Nat → Nat) (i j : Nat) (W : World) : Prop where
  one : Tasks (AM w.heap.size (N + 1) N (V + 1) n LL) 1000 (fun k => (k, xss k)) v1 t1 i W
  two : MRow W w.heap.size v2 Sl j
  a1 : AI (N + 1) N (V + 1) n 1000 zeroS W
  md : Lies W V 32 #[.slice (some ⟨gg, 0, none⟩) 4 4, .int .i64 0]
  hh : Lies W gg 44 (nums [0, 0, 0, 0])
  be : Below w.heap.size w W
  lll : ∀ b, b ∈ LL → b < W.heap.size

section
variable {w : World} {LL : List Nat} {N V gg n : Nat} {xss : Nat → List Act4} {Sl : Nat → Option Addr × Nat × Nat} {v1 v2 : Value} {t1 : Nat → Nat} {i j : Nat} {W W' : World}
theorem SR.grow (h : SR w LL N V gg n xss Sl v1 v2 t1 i j W) (k : Turns [] W W') : SR w LL N V gg n xss Sl v1 v2 t1 i j W' :=
  ⟨h.one.grow k, h.two.turns k (by simp), h.a1.turns k (by simp) (by simp) (by simp), h.md.turn k (by simp), h.hh.turn k (by simp), h.be.trans (k.below (by simp) h.be.size), fun b hb => Nat.lt_of_lt_of_le (h.lll b hb) k.size⟩

theorem SR.push1 {c v' : Value} (h : SR w LL N V gg n xss Sl v1 v2 t1 i j W) (hc : CodeAt (AM w.heap.size (N + 1) N (V + 1) n LL) 1000 (i, xss i) c W)
    (hv : VRow W' w.heap.size 38 v' (((List.range i).map fun j => ptr (t1 j)) ++ [ptr W.heap.size])) (ht : Turns v1.ownBlock.toList (W.alloc (.cells #[c, .int .i64 0] 67)) W') :
    SR w LL N V gg n xss Sl v' v2 (updF t1 i W.heap.size) (i + 1) j W' := by
  have tu : Turns [] W (W.alloc (.cells #[c, .int .i64 0] 67)) := (Turns.refl _ _).alloc _
  have hp := h.one.push hc h.lll h.be.size hv ht
  have g := h.grow tu
  refine ⟨hp, g.two.turns ht (fun b hb => ?_), ai_row g.one g.a1 ht, g.md.turn ht (unl g.one g.md (by decide)), g.hh.turn ht (unl g.one g.hh (by decide)), g.be.trans (ht.below (fun b hb => ?_) g.be.size), fun b hb => Nat.lt_of_lt_of_le (g.lll b hb) ht.size⟩
  · obtain ⟨_, cur, hl⟩ := g.two.lies hb
    exact unl g.one hl (by decide)
  · simp at hb
    exact (h.one.row.lies hb).1

theorem SR.push2 {v' : Value} (h : SR w LL N V gg n xss Sl v1 v2 t1 i j W) (hv : MRow W' w.heap.size v' Sl (j + 1)) (ht : Turns v2.ownBlock.toList W W') :
    SR w LL N V gg n xss Sl v1 v' t1 i (j + 1) W' := by
  have no : ∀ {b : Nat} {t : TypeId} {cs : Array Value}, Lies W b t cs → t ≠ 46 → b ∉ v2.ownBlock.toList := fun hl hne hm => by
    simp at hm
    obtain ⟨_, cur, h2⟩ := h.two.lies hm
    exact hl.unlike h2 hne rfl
  refine ⟨h.one.turns ht (Moves.of_turns ht (fun b hb => ?_)) (fun k hk => ?_) (fun g hg => ?_), hv, h.a1.turns ht (no h.a1.ar.head (by decide)) (no h.a1.ar.body (by decide)) (no h.a1.sum (by decide)), h.md.turn ht (no h.md (by decide)), h.hh.turn ht (no h.hh (by decide)), h.be.trans (ht.below (fun b hb => ?_) h.be.size), fun b hb => Nat.lt_of_lt_of_le (h.lll b hb) ht.size⟩
  · simp at hb
    obtain ⟨h1, cur, h2⟩ := h.two.lies hb
    exact .inr (.inr ⟨h1, _, _, by decide, h2⟩)
  · obtain ⟨u, h3, _⟩ := (h.one.tk k hk).at_
    exact no h3 (by decide)
  · obtain ⟨_, cur, hl⟩ := h.one.row.lies hg
    exact no hl (by decide)
  · simp at hb
    exact (h.two.lies hb).1
end

/-- the start of both rows. -/
theorem sr0 {w w1 w2 w3 : World} (n : Nat) (h : Below w.heap.size w w1) (hm : Made w1 4 w2) (h3 : Lies w3 (w2.heap.size + 1) 44 (nums [0, 0, 0, 0])) (hb3 : Below w2.heap.size w2 w3) (LL : List Nat) (xss : Nat → List Act4) (Sl : Nat → Option Addr × Nat × Nat)
    (hLL : ∀ b, b ∈ LL → b < w3.heap.size + 2) :
    SR w LL w1.heap.size w3.heap.size (w2.heap.size + 1) n xss Sl (.slice none 0 0) (.slice none 0 0) (fun _ => 0) 0 0 ((w3.alloc (.cells #[.slice (some ⟨w2.heap.size + 1, 0, none⟩) 4 4, .int .i64 0] 32)).alloc (.cells (nums (List.replicate n 0)) 44)) := by
  obtain ⟨k1, k2, k3⟩ := hm
  have hs := h.size
  have hs3 := hb3.size
  have tu : Turns [] w3 ((w3.alloc (.cells #[.slice (some ⟨w2.heap.size + 1, 0, none⟩) 4 4, .int .i64 0] 32)).alloc (.cells (nums (List.replicate n 0)) 44)) := ((Turns.refl _ _).alloc _).alloc _
  have ar := (k1.below hb3 (by omega) (by omega)).turn tu (by simp) (by simp)
  have sm : Lies ((w3.alloc (.cells #[.slice (some ⟨w2.heap.size + 1, 0, none⟩) 4 4, .int .i64 0] 32)).alloc (.cells (nums (List.replicate n 0)) 44)) (w3.heap.size + 1) 44 (sumsV n zeroS.x) := by
    have := Lies.new_at (w := w3.alloc (.cells #[.slice (some ⟨w2.heap.size + 1, 0, none⟩) 4 4, .int .i64 0] 32)) (b := w3.heap.size + 1) 44 (nums (List.replicate n 0)) (by simp)
    rw [sums_zero] at this ⊢
    exact this
  refine ⟨Tasks.nil _ _ _ _, MRow.nil _ _ _, ⟨ar, by decide, sm, fun _ => by simp [N64, zeroS]⟩, (Lies.new _ _ _).alloc _, h3.turn tu (by simp), ?_, fun b hb => ?_⟩
  · exact ((h.trans (k2.mono hs)).trans (hb3.mono (by omega))).trans (tu.below (B := w.heap.size) (by simp) (by omega))
  · have := hLL b hb
    simp
    omega

end Go.Proofs.Ytbkopghghoolmaa
