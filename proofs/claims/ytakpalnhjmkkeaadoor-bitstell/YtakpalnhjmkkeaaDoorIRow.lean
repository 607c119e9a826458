/- Slices of int that the call itself has made. -/
import Derived.Test.YtakpalnhjmkkeaaDoorRows
import Derived.Test.YtakpalnhjmkkeaaDoorArgR
import Derived.OwnWalk
import Derived.Laws.OwnMore
import Derived.WalkKit
namespace Go.Proofs.YtakpalnhjmkkeaaDoor
open Go.RowKit Go.ChangeShapes Go.WideShapes

theorem int_info4 : (Tryd.prog.info? 3).map (fun i => (i.zero, i.size, i.bytes)) = some (some (.int .i64 0), 1, 8) := by kernel_rfl

theorem add_head4 (g i : Nat) : (Addr.mk g 0 none).add i = ⟨g, i, none⟩ := by unfold Addr.add; split <;> simp_all

/-- numbers that are ints. -/
def Ints (xs : List Int) : Prop := ∀ x, x ∈ xs → (Lit.int .i64 x).wf = true
theorem Ints.nil : Ints [] := by intro x hx; cases hx
theorem Ints.one {x : Int} (h : (Lit.int .i64 x).wf = true) : Ints [x] := by intro y hy; rw [List.mem_singleton] at hy; subst hy; exact h
theorem Ints.app {xs ys : List Int} (h : Ints xs) (k : Ints ys) : Ints (xs ++ ys) := by
  intro y hy
  rcases List.mem_append.1 hy with h1 | h1
  · exact h y h1
  · exact k y h1
theorem Ints.cons {x : Int} {ys : List Int} (h : (Lit.int .i64 x).wf = true) (k : Ints ys) : Ints (x :: ys) := Ints.app (Ints.one h) k
theorem Ints.get {xs : List Int} (h : Ints xs) (i : Nat) : (Lit.int .i64 (xs.getD i 0)).wf = true := by
  by_cases hi : i < xs.length
  · simp [List.getD, hi]; exact h _ (List.getElem_mem _)
  · simp [List.getD, hi]; decide
theorem Ints.bd {xs : List Int} (h : Ints xs) (i : Nat) : -9223372036854775808 ≤ xs.getD i 0 ∧ xs.getD i 0 ≤ 9223372036854775807 := by
  have := bounds_i64 (h.get i); omega

/-- the slice v, of the call's own from block B on, has the numbers xs. -/
structure IRow (W : World) (B : Nat) (v : Value) (xs : List Int) : Prop where
  own : W.ownsRow B 3 1 v xs.length (xs.map (Value.int .i64))
  ints : Ints xs

section
variable {W W' : World} {B : Nat} {v : Value} {xs ys : List Int}

theorem IRow.nil (W : World) (B : Nat) : IRow W B (.slice none 0 0) [] := ⟨⟨rfl, .inl ⟨rfl, rfl⟩⟩, Ints.nil⟩

/-- a slice literal, just made. -/
theorem IRow.lit (W : World) {B : Nat} (xs : List Int) (cs : Array Value) (h : cs.toList = xs.map (Value.int .i64)) (hB : B ≤ W.heap.size) (hx : Ints xs) (hl : xs.length ≤ 100000) :
    IRow (W.alloc (.cells cs 3)) B (.slice (some ⟨W.heap.size, 0, none⟩) xs.length xs.length) xs := by
  have hs : cs.size = xs.length := by rw [← Array.length_toList, h, List.length_map]
  exact ⟨⟨by simp, .inr ⟨W.heap.size, xs.length, cs, rfl, hB, heap_alloc_new W _, Nat.le_refl _, by simp only [maxLen]; omega, by rw [hs, Nat.mul_one], by rw [← h, List.take_of_length_le (by rw [h]; simp)]⟩⟩, hx⟩

theorem IRow.lt (h : IRow W B v xs) : ∀ k, v.ownBlock = some k → B ≤ k ∧ k < W.heap.size := h.own.lt

theorem IRow.kept (h : IRow W B v xs) (k : ∀ g, v.ownBlock = some g → W'.heap[g]? = W.heap[g]?) : IRow W' B v xs := by
  refine ⟨⟨h.own.1, ?_⟩, h.ints⟩
  rcases h.own.2 with h1 | ⟨g, cap, cur, h1, h2, h3, h4⟩
  · exact .inl h1
  · exact .inr ⟨g, cap, cur, h1, h2, (k g (by rw [h1]; rfl)).trans h3, h4⟩
theorem IRow.below {C : Nat} (h : IRow W B v xs) (k : Below C W W') (hC : W.heap.size ≤ C) : IRow W' B v xs :=
  h.kept fun g hg => k.block g (by have := h.lt g hg; omega)
theorem IRow.alloc (h : IRow W B v xs) (o : Obj) : IRow (W.alloc o) B v xs := h.below ((Below.refl W.heap.size W).alloc (Nat.le_refl _) o) (Nat.le_refl _)

theorem IRow.length (h : IRow W B v xs) : xs.length ≤ maxLen := by
  rcases h.own.2 with ⟨_, h0⟩ | ⟨g, cap, cur, _, _, _, h3, h4, _⟩
  · rw [h0]; simp
  · omega

/-- read as a slice that is handed in. -/
theorem IRow.row (h : IRow W B v xs) : ∃ A cp, v = .slice A xs.length cp ∧ Row W .i64 A xs.length xs := by
  have hl := h.length
  rcases h.own.2 with ⟨rfl, h0⟩ | ⟨g, cap, cur, rfl, h2, h3, _⟩
  · exact ⟨none, 0, by rw [h0], rfl, hl, h.ints, fun hn => by omega⟩
  · refine ⟨_, _, rfl, rfl, hl, h.ints, fun hn => ⟨_, rfl, Lies.lt (t := 3) h3, fun i hi => ?_⟩⟩
    rw [add_head4, h.own.cellAt i (by omega)]
    simp [List.getD, hi]

/-- one or more numbers are appended; the operation may be guarded. -/
theorem wpList_irow_g {ops : Array Oper} {rest : List Oper} {o : Oper} {a : Act} {Q : Exit → Act → World → Prop} {A : Option Addr} {m k : Nat} (h : IRow W B v xs) (hB : B ≤ W.heap.size)
    (hgd : Region.wanted o (yielded ops a.tmps) = true) (s x : Operand) (ho : o.op = .call { callee := .builtin .append, args := #[s, x], argTypes := #[32, 32] })
    (hs : a.eval s = v) (hx : a.eval x = .slice A m k) (hr : Row W .i64 A m ys) (hm : 0 < m) (hM : xs.length + m ≤ 100000)
    (hK : ∀ v' w', IRow w' B v' (xs ++ ys) → Below B W w' → W.grownBy w' v.ownBlock → wpList Tryd.prog ops Q rest (a.put o.dst v') w') : wpList Tryd.prog ops Q (o :: rest) a W := by
  obtain ⟨i0, hi0, hz0, hz1, hz2⟩ := info_parts int_info4
  obtain ⟨ad, rfl, hab, hcell⟩ := hr.at_ hm
  have hyl := hr.len
  refine wpList_step fun K hK0 => ?_
  rw [if_pos hgd]
  refine wp_append_own W s x 32 ho B 3 i0 _ 1 8 Tryd.underlying32 hi0 hz0 hz1 hz2 rfl (by omega) v xs.length (xs.map (Value.int .i64)) hs h.own ad m k (ys.map (Value.int .i64)) hx (by simp [hyl]) ?_ ?_ (by simp only [maxLen]; omega) (by omega) hB ?_
  · intro j u hu
    rw [List.getElem?_map] at hu
    obtain ⟨y, hy, rfl⟩ := Option.map_eq_some_iff.1 hu
    have hj : j < m := by rw [← hyl]; exact (List.getElem?_eq_some_iff.1 hy).1
    rw [hcell j hj]
    simp [List.getD, hy]
  · intro u hu
    obtain ⟨j, _, rfl⟩ := List.mem_map.1 hu
    rfl
  · intro v' w' h1 h2 _
    rw [← List.map_append, ← hyl, ← List.length_append] at h1
    exact hK0 _ _ (hK v' w' ⟨h1, h.ints.app hr.wf⟩ ((Below.refl _ _).grown h2 hB (fun k hk => (h.lt k hk).1)) h2)

/-- one or more numbers are appended. -/
theorem wpList_irow {ops : Array Oper} {rest : List Oper} {o : Oper} {a : Act} {Q : Exit → Act → World → Prop} {A : Option Addr} {m k : Nat} (h : IRow W B v xs) (hB : B ≤ W.heap.size)
    (hgd : o.guard = none) (s x : Operand) (ho : o.op = .call { callee := .builtin .append, args := #[s, x], argTypes := #[32, 32] })
    (hs : a.eval s = v) (hx : a.eval x = .slice A m k) (hr : Row W .i64 A m ys) (hm : 0 < m) (hM : xs.length + m ≤ 100000)
    (hK : ∀ v' w', IRow w' B v' (xs ++ ys) → Below B W w' → W.grownBy w' v.ownBlock → wpList Tryd.prog ops Q rest (a.put o.dst v') w') : wpList Tryd.prog ops Q (o :: rest) a W :=
  wpList_irow_g h hB (by simp only [Region.wanted, hgd]) s x ho hs hx hr hm hM hK

/-- a slice that is made within a call that began at w. -/
structure Out (w : World) (v : Value) (xs : List Int) (W : World) : Prop where
  row : IRow W w.heap.size v xs
  be : Below w.heap.size w W

/-- one number more. -/
theorem wpList_out {w : World} {n : Int} {ops : Array Oper} {rest : List Oper} {o : Oper} {a : Act} {Q : Exit → Act → World → Prop} (h : Out w v xs W) (hn : (Lit.int .i64 n).wf = true) (hl : xs.length ≤ 10000)
    (hgd : Region.wanted o (yielded ops a.tmps) = true) (s x : Operand) (ho : o.op = .call { callee := .builtin .append, args := #[s, x], argTypes := #[32, 32] })
    (hs : a.eval s = v) (hx : a.eval x = .slice (some ⟨W.heap.size, 0, none⟩) 1 1)
    (hK : ∀ v' w', Out w v' (xs ++ [n]) w' → wpList Tryd.prog ops Q rest (a.put o.dst v') w') : wpList Tryd.prog ops Q (o :: rest) a (W.alloc (.cells #[.int .i64 n] 3)) := by
  have hL := IRow.lit W (B := w.heap.size) [n] #[.int .i64 n] rfl h.be.size (Ints.one hn) (by simp)
  obtain ⟨A, cp, e, hr⟩ := hL.row
  injection e with e1 _ _
  subst e1
  refine wpList_irow_g (h.row.alloc _) (by have := h.be.size; simp; omega) hgd s x ho hs hx hr (by simp) (by simp; omega) ?_
  intro v' w' k1 k2 _
  exact hK v' w' ⟨k1, (h.be.alloc h.be.size _).trans k2⟩

/-- nothing is appended, to a slice that isn't nil. -/
theorem wpList_irow_zero {P : Program} {w : World} {ops : Array Oper} {rest : List Oper} {o : Oper} {a : Act} {Q : Exit → Act → World → Prop} (hgd : o.guard = none) (s x : Operand) (t : TypeId)
    (ho : o.op = .call { callee := .builtin .append, args := #[s, x], argTypes := #[t, t] })
    (e : TypeId) (i : TypeInfo) (ht : P.underlying t = some (.slice e)) (hi : P.info? e = some i)
    (g : Addr) (m k : Nat) (A : Option Addr) (l c : Nat) (hl : l = 0) (hmk : m ≤ k) (hs : a.eval s = .slice (some g) m k) (hx : a.eval x = .slice A l c)
    (h : wpList P ops Q rest (a.put o.dst (.slice (some g) m k)) w) : wpList P ops Q (o :: rest) a w := by
  subst hl
  refine wpList_plain hgd fun K hK => ?_
  have hrun : (Builtin.append_ #[t, t] o.type #[.slice (some g) m k, .slice A 0 c]).run P w = .ok (.slice (some g) m k) w := by
    cases A <;> simp [Builtin.append_, run_underlying ht, sizeOf, typeInfo, hi, Builtin.lenOf, Builtin.firstCells, hmk, storeCells, loadCells, loadCellsFrom]
  unfold Oper.wp
  simp [execOp, ho, resolve, invoke, builtin, hs, hx, hrun, Result.andThen]
  exact hK _ _ h
end

end Go.Proofs.YtakpalnhjmkkeaaDoor
