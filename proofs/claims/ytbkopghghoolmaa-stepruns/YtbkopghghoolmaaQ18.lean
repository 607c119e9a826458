/- Two rows of tasks, side by side. -/
import Derived.Test.YtbkopghghoolmaaQ17
namespace Go.Proofs.Ytbkopghghoolmaa
open Go.RowKit

theorem task_info : (Try.prog.info? 38).map (fun i => (i.zero, i.size, i.bytes)) = some (some (.pointer none), 1, 8) := by kernel_rfl

/-- what the loop that makes the tasks keeps. -/
structure Pcs (w : World) (LL : List Nat) (N n bx by' : Nat) (xss : Nat → List Act4) (v1 v2 : Value) (t1 t2 : Nat → Nat) (i j : Nat) (W : World) : Prop where
  one : Tasks (AM w.heap.size (N + 1) N bx n LL) 1000 (fun k => (k, xss k)) v1 t1 i W
  two : Tasks (AM w.heap.size (N + 3) (N + 2) by' n LL) 1000 (fun k => (k, xss k)) v2 t2 j W
  a1 : AI (N + 1) N bx n 1000 zeroS W
  a2 : AI (N + 3) (N + 2) by' n 1000 zeroS W
  be : Below w.heap.size w W
  apt : ∀ k l, k < i → l < j → t1 k ≠ t2 l
  z1 : i = 0 → v1.ownBlock = none
  z2 : j = 0 → v2.ownBlock = none
  lll : ∀ b, b ∈ LL → b < W.heap.size

section
variable {w : World} {LL : List Nat} {N n bx by' : Nat} {xss : Nat → List Act4} {v1 v2 : Value} {t1 t2 : Nat → Nat} {i j : Nat} {W W' : World}
theorem Tasks.first {St Pr : Type} {M : Mc St Pr} {m : Nat} {q : Nat → Pr} {v : Value} {ts : Nat → Nat} {i : Nat} {g : Nat} (h : Tasks M m q v ts i W) (hi : 0 < i) (hg : v.ownBlock = some g) : W.cell? ⟨g, 0, none⟩ = some (ptr (ts 0)) := by
  obtain ⟨A, cp, _, _, h2⟩ := h.row.slice
  rw [List.length_map, List.length_range] at h2
  obtain ⟨g', _, e, hc⟩ := h2 hi
  rw [hg] at e
  injection e with e
  subst e
  exact hc 0 _ (by simp [hi])
theorem Pcs.ap (h : Pcs w LL N n bx by' xss v1 v2 t1 t2 i j W) : ∀ g, v1.ownBlock = some g → v2.ownBlock ≠ some g := by
  intro g h1 h2
  have hi : 0 < i := Nat.pos_of_ne_zero fun e => by have := h.z1 e; rw [h1] at this; cases this
  have hj : 0 < j := Nat.pos_of_ne_zero fun e => by have := h.z2 e; rw [h2] at this; cases this
  have e1 := h.one.first hi h1
  have e2 := h.two.first hj h2
  rw [e1] at e2
  simp at e2
  exact h.apt 0 0 hi hj e2
theorem Pcs.grow (h : Pcs w LL N n bx by' xss v1 v2 t1 t2 i j W) (k : Turns [] W W') : Pcs w LL N n bx by' xss v1 v2 t1 t2 i j W' :=
  ⟨h.one.grow k, h.two.grow k, h.a1.turns k (by simp) (by simp) (by simp), h.a2.turns k (by simp) (by simp) (by simp), h.be.trans (k.below (by simp) h.be.size), h.apt, h.z1, h.z2, fun b hb => Nat.lt_of_lt_of_le (h.lll b hb) k.size⟩

theorem unl {t : TypeId} {b : Nat} {cs : Array Value} {St Pr : Type} {M : Mc St Pr} {m : Nat} {q : Nat → Pr} {v : Value} {ts : Nat → Nat} {i : Nat} (h : Tasks M m q v ts i W) (k : Lies W b t cs) (ht : t ≠ 38) : b ∉ v.ownBlock.toList := fun hm => by
  simp at hm
  obtain ⟨_, cur, h2⟩ := h.row.lies hm
  exact k.unlike h2 ht rfl

theorem row_moves {St Pr : Type} {M : Mc St Pr} {m : Nat} {q : Nat → Pr} {v : Value} {ts : Nat → Nat} {i : Nat} {L : List Nat} (h : Tasks M m q v ts i W) (k : Turns v.ownBlock.toList W W') : Moves M.B L W W' := Moves.of_turns k (fun b hb => by
  simp at hb
  exact .inr (.inr (h.block hb)))

theorem ai_row {St Pr : Type} {M : Mc St Pr} {m : Nat} {q : Nat → Pr} {v : Value} {ts : Nat → Nat} {i : Nat} {p c sb ns r : Nat} {s : ASt} (h : Tasks M m q v ts i W) (a : AI p c sb ns r s W) (k : Turns v.ownBlock.toList W W') : AI p c sb ns r s W' :=
  a.turns k (unl h a.ar.head (by decide)) (unl h a.ar.body (by decide)) (unl h a.sum (by decide))

theorem Pcs.push1 {c v' : Value} (h : Pcs w LL N n bx by' xss v1 v2 t1 t2 i j W) (hc : CodeAt (AM w.heap.size (N + 1) N bx n LL) 1000 (i, xss i) c W)
    (hv : VRow W' w.heap.size 38 v' (((List.range i).map fun j => ptr (t1 j)) ++ [ptr W.heap.size])) (ht : Turns v1.ownBlock.toList (W.alloc (.cells #[c, .int .i64 0] 67)) W') :
    Pcs w LL N n bx by' xss v' v2 (updF t1 i W.heap.size) t2 (i + 1) j W' := by
  have tu : Turns [] W (W.alloc (.cells #[c, .int .i64 0] 67)) := (Turns.refl _ _).alloc _
  have hp := h.one.push hc h.lll h.be.size hv ht
  have g := h.grow tu
  refine ⟨hp, ?_, ai_row g.one g.a1 ht, ai_row g.one g.a2 ht, g.be.trans (ht.below (fun b hb => ?_) g.be.size), fun k l hk hl => ?_, fun e => by omega, h.z2, fun b hb => Nat.lt_of_lt_of_le (g.lll b hb) ht.size⟩
  · refine g.two.turns ht (show Moves w.heap.size LL _ _ from row_moves (L := LL) g.one ht) (fun k hk hm => ?_) (fun g' hg' hm => ?_)
    · obtain ⟨u, h3, _⟩ := (g.two.tk k hk).at_
      exact unl g.one h3 (by decide) hm
    · simp at hm
      exact g.ap g' hm hg'
  · simp at hb
    exact (h.one.row.lies hb).1
  · unfold updF
    split
    · have := (h.two.tk l hl).lt; omega
    · exact h.apt k l (by omega) hl

theorem Pcs.push2 {c v' : Value} (h : Pcs w LL N n bx by' xss v1 v2 t1 t2 i j W) (hc : CodeAt (AM w.heap.size (N + 3) (N + 2) by' n LL) 1000 (j, xss j) c W)
    (hv : VRow W' w.heap.size 38 v' (((List.range j).map fun j => ptr (t2 j)) ++ [ptr W.heap.size])) (ht : Turns v2.ownBlock.toList (W.alloc (.cells #[c, .int .i64 0] 67)) W') :
    Pcs w LL N n bx by' xss v1 v' t1 (updF t2 j W.heap.size) i (j + 1) W' := by
  have tu : Turns [] W (W.alloc (.cells #[c, .int .i64 0] 67)) := (Turns.refl _ _).alloc _
  have hp := h.two.push hc h.lll h.be.size hv ht
  have g := h.grow tu
  refine ⟨?_, hp, ai_row g.two g.a1 ht, ai_row g.two g.a2 ht, g.be.trans (ht.below (fun b hb => ?_) g.be.size), fun k l hk hl => ?_, h.z1, fun e => by omega, fun b hb => Nat.lt_of_lt_of_le (g.lll b hb) ht.size⟩
  · refine g.one.turns ht (show Moves w.heap.size LL _ _ from row_moves (L := LL) g.two ht) (fun k hk hm => ?_) (fun g' hg' hm => ?_)
    · obtain ⟨u, h3, _⟩ := (g.one.tk k hk).at_
      exact unl g.two h3 (by decide) hm
    · simp at hm
      exact g.ap g' hg' hm
  · simp at hb
    exact (h.two.row.lies hb).1
  · unfold updF
    split
    · have := (h.one.tk k hk).lt; omega
    · exact h.apt k l hk (by omega)
end

/-- where the first k of a slice lie, and the others. -/
theorem slice_to {t : TypeId} {e : TypeId} (ht : Try.prog.underlying t = some (.slice e)) (h1 : (Try.prog.info? e).map (·.size) = some 1) (A : Option Addr) (n cp k : Nat) (hk : k ≤ cp) (W : World) :
    (Instr.sliceAt t (.slice A n cp) none (some (.int .i64 (k : Int))) none).run Try.prog W = .ok (.slice (if cp = 0 then A else A.map (·.add 0)) k cp) W := by
  obtain ⟨i, hi, hz⟩ := Option.map_eq_some_iff.1 h1
  simp [Instr.sliceAt, Instr.slice, run_underlying ht, Instr.sliceBounds, Instr.sliceBound, asIntOf, sizeOf, typeInfo, hi]
  intro h; omega
theorem slice_from {t : TypeId} {e : TypeId} (ht : Try.prog.underlying t = some (.slice e)) (h1 : (Try.prog.info? e).map (·.size) = some 1) (A : Option Addr) (n cp k : Nat) (hk : k ≤ n) (W : World) :
    (Instr.sliceAt t (.slice A n cp) (some (.int .i64 (k : Int))) none none).run Try.prog W = .ok (.slice (if cp = k then A else A.map (·.add k)) (n - k) (cp - k)) W := by
  obtain ⟨i, hi, hz⟩ := Option.map_eq_some_iff.1 h1
  simp [Instr.sliceAt, Instr.slice, run_underlying ht, Instr.sliceBounds, Instr.sliceBound, asIntOf, sizeOf, typeInfo, hi, hz]
  intro h; omega

theorem add_zero' (a : Addr) : a.add 0 = a := by simp [Addr.add]
section
variable {w : World} {A : Option Addr} {n k cp : Nat} {xs : List Int}
theorem Row.take (h : Row w .i64 A n xs) (hk : k ≤ n) (A' : Option Addr) (hA : A' = (if cp = 0 then A else A.map (·.add 0))) : Row w .i64 A' k (xs.take k) := by
  have e : A' = A := by
    rw [hA]
    split
    · rfl
    · cases A <;> simp [add_zero']
  subst e
  have hl := h.len
  refine ⟨by simp; omega, by have := h.most; omega, fun x hx => h.wf x (List.mem_of_mem_take hx), fun hn => ?_⟩
  obtain ⟨a, e, h1, h2⟩ := h.at_ (by omega)
  refine ⟨a, e, h1, fun i hi => ?_⟩
  rw [h2 i (by omega)]
  simp [List.getD, hi]
theorem Row.drop (h : Row w .i64 A n xs) (hk : k ≤ n) (hcp : n ≤ cp) (A' : Option Addr) (hA : A' = (if cp = k then A else A.map (·.add k))) : Row w .i64 A' (n - k) (xs.drop k) := by
  have hl := h.len
  refine ⟨by simp; omega, by have := h.most; omega, fun x hx => h.wf x (List.mem_of_mem_drop hx), fun hn => ?_⟩
  obtain ⟨a, e, h1, h2⟩ := h.at_ (by omega)
  subst e
  rw [if_neg (by omega)] at hA
  refine ⟨a.add k, by rw [hA]; rfl, by rw [add_block]; exact h1, fun i hi => ?_⟩
  rw [Go.Deep.add_add, h2 (k + i) (by omega)]
  simp [List.getD, List.getElem?_drop]
theorem Row.x {L : List Nat} {W : World} (h : Row w .i64 A n xs) (k : Below w.heap.size w W) (hL : ∀ b, b ∈ L → w.heap.size ≤ b) : RowX W L A n xs :=
  ⟨h.keep (Nat.le_refl _) k, fun hn a e hm => by
    obtain ⟨a', e', h1, _⟩ := h.at_ hn
    rw [e] at e'
    injection e' with e'
    subst e'
    have := hL _ hm
    omega⟩
end

end Go.Proofs.Ytbkopghghoolmaa
