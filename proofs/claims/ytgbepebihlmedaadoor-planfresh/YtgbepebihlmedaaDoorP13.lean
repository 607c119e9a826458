/- The law's list of all places: what has been gathered, and how it grows. -/
import Derived.Test.YtgbepebihlmedaaDoorP10
import Derived.OwnWalk
import Derived.Laws.OwnMore
namespace Go.Proofs.YtgbepebihlmedaaDoor
open Go.RowKit

/-- the numbers from 0 to n - 1, as cells. -/
def ids (n : Nat) : List Value := (List.range n).map fun i => Value.int .i64 (i : Nat)
/-- m numbers from n on. -/
def more (n m : Nat) : List Value := (List.range m).map fun j => Value.int .i64 ((n + j : Nat) : Int)
theorem ids_more (n m : Nat) : ids n ++ more n m = ids (n + m) := by
  unfold ids more
  rw [List.range_add, List.map_append, List.map_map]
  rfl
theorem ids_length (n : Nat) : (ids n).length = n := by simp [ids]
theorem more_length (n m : Nat) : (more n m).length = m := by simp [more]
theorem ids_at {n i : Nat} (h : i < n) : (ids n)[i]? = some (.int .i64 (i : Nat)) := by simp [ids, h]
theorem more1 (n : Nat) : (#[Value.int .i64 (n : Int)]).toList = more n 1 := by simp [more, List.range, List.range.loop]
theorem more3 (n : Nat) : (#[Value.int .i64 (n : Int), .int .i64 ((n : Int) + 1), .int .i64 ((n : Int) + 2)]).toList = more n 3 := by simp [more, List.range, List.range.loop]
theorem more4 (n : Nat) : (#[Value.int .i64 (n : Int), .int .i64 ((n : Int) + 1), .int .i64 ((n : Int) + 2), .int .i64 ((n : Int) + 3)]).toList = more n 4 := by simp [more, List.range, List.range.loop]

/-- within 'cells': the plan, the configuration in its box, n places gathered in v. -/
structure Gat (w : World) (p : Nat) (C : Nat → Int) (v : Value) (n : Nat) (W : World) : Prop where
  pl : PlanAt W p C
  bx : Lies W w.heap.size 23 (ic C)
  own : W.ownsRow (w.heap.size + 1) 3 1 v n (ids n)
  be : Below w.heap.size w W
  old : p < w.heap.size

section
variable {w : World} {p : Nat} {C : Nat → Int} {v : Value} {n : Nat} {W W' : World}
theorem owns_keep {B : Nat} {xs : List Value} (h : W.ownsRow B 3 1 v n xs) (k : Below W.heap.size W W') : W'.ownsRow B 3 1 v n xs := by
  refine ⟨h.1, ?_⟩
  rcases h.2 with h1 | ⟨g, cap, cur, h1, h2, h3, h4⟩
  · exact .inl h1
  · exact .inr ⟨g, cap, cur, h1, h2, (k.block g (Lies.lt (t := 3) h3)).trans h3, h4⟩
theorem Gat.next (h : Gat w p C v n W) (k : Below W.heap.size W W') : Gat w p C v n W' :=
  ⟨h.pl.keep k h.pl.lt, h.bx.below k h.bx.lt, owns_keep h.own k, h.be.trans (k.mono h.be.size), h.old⟩

/-- a few places more are appended. -/
theorem wpList_gat {ops : Array Oper} {rest : List Oper} {o : Oper} {a : Act} {Q : Exit → Act → World → Prop} (G : Gat w p C v n W) (cs : Array Value) (m : Nat) (hcs : cs.toList = more n m) (hm : n + m ≤ 100000)
    (hgd : o.guard = none) (s x : Operand) (ho : o.op = .call { callee := .builtin .append, args := #[s, x], argTypes := #[42, 42] })
    (hs : a.eval s = v) (hx : a.eval x = .slice (some ⟨W.heap.size, 0, none⟩) m m)
    (h : ∀ v' w', Gat w p C v' (n + m) w' → wpList Tryd.prog ops Q rest (a.put o.dst v') w') : wpList Tryd.prog ops Q (o :: rest) a (W.alloc (.cells cs 3)) := by
  obtain ⟨i0, hi0, hz0, hz1, hz2⟩ := info_parts int_info
  have hl := Lies.new W 3 cs
  refine wpList_append_own (W.alloc (.cells cs 3)) hgd s x 42 ho (w.heap.size + 1) 3 i0 _ 1 8 Tryd.underlying42 hi0 hz0 hz1 hz2 rfl (by omega) v n (ids n) hs (G.own.alloc _) ⟨W.heap.size, 0, none⟩ m m (more n m) hx (by simp [more_length]) ?_ ?_ (by simp only [maxLen]; omega) (by omega) (by have := G.bx.lt; simp; omega) ?_
  · intro j u hu
    rw [← hcs] at hu
    rw [Addr.add_mid, Nat.zero_add, hl.cell j]
    simpa using hu
  · intro u hu
    obtain ⟨j, _, rfl⟩ := List.mem_map.1 hu
    rfl
  · intro v' w' h1 h2 _
    rw [ids_more] at h1
    have hne : ∀ k, v.ownBlock = some k → w.heap.size + 1 ≤ k := by
      intro k hk
      rcases G.own.2 with ⟨rfl, _⟩ | ⟨g, cap, cur, rfl, hg, _⟩
      · simp [Value.ownBlock] at hk
      · simp [Value.ownBlock] at hk; omega
    have hb : Below (w.heap.size + 1) W w' := ((Below.refl _ _).alloc (by have := G.bx.lt; omega) _).grown h2 (by have := G.bx.lt; simp; omega) hne
    exact h v' w' ⟨G.pl.keep hb (by have := G.old; omega), G.bx.below hb (by omega), h1, G.be.trans (hb.mono (by omega)), G.old⟩
end

/-- the numbers of a configuration that may be, as natural ones. -/
structure Nats (C : Nat → Int) (W L S E N T X : Nat) : Prop where
  w : C 0 = W
  l : C 1 = L
  s : plS C = S
  e : E = 3 + L * (1 + S)
  n : C 3 = N
  t : C 4 = T
  x : C 7 = X
theorem nats {C : Nat → Int} (h : Right C) : ∃ W L S E N T X : Nat, Nats C W L S E N T X := by
  have b := bds h
  have h0 := b.c0
  have h1 := b.c1
  have h3 := b.c3
  have h4 := b.c4
  have h7 := b.c7
  have hs := b.s
  exact ⟨(C 0).toNat, (C 1).toNat, (plS C).toNat, _, (C 3).toNat, (C 4).toNat, (C 7).toNat, by omega, by omega, by omega, rfl, by omega, by omega, by omega⟩

section
variable {C : Nat → Int} {W L S E N T X : Nat}
theorem Nats.plE (h : Nats C W L S E N T X) : plE C = E := by
  unfold Proofs.YtgbepebihlmedaaDoor.plE; rw [h.l, h.s, h.e]; push_cast; omega
theorem Nats.plA (h : Nats C W L S E N T X) : plA C = ((3 + W * E : Nat) : Int) := by
  unfold Proofs.YtgbepebihlmedaaDoor.plA; rw [h.w, h.plE]; push_cast; omega
theorem Nats.plB (h : Nats C W L S E N T X) : plB C = ((3 + W * E + N * 4 : Nat) : Int) := by
  unfold Proofs.YtgbepebihlmedaaDoor.plB; rw [h.plA, h.n]; push_cast; omega
theorem Nats.plD (h : Nats C W L S E N T X) : plD C = ((3 + W * E + N * 4 + T * 3 : Nat) : Int) := by
  unfold Proofs.YtgbepebihlmedaaDoor.plD; rw [h.plB, h.t]; push_cast; omega
theorem Nats.plZ (h : Nats C W L S E N T X) : plZ C = ((3 + W * E + N * 4 + T * 3 + X : Nat) : Int) := by
  unfold Proofs.YtgbepebihlmedaaDoor.plZ; rw [h.plD, h.x]; push_cast; omega
theorem Nats.inbox (h : Nats C W L S E N T X) (s : Nat) (hs : s < W) (q : Int) : plInbox C s q = ((3 + s * E : Nat) : Int) + q := by
  unfold plInbox; rw [placeR_in (by omega) (by rw [h.w]; omega), h.plE]; push_cast; omega
theorem Nats.map (h : Nats C W L S E N T X) (s k : Nat) (hs : s < W) (hk : k < L) : plMap C s k = ((3 + s * E + 3 + k * (1 + S) : Nat) : Int) := by
  unfold plMap; rw [if_pos (inB_iff.2 ⟨by omega, by rw [h.w]; omega⟩), placeR_in (by omega) (by rw [h.l]; omega), h.plE, h.s]; push_cast; omega
theorem Nats.slot (h : Nats C W L S E N T X) (s k i : Nat) (hs : s < W) (hk : k < L) (hi : i < S) : plSlot C s k i = ((3 + s * E + 3 + k * (1 + S) + 1 + i : Nat) : Int) := by
  unfold plSlot; rw [if_pos (inB_iff.2 ⟨by omega, by rw [h.s]; omega⟩), if_pos (inB_iff.2 ⟨by omega, by rw [h.w]; omega⟩), placeR_in (by omega) (by rw [h.l]; omega), h.plE, h.s]; push_cast; omega
theorem Nats.node (h : Nats C W L S E N T X) (n : Nat) (hn : n < N) (q : Int) : plNode C n q = ((3 + W * E + n * 4 : Nat) : Int) + q := by
  unfold plNode; rw [placeR_in (by omega) (by rw [h.n]; omega), h.plA]; push_cast; omega
theorem Nats.tick (h : Nats C W L S E N T X) (n : Nat) (hn : n < T) (q : Int) : plTick C n q = ((3 + W * E + N * 4 + n * 3 : Nat) : Int) + q := by
  unfold plTick; rw [placeR_in (by omega) (by rw [h.t]; omega), h.plB]; push_cast; omega
theorem Nats.conn (h : Nats C W L S E N T X) (n : Nat) (hn : n < X) : plConn C n = ((3 + W * E + N * 4 + T * 3 + n : Nat) : Int) := by
  unfold plConn; rw [placeR_in (by omega) (by rw [h.x]; omega), h.plD]; push_cast; omega
end

end Go.Proofs.YtgbepebihlmedaaDoor
