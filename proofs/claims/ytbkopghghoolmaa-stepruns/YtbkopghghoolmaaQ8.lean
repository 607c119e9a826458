/- The machine of acts. -/
import Derived.Test.YtbkopghghoolmaaQ5
import Derived.Test.YtbkopghghoolmaaQ7
import Derived.Test.YtbkopghghoolmaaVec
namespace Go.Proofs.Ytbkopghghoolmaa
open Go.RowKit

/-- an arena's numbers, how many accesses, and sums. -/
structure ASt where
  l : List Int
  k : Int
  x : Nat → Int

/-- an act: kind, cell, old number, number. -/
structure Act4 where
  kd : Int
  ix : Int
  od : Int
  vl : Int

def tell (y v : Int) : Int := IntKind.u64.wrap (IntKind.u64.wrap (y * 3) + v)
theorem tell_fit (y v : Int) : N64 (tell y v) := by unfold tell N64; rw [IntKind.wrap_u64]; omega

def act1 (s : ASt) (j : Nat) (a : Act4) : ASt :=
  if a.kd = 0 then ⟨s.l, moreA s.l a.ix s.k, updF s.x j (tell (s.x j) (getA s.l a.ix))⟩
  else if a.kd = 1 then ⟨setA s.l a.ix a.vl, moreA s.l a.ix s.k, updF s.x j (tell (s.x j) 0)⟩
  else if a.kd = 2 then ⟨setA s.l a.ix a.vl, moreA s.l a.ix s.k, updF s.x j (tell (s.x j) (getA s.l a.ix))⟩
  else if a.kd = 3 then ⟨casA s.l a.ix a.od a.vl, moreA s.l a.ix s.k, updF s.x j (tell (s.x j) (if casB s.l a.ix a.od = true then 1 else 0))⟩
  else s

/-- sums, as cells. -/
def sumsV (ns : Nat) (x : Nat → Int) : Array Value := vec ns fun i => .int .u64 (x i)
theorem sumsV_set (ns : Nat) (x : Nat → Int) (j : Nat) (v : Int) : (sumsV ns x).setIfInBounds j (.int .u64 v) = sumsV ns (updF x j v) := by
  unfold sumsV
  rw [vec_set]
  apply vec_ext
  intro i _
  unfold upv updF
  split <;> rfl

/-- the state in memory. -/
structure AI (p c sb ns r : Nat) (s : ASt) (w : World) : Prop where
  ar : Arena w p c s.l s.k
  room : s.k + r ≤ 4611686018427387904
  sum : Lies w sb 44 (sumsV ns s.x)
  fit : ∀ i, N64 (s.x i)

def AM (B p c sb ns : Nat) (LL : List Nat) : Mc ASt (Nat × List Act4) where
  ended q := q.2.isEmpty
  step q s := match q.2 with
    | [] => (q, s)
    | a :: r => ((q.1, r), act1 s q.1 a)
  I r s w := AI p c sb ns r s w
  B := B
  L := [p, c, sb]
  LL := LL

section
variable {B p c sb ns : Nat} {LL : List Nat}
theorem AI.less {r : Nat} {s : ASt} {w : World} (h : AI p c sb ns (r + 1) s w) : AI p c sb ns r s w := ⟨h.ar, by have := h.room; omega, h.sum, h.fit⟩
theorem AI.turns {r : Nat} {s : ASt} {w w' : World} {L : List Nat} (h : AI p c sb ns r s w) (k : Turns L w w') (h1 : p ∉ L) (h2 : c ∉ L) (h3 : sb ∉ L) : AI p c sb ns r s w' := ⟨h.ar.turn k h1 h2, h.room, h.sum.turn k h3, h.fit⟩
theorem AI.below {r : Nat} {s : ASt} {w w' : World} (h : AI p c sb ns r s w) (k : Below w.heap.size w w') : AI p c sb ns r s w' := h.turns (L := []) (Turns.of_below k (Nat.le_refl _)) (by simp) (by simp) (by simp)
theorem am_ok (hp : p ∈ LL) (hc : c ∈ LL) (hs : sb ∈ LL) : (AM B p c sb ns LL).Ok where
  less r s w h := AI.less h
  task r s w w' k h := by
    refine ⟨⟨k.lies h.ar.head (by simp) (by decide), k.lies h.ar.body (by simp) (by decide), h.ar.pos, h.ar.most, h.ar.fit, h.ar.k0⟩, h.room, k.lies h.sum (by simp) (by decide), h.fit⟩
  sub b hb := by
    have hb : b ∈ [p, c, sb] := hb
    simp at hb
    rcases hb with rfl | rfl | rfl <;> assumption
end

/-- the numbers of one act, in four cells from b on. -/
structure ActAt (w : World) (b : Addr) (x : Act4) : Prop where
  c0 : w.cell? b = some (.int .i64 x.kd)
  c1 : w.cell? ⟨b.block, b.off + 1, none⟩ = some (.int .i64 x.ix)
  c2 : w.cell? ⟨b.block, b.off + 2, none⟩ = some (.int .u64 x.od)
  c3 : w.cell? ⟨b.block, b.off + 3, none⟩ = some (.int .u64 x.vl)
  k0 : -9223372036854775808 ≤ x.kd ∧ x.kd ≤ 9223372036854775807
  c0' : -9223372036854775808 ≤ x.ix ∧ x.ix ≤ 9223372036854775807
  o0 : N64 x.od
  v0 : N64 x.vl

/-- acts that are handed in: they lie below B, and not in LL. -/
structure ActsIn (w : World) (B : Nat) (LL : List Nat) (A : Option Addr) (xs : List Act4) : Prop where
  most : xs.length ≤ maxLen
  at_ : 0 < xs.length → ∃ a, A = some a ∧ a.block < w.heap.size ∧ a.block < B ∧ a.block ∉ LL ∧ ∀ i x, xs[i]? = some x → ActAt w (a.add (i * 4)) x

theorem ActsIn.head {w : World} {B : Nat} {LL : List Nat} {A : Option Addr} {x : Act4} {r : List Act4} (h : ActsIn w B LL A (x :: r)) : ∃ a, A = some a ∧ a.block < w.heap.size ∧ ActAt w a x := by
  obtain ⟨a, e, h1, _, _, h2⟩ := h.at_ (by simp)
  have := h2 0 x rfl
  simp at this
  exact ⟨a, e, h1, by simpa [Addr.add] using this⟩
theorem ActsIn.tail {w : World} {B : Nat} {LL : List Nat} {a : Addr} {x : Act4} {r : List Act4} {cp : Nat} (h : ActsIn w B LL (some a) (x :: r)) (hc : r.length + 1 ≤ cp) : ActsIn w B LL (tailA a cp) r := by
  refine ⟨by have := h.most; simp at this; omega, fun hr => ?_⟩
  obtain ⟨a', e, h1, h2, h3, h4⟩ := h.at_ (by simp)
  injection e with e
  subst e
  refine ⟨a.add 4, by unfold tailA; rw [if_neg (by omega)], by rw [add_block]; exact h1, by rw [add_block]; exact h2, by rw [add_block]; exact h3, fun i y hy => ?_⟩
  rw [Go.Deep.add_add]
  have := h4 (i + 1) y (by simpa using hy)
  rwa [show (i + 1) * 4 = 4 + i * 4 by omega] at this
theorem ActAt.moves {w w' : World} {b : Addr} {x : Act4} {B : Nat} {LL : List Nat} (h : ActAt w b x) (k : Moves B LL w w') (h1 : b.block < w.heap.size) (h2 : b.block < B) (h3 : b.block ∉ LL) : ActAt w' b x :=
  ⟨(k.cell (p := b) h1 h2 h3).trans h.c0, (k.cell (p := ⟨b.block, b.off + 1, none⟩) h1 h2 h3).trans h.c1, (k.cell (p := ⟨b.block, b.off + 2, none⟩) h1 h2 h3).trans h.c2, (k.cell (p := ⟨b.block, b.off + 3, none⟩) h1 h2 h3).trans h.c3, h.k0, h.c0', h.o0, h.v0⟩
theorem ActsIn.moves {w w' : World} {B : Nat} {LL : List Nat} {A : Option Addr} {xs : List Act4} (h : ActsIn w B LL A xs) (k : Moves B LL w w') : ActsIn w' B LL A xs :=
  ⟨h.most, fun hn => by
    obtain ⟨a, e, h1, h2, h3, h4⟩ := h.at_ hn
    exact ⟨a, e, Nat.lt_of_lt_of_le h1 k.size, h2, h3, fun i x hx => (h4 i x hx).moves k (by rw [add_block]; exact h1) (by rw [add_block]; exact h2) (by rw [add_block]; exact h3)⟩⟩

end Go.Proofs.Ytbkopghghoolmaa
