/- Contracts by kind: the document's Do, and the program's. -/
import Derived.Test.YtpikcfnfappdiaaC16
import Derived.Test.YtpikcfnfappdiaaArgS
import Derived.Deep.RegionHeld3
namespace Go.Proofs.Ytpikcfnfappdiaa
open Go.RowKit

/-- the numbers behind an access of that kind. -/
def newK (kd : Int) (l : List Int) (i o v : Int) : List Int :=
  if kd = 0 then l else if kd = 1 then setA l i v else if kd = 2 then setA l i v else if kd = 3 then casA l i o v else setA l i (sum64 (getA l i) v)
/-- the number that it answers. -/
def ansK (kd : Int) (l : List Int) (i : Int) : Int := if kd = 0 then getA l i else if kd = 1 then 0 else if kd = 2 then getA l i else if kd = 3 then 0 else getA l i
/-- the truth that it answers. -/
def okK (kd : Int) (l : List Int) (i o : Int) : Bool := if kd = 0 then false else if kd = 1 then hasA l i else if kd = 2 then false else if kd = 3 then casB l i o else false

theorem kind_cases (kd : Int) : kd = 0 ∨ kd = 1 ∨ kd = 2 ∨ kd = 3 ∨ kd ≠ 0 ∧ kd ≠ 1 ∧ kd ≠ 2 ∧ kd ≠ 3 := by omega
theorem newK_4 {kd : Int} (h : kd ≠ 0 ∧ kd ≠ 1 ∧ kd ≠ 2 ∧ kd ≠ 3) (l : List Int) (i o v : Int) : newK kd l i o v = setA l i (sum64 (getA l i) v) := by
  obtain ⟨h0, h1, h2, h3⟩ := h; simp [newK, h0, h1, h2, h3]
theorem ansK_4 {kd : Int} (h : kd ≠ 0 ∧ kd ≠ 1 ∧ kd ≠ 2 ∧ kd ≠ 3) (l : List Int) (i : Int) : ansK kd l i = getA l i := by
  obtain ⟨h0, h1, h2, h3⟩ := h; simp [ansK, h0, h1, h2, h3]
theorem okK_4 {kd : Int} (h : kd ≠ 0 ∧ kd ≠ 1 ∧ kd ≠ 2 ∧ kd ≠ 3) (l : List Int) (i o : Int) : okK kd l i o = false := by
  obtain ⟨h0, h1, h2, h3⟩ := h; simp [okK, h0, h1, h2, h3]

theorem rdoK {g n cp : Nat} {k : Int} {l : List Int} {w : World} (kd i o v : Int) (hr : 0 ≤ kd ∧ kd ≤ 4) (h : Held w g l) (hn : l.length = n) (hm : n ≤ 1048576) (hk0 : 0 ≤ k) (hk : k < 9223372036854775807) (hf : ∀ x, x ∈ l → U64 x) :
    Calls Try.prog 11 #[.agg #[.slice (some ⟨g, 0, none⟩) n cp, .int .i64 k], .int .i64 kd, .int .i64 i, .int .u64 o, .int .u64 v] w (RDone w n (newK kd l i o v) (moreA l i k) (ansK kd l i) (okK kd l i o)) := by
  rcases (by omega : kd = 0 ∨ kd = 1 ∨ kd = 2 ∨ kd = 3 ∨ kd = 4) with rfl | rfl | rfl | rfl | rfl
  · exact rdo0 i o v h hn hk0 hk
  · exact rdo1 i o v h hn hm hk0 hk hf
  · exact rdo2 i o v h hn hm hk0 hk hf
  · exact rdo3 i o v h hn hm hk0 hk hf
  · rw [newK_4 (by omega), ansK_4 (by omega), okK_4 (by omega)]
    exact rdo4 i o v h hn hm hk0 hk hf

theorem rdoKK {g n cp : Nat} {k : Int} {l : List Int} {w : World} (kd i o v : Int) (hr : kd < 0 ∨ 4 < kd) (h : Held w g l) (hn : l.length = n) (hm : n ≤ 1048576) (hk0 : 0 ≤ k) (hk : k < 9223372036854775807) (hf : ∀ x, x ∈ l → U64 x) :
    Calls Try.prog 11 #[.agg #[.slice (some ⟨g, 0, none⟩) n cp, .int .i64 k], .int .i64 4, .int .i64 i, .int .u64 o, .int .u64 v] w (RDone w n (newK kd l i o v) (moreA l i k) (ansK kd l i) (okK kd l i o)) := by
  rw [newK_4 (by omega), ansK_4 (by omega), okK_4 (by omega)]
  exact rdo4 i o v h hn hm hk0 hk hf

theorem doK {p c : Nat} {l : List Int} {k : Int} {w : World} (kd i o v : Int) (h : Arena w p c l k) (hv : U64 v) (hk : k < 9223372036854775807) :
    Calls Try.prog 12 #[.pointer (some ⟨p, 0, none⟩), .agg #[.int .i64 kd, .int .i64 i, .int .u64 o, .int .u64 v]] w fun e w' => e = .returned (.tuple #[.int .u64 (ansK kd l i), .bool (okK kd l i o)]) ∧ Aft w p c (newK kd l i o v) (moreA l i k) w' := by
  rcases kind_cases kd with rfl | rfl | rfl | rfl | h4
  · exact do0 i o v h hk
  · exact do1 i o v h hv hk
  · exact do2 i o v h hv hk
  · exact do3 i o v h hv hk
  · rw [newK_4 h4, ansK_4 h4, okK_4 h4]
    exact do4 kd i o v h hk (beq_eq_false_iff_ne.2 h4.1) (beq_eq_false_iff_ne.2 h4.2.1) (beq_eq_false_iff_ne.2 h4.2.2.1) (beq_eq_false_iff_ne.2 h4.2.2.2)

theorem newK_length (kd : Int) (l : List Int) (i o v : Int) : (newK kd l i o v).length = l.length := by
  unfold newK casA
  repeat' split
  all_goals simp [setA_length]
theorem moreA_bd (l : List Int) (i k : Int) : k ≤ moreA l i k ∧ moreA l i k ≤ k + 1 := by
  unfold moreA; split <;> omega

/-- in the midst of the accesses: the arena, and the document's in its box, have the same numbers. -/
structure PlayAt (w : World) (C M N : Nat) (l : List Int) (k : Int) (g cap : Nat) (W : World) : Prop where
  len : l.length = N
  ar : Arena W (C + 1) C l k
  bx : Lies W M 30 #[.slice (some ⟨g, 0, none⟩) N cap, .int .i64 k]
  h : Held W g l
  be : Below w.heap.size w W

/-- within a round: the arena, the document's, the access in its box. -/
structure PlayIn (w : World) (C M X N : Nat) (l lr : List Int) (k kr : Int) (g cap : Nat) (kd ix od vl : Int) (W : World) : Prop where
  ar : Arena W (C + 1) C l k
  bx : Lies W M 30 #[.slice (some ⟨g, 0, none⟩) N cap, .int .i64 kr]
  h : Held W g lr
  x : Lies W X 35 #[.int .i64 kd, .int .i64 ix, .int .u64 od, .int .u64 vl]
  be : Below w.heap.size w W

section
variable {w : World} {C M X N : Nat} {l lr : List Int} {k kr : Int} {g cap : Nat} {kd ix od vl : Int} {W W' : World}
theorem Held.unlike {t : TypeId} {cs : Array Value} {m : Nat} (h : Held W g l) (k : Lies W m t cs) (hne : 33 ≠ t) : g ≠ m := by
  obtain ⟨cur, hl, _⟩ := h
  exact hl.unlike k hne
theorem PlayIn.below (p : PlayIn w C M X N l lr k kr g cap kd ix od vl W) (hb : Below W.heap.size W W') : PlayIn w C M X N l lr k kr g cap kd ix od vl W' :=
  ⟨p.ar.below hb p.ar.head.lt p.ar.body.lt, p.bx.below hb p.bx.lt, p.h.keep hb p.h.lt, p.x.below hb p.x.lt, p.be.trans (hb.mono p.be.size)⟩
theorem PlayIn.drew (p : PlayIn w C M X N l lr k kr g cap kd ix od vl W) : PlayIn w C M X N l lr k kr g cap kd ix od vl W.drew := ⟨p.ar.drew, p.bx, p.h, p.x, p.be.drew⟩
theorem PlayIn.out (p : PlayIn w C M X N l l k k g cap kd ix od vl W) (hn : l.length = N) (q : Nat) : PlayAt w C M N l k g cap (W.drewN q) := ⟨hn, p.ar.drewN q, p.bx, p.h, drawn p.be q⟩
theorem PlayIn.next {l' : List Int} {k' : Int} {g2 cap2 : Nat} (p : PlayIn w C M X N l lr k kr g cap kd ix od vl W) (hM : w.heap.size ≤ M) (h2 : Held W g2 l') :
    PlayIn w C M X N l l' k k' g2 cap2 kd ix od vl ((W.setCell ⟨M, 0, none⟩ (.slice (some ⟨g2, 0, none⟩) N cap2)).setCell ⟨M, 1, none⟩ (.int .i64 k')) := by
  have t : Turns [M] W ((W.setCell ⟨M, 0, none⟩ (.slice (some ⟨g2, 0, none⟩) N cap2)).setCell ⟨M, 1, none⟩ (.int .i64 k')) := ((Turns.refl _ _).setCell (.inl (by simp)) _).setCell (.inl (by simp)) _
  have n1 := p.bx.unlike p.ar.head (by decide)
  have n2 := p.bx.unlike p.ar.body (by decide)
  have n3 := h2.unlike p.bx (by decide)
  have n4 := p.x.unlike p.bx (by decide)
  refine ⟨p.ar.turn t (by simp; omega) (by simp; omega), ?_, h2.turn t (by simp; omega), p.x.turn t (by simp; omega), (p.be.setCell (p := ⟨M, 0, none⟩) hM _).setCell (p := ⟨M, 1, none⟩) hM _⟩
  have := (p.bx.set 0 (.slice (some ⟨g2, 0, none⟩) N cap2)).set 1 (.int .i64 k')
  simpa using this
theorem PlayIn.aft {l' : List Int} {k' : Int} (p : PlayIn w C M X N l lr k kr g cap kd ix od vl W) (hC : w.heap.size ≤ C) (a : Aft W (C + 1) C l' k' W') : PlayIn w C M X N l' lr k' kr g cap kd ix od vl W' := by
  have n1 := p.bx.unlike p.ar.head (by decide)
  have n2 := p.bx.unlike p.ar.body (by decide)
  have n3 := p.h.unlike p.ar.head (by decide)
  have n4 := p.h.unlike p.ar.body (by decide)
  have n5 := p.x.unlike p.ar.head (by decide)
  have n6 := p.x.unlike p.ar.body (by decide)
  exact ⟨a.1, p.bx.turn a.2 (by simp; omega), p.h.turn a.2 (by simp; omega), p.x.turn a.2 (by simp; omega), p.be.trans (a.2.below (by simp; omega) p.be.size)⟩
end

end Go.Proofs.Ytpikcfnfappdiaa
