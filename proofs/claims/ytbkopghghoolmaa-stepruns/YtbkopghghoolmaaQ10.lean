/- The code of acts does what the machine says. -/
import Derived.Test.YtbkopghghoolmaaQ9
namespace Go.Proofs.Ytbkopghghoolmaa
open Go.RowKit

section
variable {B p c sb ns : Nat} {LL : List Nat}
/-- what is asked of the machine's blocks. -/
structure Blocks (B p c sb : Nat) (LL : List Nat) : Prop where
  p : p ∈ LL
  c : c ∈ LL
  s : sb ∈ LL

/-- code() of acts gives code that does them, for m steps. -/
def CodesFor (B p c sb ns : Nat) (LL : List Nat) (m : Nat) : Prop :=
  ∀ (xs : List Act4) (A : Option Addr) (cp j : Nat) (w : World), ActsIn w B LL A xs → xs.length ≤ cp → j < ns → (∀ b, b ∈ LL → b < w.heap.size) → B ≤ w.heap.size →
    Calls Try.prog 9 #[ptr p, .slice A xs.length cp, .pointer (some ⟨sb, j, none⟩)] w fun e w' => ∃ v, e = .returned v ∧ CodeAt (AM B p c sb ns LL) m (j, xs) v w' ∧ Below w.heap.size w w'

theorem code_nil (A : Option Addr) (cp : Nat) (S : Option Addr) (w : World) :
    Calls Try.prog 9 #[ptr p, .slice A 0 cp, .pointer S] w fun e w' => e = .returned .nilFunc ∧ Below w.heap.size w w' := by
  go_enter Try.func9, Try.ntmps9
  go_wp2
  go_ret
  exact ⟨rfl, (((Below.refl _ _).alloc (Nat.le_refl _) _).alloc (by simp) _).alloc (by simp; omega) _⟩

theorem below_moves {w w' : World} (k : Below w.heap.size w w') : Moves B LL w w' := Moves.of_turns (L' := []) (Turns.of_below k (Nat.le_refl _)) (by simp)

/-- the rest of an act's code. -/
theorem rest_code {m : Nat} (ih : CodesFor B p c sb ns LL m) {w : World} {a : Addr} {cp j N : Nat} {x : Act4} {r : List Act4} {s : ASt} {q : Nat} (hb : Boxes w p ⟨sb, j, none⟩ a (r.length + 1) cp N) (hA : ActsIn w B LL (some a) (x :: r)) (hc : r.length + 1 ≤ cp) (hj : j < ns)
    (hL : ∀ b, b ∈ LL → b < w.heap.size) (hB : B ≤ w.heap.size) (hLL : Blocks B p c sb LL) (hN : ∀ b, b ∈ LL → b < N) (hi : AI p c sb ns q s w) :
    Then 23 #[ptr N, ptr (N + 1), ptr (N + 2)] w [p, c, sb] fun v w' => AI p c sb ns q s w' ∧ CodeAt (AM B p c sb ns LL) m (j, r) v w' := by
  have out : ∀ i, N + i ∉ [p, c, sb] := fun i hm => by
    have h1 := hN _ hLL.p
    have h2 := hN _ hLL.c
    have h3 := hN _ hLL.s
    simp at hm
    omega
  refine rest_any hb.bx hb.l hb.s (by omega) (out 0) (out 1) (out 2) ?_
  have hA' : ActsIn w.drew B LL (tailA a cp) r := (hA.tail hc).moves (Moves.of_turns (L' := []) ((Turns.refl _ w).drew) (by simp))
  have := ih r (tailA a cp) (cp - 1) j w.drew hA' (by omega) hj hL hB
  unfold Then
  rw [show r.length + 1 - 1 = r.length by omega]
  refine this.mono ?_
  rintro e w' ⟨v, he, h1, h2⟩
  have h2 : Below w.heap.size w.drew w' := h2
  refine ⟨v, he, ⟨?_, h1⟩, Turns.of_below h2 (Nat.le_refl _)⟩
  exact hi.turns (L := []) (((Turns.refl [] w).drew).trans (Turns.of_below h2 (Nat.le_refl _))) (by simp) (by simp) (by simp)

/-- behind a told number. -/
def toldS (s : ASt) (j : Nat) (v : Int) : ASt := ⟨s.l, s.k, updF s.x j (tell (s.x j) v)⟩

theorem told_code {m : Nat} (ih : CodesFor B p c sb ns LL m) {w : World} {a : Addr} {cp j N : Nat} {x : Act4} {r : List Act4} {s : ASt} {q : Nat} (v : Int) (hb : Boxes w p ⟨sb, j, none⟩ a (r.length + 1) cp N) (hA : ActsIn w B LL (some a) (x :: r)) (hc : r.length + 1 ≤ cp) (hj : j < ns)
    (hL : ∀ b, b ∈ LL → b < w.heap.size) (hB : B ≤ w.heap.size) (hLL : Blocks B p c sb LL) (hN : ∀ b, b ∈ LL → b < N) (hi : AI p c sb ns q s w) :
    Then 24 #[.int .u64 v, ptr (N + 2), ptr (N + 4)] w [p, c, sb] fun v' w' => AI p c sb ns q (toldS s j v) w' ∧ CodeAt (AM B p c sb ns LL) m (j, r) v' w' := by
  have hsN := hN _ hLL.s
  have hcs : w.cell? ⟨sb, j, none⟩ = some (.int .u64 (s.x j)) := by rw [hi.sum.cell j]; exact vec_at hj
  have t0 : Turns [sb] w (w.setCell ⟨sb, j, none⟩ (.int .u64 (tell (s.x j) v))).drew := (((Turns.refl [sb] w).setCell (.inl (by simp)) _).drew)
  have m0 : Moves B LL w (w.setCell ⟨sb, j, none⟩ (.int .u64 (tell (s.x j) v))).drew := Moves.of_turns t0 (fun b hb => by simp at hb; subst hb; exact .inl hLL.s)
  refine told_any ent_rest hb.s hb.r hcs (hi.sum.frozen j) (by simp; omega) (by simp) ?_
  have hsz : (w.setCell ⟨sb, j, none⟩ (.int .u64 (tell (s.x j) v))).drew.heap.size = w.heap.size := by simp [World.setCell]
  refine rest_code ih (hb.moves m0 hN) (hA.moves m0) hc hj (fun b hb => by have := hL b hb; exact Nat.lt_of_lt_of_eq this hsz.symm) (Nat.le_trans hB (Nat.le_of_eq hsz.symm)) hLL hN ?_
  refine ⟨hi.ar.turn t0 ?_ ?_, hi.room, ?_, fun i => ?_⟩
  · have := hi.ar.head.unlike hi.sum (by decide); simpa using this
  · have := hi.ar.body.unlike hi.sum (by decide); simpa using this
  · have := (hi.sum.set j (.int .u64 (tell (s.x j) v))).drew
    rw [sumsV_set] at this
    exact this
  · show N64 (updF s.x j (tell (s.x j) v) i)
    unfold updF
    split
    · exact tell_fit _ _
    · exact hi.fit i

theorem ai_aft {w w' : World} {s : ASt} {q : Nat} {l' : List Int} {k' : Int} (hi : AI p c sb ns (q + 1) s w) (h : Aft w p c l' k' w') (hk : k' ≤ s.k + 1) : AI p c sb ns q ⟨l', k', s.x⟩ w' := by
  refine ⟨h.1, ?_, hi.sum.turn h.2 ?_, hi.fit⟩
  · have := hi.room
    show k' + _ ≤ _
    omega
  · have h1 := hi.ar.head.unlike hi.sum (by decide)
    have h2 := hi.ar.body.unlike hi.sum (by decide)
    simp
    omega
theorem moreA_le (l : List Int) (i k : Int) : moreA l i k ≤ k + 1 := by unfold moreA; split <;> omega

theorem codes_for (hLL : Blocks B p c sb LL) : ∀ m, CodesFor B p c sb ns LL m := by
  intro m
  induction m with
  | zero =>
    intro xs A cp j w hA hc hj hL hB
    cases xs with
    | nil =>
      refine (code_nil A cp _ w).mono ?_
      rintro e w' ⟨rfl, hb⟩
      exact ⟨_, rfl, .inl ⟨rfl, rfl⟩, hb⟩
    | cons x r =>
      obtain ⟨a, rfl, ha, hx⟩ := hA.head
      refine (code_pre w (by simp) hx ha).mono ?_
      rintro e w' ⟨v, rfl, _, hv, hb⟩
      refine ⟨v, rfl, .inr ⟨rfl, ?_⟩, hb⟩
      cases hv <;> exact ⟨_, _, rfl⟩
  | succ m ih =>
    intro xs A cp j w hA hc hj hL hB
    cases xs with
    | nil =>
      refine (code_nil A cp _ w).mono ?_
      rintro e w' ⟨rfl, hb⟩
      exact ⟨_, rfl, .inl ⟨rfl, rfl⟩, hb⟩
    | cons x r =>
      obtain ⟨a, rfl, ha, hx⟩ := hA.head
      have hx0 := hx
      refine (code_pre w (by simp) hx ha).mono ?_
      rintro e w' ⟨v, rfl, hbo, hv, hb⟩
      have hA1 := hA.moves (below_moves hb)
      have out : ∀ b, w.heap.size ≤ b → b ∉ LL := fun b hb hm => by have := hL _ hm; omega
      have out3 : ∀ b, w.heap.size ≤ b → b ∉ [p, c, sb] := fun b hb hm => by
        have h1 := hL _ hLL.p
        have h2 := hL _ hLL.c
        have h3 := hL _ hLL.s
        simp at hm
        omega
      have hp : p ∈ [p, c, sb] := by simp
      have hcc : c ∈ [p, c, sb] := by simp
      -- what holds of each later world
      have later : ∀ w2, Moves B LL w' w2 → Boxes w2 p ⟨sb, j, none⟩ a (r.length + 1) cp w.heap.size ∧ ActsIn w2 B LL (some a) (x :: r) ∧ (∀ b, b ∈ LL → b < w2.heap.size) ∧ B ≤ w2.heap.size := fun w2 hm =>
        ⟨hbo.moves hm hL, hA1.moves hm, fun b hb2 => Nat.lt_of_lt_of_le (hL b hb2) (Nat.le_trans hb.size hm.size), Nat.le_trans hB (Nat.le_trans hb.size hm.size)⟩
      have kbd : ∀ {w2 : World} {s : ASt} {q : Nat}, AI p c sb ns (q + 1) s w2 → s.k < 9223372036854775807 := fun h => by have := h.room; omega
      have aftm : ∀ {w2 w3 : World} {l' : List Int} {k' : Int}, Moves B LL w' w2 → Aft w2 p c l' k' w3 → Moves B LL w' w3 := fun hm h => hm.trans (Moves.of_turns h.2 (fun b hb => by
        simp at hb
        rcases hb with rfl | rfl
        · exact .inl hLL.p
        · exact .inl hLL.c))
      refine ⟨v, rfl, .inr ⟨rfl, ?_⟩, hb⟩
      cases hv with
      | load b0 b1 b2 h h0 h1 h2 n0 n1 n2 =>
        refine ⟨_, _, rfl, ent_load1, fun w2 s q hm hi => ?_⟩
        have hi : AI p c sb ns (q + 1) s w2 := hi
        refine load1_any ent_told (hm.lies h0 (out _ n0) (by decide)) (hm.lies h1 (out _ n1) (by decide)) (hm.lies h2 (out _ n2) (by decide)) hi.ar (kbd hi) hp hcc (out3 _ n0) (out3 _ n1) (out3 _ n2) ?_
        intro w3 h3
        obtain ⟨g1, g2, g3, g4⟩ := later w3 (aftm hm h3)
        refine (told_code ih _ g1 g2 hc hj g3 g4 hLL hL (ai_aft hi h3 (moreA_le _ _ _))).mono ?_
        rintro v' w4 ⟨q1, q2⟩
        refine ⟨?_, q2⟩
        show AI p c sb ns q (act1 s j x) w4
        unfold act1
        rw [if_pos h]
        exact q1
      | store b0 b1 b2 b3 h h0 h1 h2 h3 n0 n1 n2 n3 =>
        refine ⟨_, _, rfl, ent_store1, fun w2 s q hm hi => ?_⟩
        have hi : AI p c sb ns (q + 1) s w2 := hi
        refine store1_any ent_told0 (hm.lies h0 (out _ n0) (by decide)) (hm.lies h1 (out _ n1) (by decide)) (hm.lies h2 (out _ n2) (by decide)) (hm.lies h3 (out _ n3) (by decide)) hi.ar (kbd hi) hx0.v0 hp hcc (out3 _ n3) ?_
        intro w3 h3
        obtain ⟨g1, g2, g3, g4⟩ := later w3 (aftm hm h3)
        refine told0_any ent_told g1.t ?_
        refine (told_code ih _ g1 g2 hc hj g3 g4 hLL hL (ai_aft hi h3 (moreA_le _ _ _))).mono ?_
        rintro v' w4 ⟨q1, q2⟩
        refine ⟨?_, q2⟩
        show AI p c sb ns q (act1 s j x) w4
        unfold act1
        rw [if_neg (by omega), if_pos h]
        exact q1
      | swap b0 b1 b2 b3 h h0 h1 h2 h3 n0 n1 n2 n3 =>
        refine ⟨_, _, rfl, ent_swap1, fun w2 s q hm hi => ?_⟩
        have hi : AI p c sb ns (q + 1) s w2 := hi
        refine swap1_any ent_told (hm.lies h0 (out _ n0) (by decide)) (hm.lies h1 (out _ n1) (by decide)) (hm.lies h2 (out _ n2) (by decide)) (hm.lies h3 (out _ n3) (by decide)) hi.ar (kbd hi) hx0.v0 hp hcc (out3 _ n0) (out3 _ n1) (out3 _ n2) (out3 _ n3) ?_
        intro w3 h3
        obtain ⟨g1, g2, g3, g4⟩ := later w3 (aftm hm h3)
        refine (told_code ih _ g1 g2 hc hj g3 g4 hLL hL (ai_aft hi h3 (moreA_le _ _ _))).mono ?_
        rintro v' w4 ⟨q1, q2⟩
        refine ⟨?_, q2⟩
        show AI p c sb ns q (act1 s j x) w4
        unfold act1
        rw [if_neg (by omega), if_neg (by omega), if_pos h]
        exact q1
      | cas b0 b1 b2 b3 b4 h h0 h1 h2 h3 h4 n0 n1 n2 n3 n4 =>
        refine ⟨_, _, rfl, ent_cas1, fun w2 s q hm hi => ?_⟩
        have hi : AI p c sb ns (q + 1) s w2 := hi
        refine cas1_any ent_toldb (hm.lies h0 (out _ n0) (by decide)) (hm.lies h1 (out _ n1) (by decide)) (hm.lies h2 (out _ n2) (by decide)) (hm.lies h3 (out _ n3) (by decide)) (hm.lies h4 (out _ n4) (by decide)) hi.ar (kbd hi) hx0.v0 hp hcc (out3 _ n0) (out3 _ n1) (out3 _ n2) (out3 _ n3) (out3 _ n4) ?_
        intro w3 h3
        obtain ⟨g1, g2, g3, g4⟩ := later w3 (aftm hm h3)
        refine toldb_any _ ent_told g1.t ?_
        refine (told_code ih _ g1 g2 hc hj g3 g4 hLL hL (ai_aft hi h3 (moreA_le _ _ _))).mono ?_
        rintro v' w4 ⟨q1, q2⟩
        refine ⟨?_, q2⟩
        show AI p c sb ns q (act1 s j x) w4
        unfold act1
        rw [if_neg (by omega), if_neg (by omega), if_neg (by omega), if_pos h]
        exact q1
      | idle b0 h h0 n0 =>
        refine ⟨_, _, rfl, ent_idle1, fun w2 s q hm hi => ?_⟩
        have hi : AI p c sb ns (q + 1) s w2 := hi
        refine idle1_any ent_rest (hm.lies h0 (out _ n0) (by decide)) ?_
        obtain ⟨g1, g2, g3, g4⟩ := later w2 hm
        refine (rest_code ih g1 g2 hc hj g3 g4 hLL hL (AI.less hi)).mono ?_
        rintro v' w4 ⟨q1, q2⟩
        refine ⟨?_, q2⟩
        show AI p c sb ns q (act1 s j x) w4
        unfold act1
        rw [if_neg h.1, if_neg h.2.1, if_neg h.2.2.1, if_neg h.2.2.2]
        exact q1
end

end Go.Proofs.Ytbkopghghoolmaa
