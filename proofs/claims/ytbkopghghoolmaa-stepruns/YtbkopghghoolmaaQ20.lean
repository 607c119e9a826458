/- Two machines side by side: one runs, then the other. -/
import Derived.Test.YtbkopghghoolmaaQ18
namespace Go.Proofs.Ytbkopghghoolmaa
open Go.RowKit

theorem AI.no {p c sb ns r : Nat} {s : ASt} {W : World} (h : AI p c sb ns r s W) : ∀ b, b ∈ [p, c, sb] → ¬ ∃ cur, Lies W b 38 cur := by
  rintro b hb ⟨cur, hc⟩
  simp at hb
  rcases hb with rfl | rfl | rfl
  · exact h.ar.head.unlike hc (by decide) rfl
  · exact h.ar.body.unlike hc (by decide) rfl
  · exact h.sum.unlike hc (by decide) rfl

/-- tasks with their state, whatever they have done. -/
structure Side (B p c sb n : Nat) (LL : List Nat) (A : Option Addr) (ts : Nat → Nat) (m : Nat) (k : Cfg ASt (Nat × List Act4)) (W : World) : Prop where
  all : All (AM B p c sb n LL) m n ts k W
  row : TRow W [p, c, sb] A n ts
  ge : ∀ i, i < n → B ≤ ts i
  out : ∀ i, i < n → ts i ∉ LL
  ab : 0 < n → ∃ a cur, A = some a ∧ Lies W a.block 38 cur

section
variable {B p c sb n : Nat} {LL : List Nat} {A : Option Addr} {ts : Nat → Nat} {m : Nat} {k : Cfg ASt (Nat × List Act4)} {W W' : World}
theorem Side.ai (h : Side B p c sb n LL A ts m k W) : AI p c sb n m k.s W := h.all.inv

/-- another machine's writing leaves it as it is. -/
theorem Side.turns {L : List Nat} (h : Side B p c sb n LL A ts m k W) (g : Turns L W W') (mo : Moves B LL W W') (h1 : ∀ i, i < n → ts i ∉ L) (h2 : p ∉ L) (h3 : c ∉ L) (h4 : sb ∉ L) (h5 : ∀ b, b ∈ L → ¬ ∃ cur, Lies W b 38 cur) : Side B p c sb n LL A ts m k W' := by
  have hA : ∀ a, A = some a → 0 < n → a.block ∉ L := fun a e hn hm => by
    obtain ⟨a', cur, e', hl⟩ := h.ab hn
    rw [e] at e'
    injection e' with e'
    subst e'
    exact h5 _ hm ⟨cur, hl⟩
  refine ⟨⟨fun i hi => (h.all.tk i hi).turns g mo (h1 i hi), h.ai.turns g h2 h3 h4⟩, ⟨h.row.most, h.row.inj, fun hn => ?_⟩, h.ge, h.out, fun hn => ?_⟩
  · obtain ⟨a, e, g1, g2, g3, g4⟩ := h.row.at_ hn
    exact ⟨a, e, Nat.lt_of_lt_of_le g1 g.size, g2, g3, fun i hi => (g.cell (by rw [add_block]; exact g1) (by rw [add_block]; exact hA a e hn)).trans (g4 i hi)⟩
  · obtain ⟨a, cur, e, hl⟩ := h.ab hn
    exact ⟨a, cur, e, hl.turn g (hA a e hn)⟩

/-- what it writes when it runs. -/
theorem Side.L (h : Side B p c sb n LL A ts m k W) : ∀ b, b ∈ tsL n ts ++ (AM B p c sb n LL).L → ¬ ∃ cur, Lies W b 38 cur := by
  rintro b hb
  rcases List.mem_append.1 hb with h1 | h1
  · obtain ⟨i, hi, rfl⟩ := tsL_mem.1 h1
    rintro ⟨cur, hc⟩
    obtain ⟨u, h2, _⟩ := (h.all.tk i hi).at_
    exact h2.unlike hc (by decide) rfl
  · exact h.ai.no b h1
theorem Side.low (h : Side B p c sb n LL A ts m k W) (h1 : B ≤ p) (h2 : B ≤ c) (h3 : B ≤ sb) : ∀ b, b ∈ tsL n ts ++ (AM B p c sb n LL).L → B ≤ b := by
  intro b hb
  rcases List.mem_append.1 hb with h4 | h4
  · obtain ⟨i, hi, rfl⟩ := tsL_mem.1 h4
    exact h.ge i hi
  · have h4 : b ∈ [p, c, sb] := h4
    simp at h4
    omega

theorem Side.run (hok : (AM B p c sb n LL).Ok) (h : Side B p c sb n LL A ts m k W) (P : Option Addr) (ca np cpp : Nat) (ps : List Int) (hR : RowX W (tsL n ts ++ (AM B p c sb n LL).L) P np ps) (hf : np ≤ m) (hc : k.n = 0) (hd : ∀ i, i < n → k.d i + np < 4611686018427387904) :
    Calls Try.prog 12 #[.slice A n ca, .slice P np cpp] W fun e w' => e = .returned (.int .i64 (pickTo (AM B p c sb n LL) n k ps np).n) ∧
      Side B p c sb n LL A ts (m - np) (pickTo (AM B p c sb n LL) n k ps np) w' ∧ Turns (tsL n ts ++ (AM B p c sb n LL).L) W w' ∧ Moves B LL W w' := by
  refine (run_any hok A P n ca np cpp ts ps k W h.row hR h.all hf hc hd).mono ?_
  rintro e w' ⟨he, R⟩
  refine ⟨he, ⟨R.all, h.row.turn R.tu, h.ge, h.out, fun hn => ?_⟩, R.tu, R.mo⟩
  obtain ⟨a, cur, e, hl⟩ := h.ab hn
  exact ⟨a, cur, e, hl.turn R.tu (fun hm => h.L _ hm ⟨cur, hl⟩)⟩
/-- the counting begins anew. -/
theorem Side.zero (h : Side B p c sb n LL A ts m k W) : Side B p c sb n LL A ts m ⟨k.s, k.q, k.d, 0⟩ W := ⟨⟨h.all.tk, h.all.inv⟩, h.row, h.ge, h.out, h.ab⟩
end

/-- two sides apart. -/
theorem apart2 {B p c sb p' c' sb' n : Nat} {LL : List Nat} {A A' : Option Addr} {ts ts' : Nat → Nat} {m m' : Nat} {k k' : Cfg ASt (Nat × List Act4)} {W W' : World} (h : Side B p c sb n LL A ts m k W) (h' : Side B p' c' sb' n LL A' ts' m' k' W) (g : Turns (tsL n ts ++ (AM B p c sb n LL).L) W W') (mo : Moves B LL W W')
    (hd : ∀ i j, i < n → j < n → ts i ≠ ts' j) (hp : p ∈ LL) (hc : c ∈ LL) (hs : sb ∈ LL) (hp' : p' ∈ LL) (hc' : c' ∈ LL) (hs' : sb' ∈ LL) (n1 : p' ∉ [p, c, sb]) (n2 : c' ∉ [p, c, sb]) (n3 : sb' ∉ [p, c, sb]) : Side B p' c' sb' n LL A' ts' m' k' W' := by
  have inLL : ∀ b, b ∈ LL → b ∉ [p, c, sb] → b ∉ tsL n ts ++ (AM B p c sb n LL).L := fun b hb hn hm => by
    rcases List.mem_append.1 hm with h1 | h1
    · obtain ⟨i, hi, rfl⟩ := tsL_mem.1 h1
      exact h.out i hi hb
    · exact hn h1
  refine h'.turns g mo (fun j hj hm => ?_) (inLL _ hp' n1) (inLL _ hc' n2) (inLL _ hs' n3) h.L
  rcases List.mem_append.1 hm with h1 | h1
  · obtain ⟨i, hi, e⟩ := tsL_mem.1 h1
    exact hd i j hi hj e
  · have h1 : ts' j ∈ [p, c, sb] := h1
    simp at h1
    rcases h1 with h1 | h1 | h1
    · exact h'.out j hj (h1 ▸ hp)
    · exact h'.out j hj (h1 ▸ hc)
    · exact h'.out j hj (h1 ▸ hs)

/-- both sides, and what lay there. -/
structure FinS (w : World) (LL : List Nat) (N n bx by' : Nat) (A1 A2 : Option Addr) (t1 t2 : Nat → Nat) (m m' : Nat) (k k' : Cfg ASt (Nat × List Act4)) (W : World) : Prop where
  s1 : Side w.heap.size (N + 1) N bx n LL A1 t1 m k W
  s2 : Side w.heap.size (N + 3) (N + 2) by' n LL A2 t2 m' k' W
  be : Below w.heap.size w W
theorem FinS.grow {w : World} {LL : List Nat} {N n bx by' : Nat} {A1 A2 : Option Addr} {t1 t2 : Nat → Nat} {m m' : Nat} {k k' : Cfg ASt (Nat × List Act4)} {W W' : World} (h : FinS w LL N n bx by' A1 A2 t1 t2 m m' k k' W) (g : Turns [] W W') : FinS w LL N n bx by' A1 A2 t1 t2 m m' k k' W' :=
  ⟨h.s1.turns g (Moves.of_turns g (by simp)) (by simp) (by simp) (by simp) (by simp) (by simp), h.s2.turns g (Moves.of_turns g (by simp)) (by simp) (by simp) (by simp) (by simp) (by simp), h.be.trans (g.below (by simp) h.be.size)⟩

def cfg0 (xss : Nat → List Act4) : Cfg ASt (Nat × List Act4) := ⟨zeroS, fun k => (k, xss k), fun _ => 0, 0⟩

theorem side_of {B p c sb n : Nat} {LL : List Nat} {xss : Nat → List Act4} {v : Value} {ts : Nat → Nat} {W : World} (h : Tasks (AM B p c sb n LL) 1000 (fun k => (k, xss k)) v ts n W) (a : AI p c sb n 1000 zeroS W) : ∃ A cp, v = .slice A n cp ∧ Side B p c sb n LL A ts 1000 (cfg0 xss) W := by
  obtain ⟨A, cp, e, hr, hg⟩ := h.trow [p, c, sb] a.no
  refine ⟨A, cp, e, ⟨h.tk, a⟩, hr, fun i hi => (h.tk i hi).base, fun i hi => (h.tk i hi).out, fun hn => ?_⟩
  obtain ⟨g, e1, e2⟩ := hg hn
  obtain ⟨_, cur, hl⟩ := h.row.lies e2
  exact ⟨_, cur, e1, hl⟩

theorem pick_same {B p c sb p' c' sb' n : Nat} {LL : List Nat} (k : Cfg ASt (Nat × List Act4)) (xs : List Int) (m : Nat) : pickTo (AM B p c sb n LL) n k xs m = pickTo (AM B p' c' sb' n LL) n k xs m := rfl

end Go.Proofs.Ytbkopghghoolmaa
