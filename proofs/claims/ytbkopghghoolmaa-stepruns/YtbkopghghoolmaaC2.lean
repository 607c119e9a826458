/- Contracts of an arena's accesses. -/
import Derived.Test.YtbkopghghoolmaaC1
namespace Go.Proofs.Ytbkopghghoolmaa
open Go.RowKit

/-- numbers, as cells. -/
def nums (l : List Int) : Array Value := (l.map (Value.int .u64)).toArray

/-- is there such a cell? -/
def hasA (l : List Int) (i : Int) : Bool := decide (0 ≤ i) && decide (i < l.length)

/-- what the cell has; 0 if there is none. -/
def getA (l : List Int) (i : Int) : Int := if hasA l i = true then l.getD i.toNat 0 else 0

/-- the cell has v then, if there is one. -/
def setA (l : List Int) (i v : Int) : List Int := if hasA l i = true then l.set i.toNat v else l

/-- an access more, if there is one. -/
def moreA (l : List Int) (i k : Int) : Int := if hasA l i = true then k + 1 else k

def N64 (v : Int) : Prop := 0 ≤ v ∧ v < 18446744073709551616

/-- an arena at block p, whose cells lie at block c and have the numbers l; k accesses. -/
structure Arena (w : World) (p c : Nat) (l : List Int) (k : Int) : Prop where
  head : Lies w p 65 #[.slice (some ⟨c, 0, none⟩) l.length l.length, .int .i64 k]
  body : Lies w c 78 (nums l)
  pos : 1 ≤ l.length
  most : l.length ≤ 1048576
  fit : ∀ x, x ∈ l → N64 x
  k0 : 0 ≤ k

theorem hasA_yes {l : List Int} {i : Nat} (h : i < l.length) : hasA l i = true := by simp [hasA]; omega

theorem hasA_iff {l : List Int} {i : Int} : hasA l i = true ↔ 0 ≤ i ∧ i < l.length := by simp [hasA]

theorem getA_nat {l : List Int} {i : Nat} (h : i < l.length) : getA l i = l[i] := by simp [getA, hasA_yes h, h]

theorem setA_nat {l : List Int} {i : Nat} (h : i < l.length) (v : Int) : setA l i v = l.set i v := by simp [setA, hasA_yes h]

theorem setA_length (l : List Int) (i v : Int) : (setA l i v).length = l.length := by unfold setA; split <;> simp

theorem nums_size (l : List Int) : (nums l).size = l.length := by simp [nums]

theorem nums_at {l : List Int} {i : Nat} (h : i < l.length) : (nums l)[i]? = some (.int .u64 (getA l i)) := by rw [getA_nat h]; simp [nums, h]

theorem nums_set (l : List Int) (i : Nat) (v : Int) : (nums l).setIfInBounds i (.int .u64 v) = nums (l.set i v) := by
  simp [nums, List.map_set]

section
variable {w w' : World} {p c : Nat} {l : List Int} {k : Int}

theorem Arena.ne (h : Arena w p c l k) : p ≠ c := h.head.unlike h.body (by decide)

theorem Arena.fitA (h : Arena w p c l k) (i : Int) : N64 (getA l i) := by
  unfold getA
  split
  · rename_i hh
    rw [hasA_iff] at hh
    have : i.toNat < l.length := by omega
    simp [this]
    exact h.fit _ (List.getElem_mem _)
  · simp [N64]

theorem Arena.turn {L : List Nat} (h : Arena w p c l k) (g : Turns L w w') (hp : p ∉ L) (hc : c ∉ L) : Arena w' p c l k :=
  ⟨h.head.turn g hp, h.body.turn g hc, h.pos, h.most, h.fit, h.k0⟩

theorem Arena.below {B : Nat} (h : Arena w p c l k) (g : Below B w w') (hp : p < B) (hc : c < B) : Arena w' p c l k :=
  ⟨h.head.below g hp, h.body.below g hc, h.pos, h.most, h.fit, h.k0⟩

theorem Arena.count (h : Arena w p c l k) (k' : Int) (h0 : 0 ≤ k') : Arena (w.setCell ⟨p, 1, none⟩ (.int .i64 k')) p c l k' := by
  refine ⟨?_, h.body.far (p := ⟨p, 1, none⟩) h.ne.symm _, h.pos, h.most, h.fit, h0⟩
  have := h.head.set 1 (.int .i64 k')
  simpa using this

theorem Arena.put (h : Arena w p c l k) (i : Nat) (v : Int) (hv : N64 v) : Arena (w.setCell ⟨c, i, none⟩ (.int .u64 v)) p c (l.set i v) k := by
  refine ⟨?_, ?_, by simpa using h.pos, by simpa using h.most, ?_, h.k0⟩
  · have := h.head.far (p := ⟨c, i, none⟩) h.ne (.int .u64 v)
    simpa using this
  · rw [← nums_set]; exact h.body.set i _
  · intro x hx
    rcases List.mem_or_eq_of_mem_set hx with h1 | h1
    · exact h.fit x h1
    · subst h1; exact hv
end

theorem reach_in (p c : Nat) (l : List Int) (k : Int) (i : Nat) (w : World) (h : Arena w p c l k) (hi : i < l.length) (hk : k < 9223372036854775807) :
    Calls Try.prog 37 #[.pointer (some ⟨p, 0, none⟩), .int .i64 i] w fun e w' => e = .returned (.bool true) ∧ w.setCell ⟨p, 1, none⟩ (.int .i64 (k + 1)) = w' := by
  have h0 := h.head.cell 0
  have h1 := h.head.cell 1
  have f1 := h.head.frozen 1
  have k0 := h.k0
  simp at h0 h1
  go_enter Try.func37, Try.ntmps37
  go_wp2_with fail
  refine (iadd _ _ k _ (by omega) (by omega) (by simpa using h1) (by simpa using f1)).mono ?_
  rintro e w' ⟨rfl, rfl⟩
  go_wp2
  go_ret
  exact ⟨rfl, rfl⟩

theorem reach_out (p c : Nat) (l : List Int) (k : Int) (i : Int) (w : World) (h : Arena w p c l k) (hi : hasA l i = false) :
    Calls Try.prog 37 #[.pointer (some ⟨p, 0, none⟩), .int .i64 i] w fun e w' => e = .returned (.bool false) ∧ w = w' := by
  have h0 := h.head.cell 0
  simp at h0
  have ho : i < 0 ∨ 0 ≤ i ∧ (l.length : Int) ≤ i := by
    rcases Int.lt_or_le i 0 with h1 | h1
    · exact .inl h1
    · refine .inr ⟨h1, ?_⟩
      simp [hasA] at hi
      exact hi h1
  clear hi
  rcases ho with ho | ⟨ho, hq⟩
  · go_enter Try.func37, Try.ntmps37
    go_wp2
    go_ret
    exact ⟨rfl, rfl⟩
  · have hn : ¬ i < 0 := by omega
    go_enter Try.func37, Try.ntmps37
    go_wp2
    go_ret
    exact ⟨rfl, rfl⟩

end Go.Proofs.Ytbkopghghoolmaa
