/- Two rows of tasks that are made one by one. -/
import Derived.Test.YtbkopghghoolmaaQ14
import Derived.Test.YtbkopghghoolmaaQ16
namespace Go.Proofs.Ytbkopghghoolmaa
open Go.RowKit

theorem sums_zero (n : Nat) : nums (List.replicate n 0) = sumsV n (fun _ => 0) := by
  apply Array.ext_getElem?
  intro i
  by_cases h : i < n
  · rw [show (sumsV n fun _ => 0)[i]? = some (.int .u64 0) from vec_at h]
    simp [nums, h]
  · rw [Array.getElem?_eq_none (by simp [nums]; omega), Array.getElem?_eq_none (by rw [sumsV, vec_size]; omega)]

/-- two arenas and two rows of sums that have just been made. -/
structure Fr3 (w : World) (N n bx by' : Nat) (W : World) : Prop where
  a1 : AI (N + 1) N bx n 1000 zeroS W
  a2 : AI (N + 3) (N + 2) by' n 1000 zeroS W
  be : Below w.heap.size w W
  size : W.heap.size = N + 6
  le : w.heap.size ≤ N
  xy : (bx = N + 4 ∧ by' = N + 5) ∨ (bx = N + 5 ∧ by' = N + 4)
theorem fr3 {w w1 w2 w3 : World} (n : Nat) (h : Below w.heap.size w w1) (hm : Made w1 4 w2) (hm3 : Made w2 4 w3) {bx by' : Nat} (hxy : (bx = w1.heap.size + 4 ∧ by' = w1.heap.size + 5) ∨ (bx = w1.heap.size + 5 ∧ by' = w1.heap.size + 4)) :
    Fr3 w w1.heap.size n bx by' ((w3.alloc (.cells (nums (List.replicate n 0)) 44)).alloc (.cells (nums (List.replicate n 0)) 44)).drew := by
  obtain ⟨h1, h2, h3⟩ := hm
  obtain ⟨k1, k2, k3⟩ := hm3
  have hs := h.size
  rw [h3] at k1 k3
  have e3 : w3.heap.size = w1.heap.size + 4 := by omega
  have tu : Turns [] w3 ((w3.alloc (.cells (nums (List.replicate n 0)) 44)).alloc (.cells (nums (List.replicate n 0)) 44)).drew := (((Turns.refl _ _).alloc _).alloc _).drew
  have l1 : Lies ((w3.alloc (.cells (nums (List.replicate n 0)) 44)).alloc (.cells (nums (List.replicate n 0)) 44)).drew (w1.heap.size + 4) 44 (sumsV n zeroS.x) := by
    have := ((Lies.new_at 44 (nums (List.replicate n 0)) e3).alloc (.cells (nums (List.replicate n 0)) 44)).drew
    rw [sums_zero] at this ⊢
    exact this
  have l2 : Lies ((w3.alloc (.cells (nums (List.replicate n 0)) 44)).alloc (.cells (nums (List.replicate n 0)) 44)).drew (w1.heap.size + 5) 44 (sumsV n zeroS.x) := by
    have := (Lies.new_at (w := w3.alloc (.cells (nums (List.replicate n 0)) 44)) (b := w1.heap.size + 5) 44 (nums (List.replicate n 0)) (by simp; omega)).drew
    rw [sums_zero] at this ⊢
    exact this
  have ar1 := (h1.below k2 (by omega) (by omega)).turn tu (by simp) (by simp)
  have ar2 := k1.turn tu (by simp) (by simp)
  have be := (((h.trans (h2.mono hs)).trans (k2.mono (by omega)))).trans (tu.below (B := w.heap.size) (by simp) (by omega))
  have sz : ((w3.alloc (.cells (nums (List.replicate n 0)) 44)).alloc (.cells (nums (List.replicate n 0)) 44)).drew.heap.size = w1.heap.size + 6 := by simp; omega
  rcases hxy with ⟨rfl, rfl⟩ | ⟨rfl, rfl⟩
  · exact ⟨⟨ar1, by decide, l1, fun _ => by simp [N64, zeroS]⟩, ⟨ar2, by decide, l2, fun _ => by simp [N64, zeroS]⟩, be, sz, hs, .inl ⟨rfl, rfl⟩⟩
  · exact ⟨⟨ar1, by decide, l2, fun _ => by simp [N64, zeroS]⟩, ⟨ar2, by decide, l1, fun _ => by simp [N64, zeroS]⟩, be, sz, hs, .inr ⟨rfl, rfl⟩⟩

/-- tasks that have been made, and the row that has them. -/
structure Tasks {St Pr : Type} (M : Mc St Pr) (m : Nat) (q : Nat → Pr) (v : Value) (ts : Nat → Nat) (i : Nat) (W : World) : Prop where
  row : VRow W M.B 38 v ((List.range i).map fun j => ptr (ts j))
  tk : ∀ j, j < i → TaskAt M m (q j) 0 (ts j) W
  inj : ∀ j k, j < i → k < i → ts j = ts k → j = k

section
variable {St Pr : Type} {M : Mc St Pr} {m : Nat} {q : Nat → Pr} {v : Value} {ts : Nat → Nat} {i : Nat} {W W' : World}
theorem Tasks.nil (M : Mc St Pr) (m : Nat) (q : Nat → Pr) (W : World) : Tasks M m q (.slice none 0 0) (fun _ => 0) 0 W := ⟨VRow.nil _ _ _, fun j hj => by omega, fun j k hj => by omega⟩
theorem Tasks.block {g : Nat} (h : Tasks M m q v ts i W) (hg : v.ownBlock = some g) : IsTask M.B W g := by
  obtain ⟨h1, cur, h2⟩ := h.row.lies hg
  exact ⟨h1, _, _, by decide, h2⟩
theorem Tasks.turns {L : List Nat} (h : Tasks M m q v ts i W) (k : Turns L W W') (g : Moves M.B M.LL W W') (h1 : ∀ j, j < i → ts j ∉ L) (h2 : ∀ g, v.ownBlock = some g → g ∉ L) : Tasks M m q v ts i W' :=
  ⟨h.row.turns k h2, fun j hj => (h.tk j hj).turns k g (h1 j hj), h.inj⟩
theorem Tasks.grow (h : Tasks M m q v ts i W) (k : Turns [] W W') : Tasks M m q v ts i W' := h.turns k (Moves.of_turns k (by simp)) (by simp) (by simp)
/-- one task more. -/
theorem Tasks.push {c v' : Value} (h : Tasks M m q v ts i W) (hc : CodeAt M m (q i) c W) (hL : ∀ b, b ∈ M.LL → b < W.heap.size) (hB : M.B ≤ W.heap.size)
    (hv : VRow W' M.B 38 v' (((List.range i).map fun j => ptr (ts j)) ++ [ptr W.heap.size])) (ht : Turns v.ownBlock.toList (W.alloc (.cells #[c, .int .i64 0] 67)) W') :
    Tasks M m q v' (updF ts i W.heap.size) (i + 1) W' := by
  have k0 := TaskAt.made hc hL hB
  have hg : ∀ g, v.ownBlock = some g → ∃ cur, Lies (W.alloc (.cells #[c, .int .i64 0] 67)) g 38 cur := fun g hg => by
    obtain ⟨_, cur, h2⟩ := h.row.lies hg
    exact ⟨cur, h2.alloc _⟩
  have mo : Moves M.B M.LL (W.alloc (.cells #[c, .int .i64 0] 67)) W' := Moves.of_turns ht (fun b hb => by
    simp at hb
    obtain ⟨cur, h2⟩ := hg b hb
    exact .inr (.inr ⟨(h.row.lies hb).1, _, _, by decide, h2⟩))
  have out : ∀ {d t : Nat} {p : Pr}, TaskAt M m p d t (W.alloc (.cells #[c, .int .i64 0] 67)) → t ∉ v.ownBlock.toList := fun h1 hm => by
    simp at hm
    obtain ⟨cur, h2⟩ := hg _ hm
    obtain ⟨u, h3, _⟩ := h1.at_
    exact h3.unlike h2 (by decide) rfl
  have lt : ∀ j, j < i → ts j < W.heap.size := fun j hj => (h.tk j hj).lt
  refine ⟨?_, fun j hj => ?_, fun j k hj hk e => ?_⟩
  · have e : (List.range (i + 1)).map (fun j => ptr (updF ts i W.heap.size j)) = ((List.range i).map fun j => ptr (ts j)) ++ [ptr W.heap.size] := by
      rw [List.range_succ, List.map_append]
      congr 1
      · apply List.map_congr_left
        intro j hj
        rw [updF_ne _ _ (by have := List.mem_range.1 hj; omega)]
      · simp [updF]
    rw [e]
    exact hv
  · by_cases hji : j = i
    · subst hji
      rw [updF_same]
      exact k0.turns ht mo (out k0)
    · rw [updF_ne _ _ hji]
      have tu : Turns [] W (W.alloc (.cells #[c, .int .i64 0] 67)) := (Turns.refl _ _).alloc _
      have k1 := (h.tk j (by omega)).turns tu (Moves.of_turns tu (by simp)) (by simp)
      exact k1.turns ht mo (out k1)
  · unfold updF at e
    split at e <;> split at e
    · omega
    · have := lt k (by omega); omega
    · have := lt j (by omega); omega
    · exact h.inj j k (by omega) (by omega) e

/-- the row, as Run takes it. -/
theorem Tasks.trow (h : Tasks M m q v ts i W) (L : List Nat) (hL : ∀ b, b ∈ L → ¬ ∃ cur, Lies W b 38 cur) : ∃ A cp, v = .slice A i cp ∧ TRow W L A i ts ∧ (0 < i → ∃ g, A = some ⟨g, 0, none⟩ ∧ v.ownBlock = some g) := by
  obtain ⟨A, cp, e, h1, h2⟩ := h.row.slice
  rw [List.length_map, List.length_range] at e h1 h2
  refine ⟨A, cp, e, ⟨h1, h.inj, fun hn => ?_⟩, fun hn => ?_⟩
  · obtain ⟨g, rfl, hg, hc⟩ := h2 hn
    obtain ⟨_, cur, hl⟩ := h.row.lies hg
    refine ⟨_, rfl, hl.lt, fun hm => hL _ hm ⟨cur, hl⟩, fun j hj e => ?_, fun j hj => ?_⟩
    · obtain ⟨u, h3, _⟩ := (h.tk j hj).at_
      exact h3.unlike hl (by decide) e.symm
    · rw [add_head4]
      exact hc j _ (by simp [hj])
  · obtain ⟨g, rfl, hg, _⟩ := h2 hn
    exact ⟨g, rfl, hg⟩
end

end Go.Proofs.Ytbkopghghoolmaa
