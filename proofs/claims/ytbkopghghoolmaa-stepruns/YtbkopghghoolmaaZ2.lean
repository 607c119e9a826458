/- The document's Run: what it comes to. -/
import Derived.Test.YtbkopghghoolmaaZ1
import Derived.Test.YtbkopghghoolmaaQ20
namespace Go.Proofs.Ytbkopghghoolmaa
open Go.RowKit

theorem updF_self {α : Type} (f : Nat → α) (j : Nat) : updF f j (f j) = f := by
  funext i
  unfold updF
  split
  · rename_i h; rw [h]
  · rfl
theorem act1_local (s : ASt) (p : Nat) (x : Act4) : act1 s p x = ⟨(act1 ⟨s.l, s.k, fun _ => s.x p⟩ 0 x).l, (act1 ⟨s.l, s.k, fun _ => s.x p⟩ 0 x).k, updF s.x p ((act1 ⟨s.l, s.k, fun _ => s.x p⟩ 0 x).x 0)⟩ := by
  unfold act1
  split
  · simp [updF_same]
  · split
    · simp [updF_same]
    · split
      · simp [updF_same]
      · split
        · simp [updF_same]
        · simp [updF_self]

theorem setA_fit {l : List Int} (h : ∀ x, x ∈ l → N64 x) (i : Int) {v : Int} (hv : N64 v) : ∀ x, x ∈ setA l i v → N64 x := by
  intro x hx
  unfold setA at hx
  split at hx
  · rcases List.mem_or_eq_of_mem_set hx with h1 | h1
    · exact h x h1
    · subst h1; exact hv
  · exact h x hx
theorem act1_fit {s : ASt} (j : Nat) {x : Act4} (h : ∀ y, y ∈ s.l → N64 y) (hv : N64 x.vl) : ∀ y, y ∈ (act1 s j x).l → N64 y := by
  unfold act1
  split
  · exact h
  · split
    · exact setA_fit h _ hv
    · split
      · exact setA_fit h _ hv
      · split
        · unfold casA
          split
          · exact setA_fit h _ hv
          · exact h
        · exact h
theorem act1_len (s : ASt) (j : Nat) (x : Act4) : (act1 s j x).l.length = s.l.length := by
  unfold act1
  split
  · rfl
  · split
    · exact setA_length _ _ _
    · split
      · exact setA_length _ _ _
      · split
        · show (casA s.l x.ix x.od x.vl).length = _
          unfold casA
          split
          · exact setA_length _ _ _
          · rfl
        · rfl

section
variable {B p c sb n : Nat} {LL : List Nat} {xss : Nat → List Act4}
/-- what is left of a task hangs on how many steps it did. -/
structure PInv (xss : Nat → List Act4) (k : Cfg ASt (Nat × List Act4)) : Prop where
  q : ∀ i, k.q i = (i, (xss i).drop (k.d i))
  d : ∀ i, k.d i ≤ (xss i).length
theorem pinv0 (xss : Nat → List Act4) : PInv xss (cfg0 xss) := ⟨fun i => by simp [cfg0], fun i => Nat.zero_le _⟩
theorem does_is {k : Cfg ASt (Nat × List Act4)} (h : PInv xss k) (i : Int) : doesP (AM B p c sb n LL) n k i = (decide (0 ≤ i ∧ i < n) && !decide ((xss i.toNat).length ≤ k.d i.toNat)) := by
  unfold doesP
  rw [h.q, am_endedX]
theorem pick1_is {k : Cfg ASt (Nat × List Act4)} (h : PInv xss k) (j : Nat) (hj : j < n) (x : Act4) (hx : (xss j)[k.d j]? = some x) : pick1 (AM B p c sb n LL) n k (j : Int) = ⟨act1 k.s j x, updF k.q j (j, (xss j).drop (k.d j + 1)), updF k.d j (k.d j + 1), k.n + 1⟩ := by
  have hlt := (List.getElem?_eq_some_iff.1 hx).1
  have hd : doesP (AM B p c sb n LL) n k (j : Int) = true := by
    rw [does_is h]
    simp [hj]; omega
  have e1 : (xss j).drop (k.d j) = x :: (xss j).drop (k.d j + 1) := by
    rw [List.drop_eq_getElem_cons hlt]
    have := (List.getElem?_eq_some_iff.1 hx).2
    rw [this]
  have e2 : (AM B p c sb n LL).step (k.q j) k.s = ((j, (xss j).drop (k.d j + 1)), act1 k.s j x) := by
    rw [h.q, e1]
    rfl
  unfold pick1
  rw [if_pos hd]
  simp only [Int.toNat_natCast, e2]
theorem pinv_step {k : Cfg ASt (Nat × List Act4)} (h : PInv xss k) (i : Int) : PInv xss (pick1 (AM B p c sb n LL) n k i) := by
  cases hd : doesP (AM B p c sb n LL) n k i with
  | false => rw [pick1_no hd]; exact h
  | true =>
    have hd' := hd
    rw [does_is h] at hd'
    simp at hd'
    obtain ⟨⟨h1, h2⟩, h3⟩ := hd'
    obtain ⟨j, rfl⟩ := Int.eq_ofNat_of_zero_le h1
    simp only [Int.toNat_natCast] at h3
    rw [pick1_is h j (by omega) _ (List.getElem?_eq_getElem h3)]
    refine ⟨fun i => ?_, fun i => ?_⟩
    · show updF k.q j _ i = (i, (xss i).drop (updF k.d j _ i))
      unfold updF
      split
      · rename_i e; rw [e]
      · exact h.q i
    · show updF k.d j _ i ≤ _
      unfold updF
      split
      · rename_i e; rw [e]; omega
      · exact h.d i
theorem pick_k (k : Cfg ASt (Nat × List Act4)) (i : Int) : (pick1 (AM B p c sb n LL) n k i).s.k ≤ k.s.k + 1 := by
  unfold pick1
  split
  · show ((AM B p c sb n LL).step (k.q i.toNat) k.s).2.k ≤ _
    show (match (k.q i.toNat).2 with | [] => (k.q i.toNat, k.s) | a :: r => (((k.q i.toNat).1, r), act1 k.s (k.q i.toNat).1 a)).2.k ≤ _
    split
    · show k.s.k ≤ _; omega
    · exact (act1_k _ _ _).2
  · omega
theorem pickTo_k (ps : List Int) : ∀ m, m ≤ ps.length → (pickTo (AM B p c sb n LL) n (cfg0 xss) ps m).s.k ≤ m
  | 0, _ => by simp [pickTo, cfg0, zeroS]
  | m + 1, h => by
    rw [pickTo_succ _ _ _ _ _ (by omega)]
    have h1 := pick_k (B := B) (p := p) (c := c) (sb := sb) (n := n) (LL := LL) (pickTo (AM B p c sb n LL) n (cfg0 xss) ps m) (ps.getD m 0)
    have h2 := pickTo_k ps m (by omega)
    omega
theorem pinv (ps : List Int) : ∀ m, m ≤ ps.length → PInv xss (pickTo (AM B p c sb n LL) n (cfg0 xss) ps m)
  | 0, _ => by simpa [pickTo] using pinv0 xss
  | m + 1, h => by rw [pickTo_succ _ _ _ _ _ (by omega)]; exact pinv_step (pinv ps m (by omega)) _
end

/-- the document's tasks in memory, from block g on: slices, steps done, sums. -/
structure RT (W : World) (g n : Nat) (Sl : Nat → Option Addr × Nat × Nat) (D : Nat → Nat) (X : Nat → Int) : Prop where
  at_ : ∃ cur, Lies W g 46 cur ∧ ∀ j, j < n → cur[3 * j]? = some (.slice (Sl j).1 (Sl j).2.1 (Sl j).2.2) ∧ cur[3 * j + 1]? = some (.int .i64 (D j)) ∧ cur[3 * j + 2]? = some (.int .u64 (X j))
section
variable {W W' : World} {g n : Nat} {Sl : Nat → Option Addr × Nat × Nat} {D : Nat → Nat} {X : Nat → Int}
theorem RT.lt (h : RT W g n Sl D X) : g < W.heap.size := by obtain ⟨cur, hl, _⟩ := h.at_; exact hl.lt
theorem RT.keep (h : RT W g n Sl D X) (k : W'.heap[g]? = W.heap[g]?) : RT W' g n Sl D X := by
  obtain ⟨cur, hl, hc⟩ := h.at_
  exact ⟨cur, k.trans hl, hc⟩
theorem RT.cells (h : RT W g n Sl D X) {j : Nat} (hj : j < n) : W.cell? ⟨g, 3 * j, none⟩ = some (.slice (Sl j).1 (Sl j).2.1 (Sl j).2.2) ∧ W.cell? ⟨g, 3 * j + 1, none⟩ = some (.int .i64 (D j)) ∧ W.cell? ⟨g, 3 * j + 2, none⟩ = some (.int .u64 (X j)) := by
  obtain ⟨cur, hl, hc⟩ := h.at_
  obtain ⟨h1, h2, h3⟩ := hc j hj
  exact ⟨(hl.cell _).trans h1, (hl.cell _).trans h2, (hl.cell _).trans h3⟩
theorem RT.frozen (h : RT W g n Sl D X) (i : Nat) : W.frozen? ⟨g, i, none⟩ = false := by obtain ⟨cur, hl, _⟩ := h.at_; exact hl.frozen i
theorem RT.set (h : RT W g n Sl D X) (j : Nat) (hj : j < n) (d : Nat) (x : Int) : RT (((W.setCell ⟨g, 3 * j, none⟩ (.slice (Sl j).1 (Sl j).2.1 (Sl j).2.2)).setCell ⟨g, 3 * j + 1, none⟩ (.int .i64 d)).setCell ⟨g, 3 * j + 2, none⟩ (.int .u64 x)) g n Sl (updF D j d) (updF X j x) := by
  obtain ⟨cur, hl, hc⟩ := h.at_
  obtain ⟨g1, g2, g3⟩ := hc j hj
  refine ⟨_, ((hl.set _ _).set _ _).set _ _, fun i hi => ?_⟩
  have l1 := (Array.getElem?_eq_some_iff.1 g1).1
  have l2 := (Array.getElem?_eq_some_iff.1 g2).1
  have l3 := (Array.getElem?_eq_some_iff.1 g3).1
  obtain ⟨k1, k2, k3⟩ := hc i hi
  by_cases hij : i = j
  · subst hij
    rw [updF_same, updF_same]
    simp only [Array.getElem?_setIfInBounds, Array.size_setIfInBounds]
    refine ⟨?_, ?_, ?_⟩
    · rw [if_neg (by omega), if_neg (by omega), if_pos trivial, if_pos l1]
    · rw [if_neg (by omega), if_pos trivial, if_pos l2]
    · rw [if_pos trivial, if_pos l3]
  · rw [updF_ne _ _ hij, updF_ne _ _ hij]
    simp only [Array.getElem?_setIfInBounds, Array.size_setIfInBounds]
    refine ⟨?_, ?_, ?_⟩
    · rw [if_neg (by omega), if_neg (by omega), if_neg (by omega)]; exact k1
    · rw [if_neg (by omega), if_neg (by omega), if_neg (by omega)]; exact k2
    · rw [if_neg (by omega), if_neg (by omega), if_neg (by omega)]; exact k3
end

end Go.Proofs.Ytbkopghghoolmaa
