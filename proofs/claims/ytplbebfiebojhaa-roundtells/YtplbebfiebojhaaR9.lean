/- The document's With and Batches. -/
import Derived.Test.YtplbebfiebojhaaR6
import Derived.Test.YtplbebfiebojhaaR8
namespace Go.Proofs.Ytplbebfiebojhaa
open Go.RowKit

/-- one number of the list: what is there so far, and whether n has been put. -/
def wstep (n x : Int) (st : List Int × Bool) : List Int × Bool :=
  if x = n then (if st.2 = false then (st.1 ++ [n], true) else st)
  else if st.2 = false ∧ n ≤ x then (st.1 ++ [n] ++ [x], true) else (st.1 ++ [x], st.2)
def wst (xs : List Int) (n : Int) : Nat → List Int × Bool
  | 0 => ([], false)
  | m + 1 => wstep n (xs.getD m 0) (wst xs n m)
/-- the list with n. -/
def withF (xs : List Int) (n : Int) : List Int := if (wst xs n xs.length).2 = true then (wst xs n xs.length).1 else (wst xs n xs.length).1 ++ [n]

theorem wst_succ (xs : List Int) (n : Int) (m : Nat) : wst xs n (m + 1) = wstep n (xs.getD m 0) (wst xs n m) := rfl
theorem wst_len (xs : List Int) (n : Int) : ∀ m, (wst xs n m).1.length ≤ 2 * m
  | 0 => by simp [wst]
  | m + 1 => by
    have := wst_len xs n m
    rw [wst_succ]; unfold wstep
    (repeat' split) <;> simp <;> omega

/-- of a rising list. -/
structure WInv (xs : List Int) (n : Int) (m : Nat) (st : List Int × Bool) : Prop where
  mem : ∀ y, y ∈ st.1 ↔ (y ∈ xs.take m ∧ y ≠ n) ∨ (y = n ∧ st.2 = true)
  up : st.1.Pairwise (· < ·)
  lt : ∀ y, y ∈ st.1 → ∀ j, m ≤ j → j < xs.length → y < xs.getD j 0
  yes : st.2 = true → ∀ j, m ≤ j → j < xs.length → n < xs.getD j 0
  no : st.2 = false → ∀ y, y ∈ st.1 → y < n

theorem getD_lt {xs : List Int} (h : xs.Pairwise (· < ·)) {i j : Nat} (hij : i < j) (hj : j < xs.length) : xs.getD i 0 < xs.getD j 0 := by
  have := List.pairwise_iff_getElem.1 h i j (by omega) hj hij
  simpa [List.getD, hj, show i < xs.length by omega] using this

theorem pw_snoc {l : List Int} {x : Int} (h : l.Pairwise (· < ·)) (k : ∀ y, y ∈ l → y < x) : (l ++ [x]).Pairwise (· < ·) := by
  rw [List.pairwise_append]
  exact ⟨h, List.pairwise_singleton _ _, fun a ha b hb => by rw [List.mem_singleton] at hb; subst hb; exact k a ha⟩

theorem winv (xs : List Int) (n : Int) (h : xs.Pairwise (· < ·)) : ∀ m, m ≤ xs.length → WInv xs n m (wst xs n m)
  | 0, _ => ⟨by simp [wst], by simp [wst], by simp [wst], by simp [wst], by simp [wst]⟩
  | m + 1, hm => by
    have I := winv xs n h m (by omega)
    have hx : xs.getD m 0 = xs[m] := by simp [List.getD, show m < xs.length by omega]
    have htk : ∀ y, y ∈ xs.take (m + 1) ↔ y ∈ xs.take m ∨ y = xs.getD m 0 := by
      intro y; rw [List.take_succ_eq_append_getElem (by omega), List.mem_append, List.mem_singleton, hx]
    have hnext : ∀ j, m + 1 ≤ j → j < xs.length → xs.getD m 0 < xs.getD j 0 := fun j h1 h2 => getD_lt h (by omega) h2
    have hlt := fun y hy => I.lt y hy m (Nat.le_refl _) (by omega)
    have hyes := fun e => I.yes e m (Nat.le_refl _) (by omega)
    rw [wst_succ]
    clear hx hm
    generalize xs.getD m 0 = x at *
    generalize wst xs n m = st at *
    obtain ⟨l, p⟩ := st
    have imem := I.mem
    have iup := I.up
    have ino := I.no
    simp only at imem iup ino hlt hyes
    unfold wstep
    cases p
    · by_cases hxn : x = n
      · subst hxn
        simp only [if_true]
        refine ⟨fun y => ?_, pw_snoc iup (ino rfl), fun y hy j h1 h2 => ?_, fun _ j h1 h2 => hnext j h1 h2, by simp⟩
        · rw [List.mem_append, List.mem_singleton, imem, htk]
          by_cases e : y = x <;> simp [e]
        · rcases List.mem_append.1 hy with k | k
          · exact I.lt y k j (by omega) h2
          · rw [List.mem_singleton] at k; subst k; exact hnext j h1 h2
      · by_cases hnx : n ≤ x
        · have hlt2 : n < x := by omega
          simp only [if_neg hxn, hnx, and_self, if_true]
          refine ⟨fun y => ?_, pw_snoc (pw_snoc iup (ino rfl)) (fun y hy => ?_), fun y hy j h1 h2 => ?_, fun _ j h1 h2 => ?_, by simp⟩
          · rw [List.mem_append, List.mem_append, List.mem_singleton, List.mem_singleton, imem, htk]
            by_cases e : y = n
            · subst e; simp
            · simp [e]
          · rcases List.mem_append.1 hy with k | k
            · exact hlt y k
            · rw [List.mem_singleton] at k; omega
          · have := hnext j h1 h2
            rcases List.mem_append.1 hy with k | k
            · rcases List.mem_append.1 k with k | k
              · have := hlt y k; omega
              · rw [List.mem_singleton] at k; omega
            · rw [List.mem_singleton] at k; omega
          · have := hnext j h1 h2; omega
        · simp only [if_neg hxn, hnx, and_false, if_false]
          refine ⟨fun y => ?_, pw_snoc iup hlt, fun y hy j h1 h2 => ?_, fun e => by simp at e, fun _ y hy => ?_⟩
          · rw [List.mem_append, List.mem_singleton, imem, htk]
            by_cases e : y = x
            · subst e; simp [hxn]
            · simp [e]
          · have := hnext j h1 h2
            rcases List.mem_append.1 hy with k | k
            · have := hlt y k; omega
            · rw [List.mem_singleton] at k; omega
          · rcases List.mem_append.1 hy with k | k
            · exact ino rfl y k
            · rw [List.mem_singleton] at k; omega
    · have hnx := hyes rfl
      have hxn : x ≠ n := by omega
      simp only [if_neg hxn]
      refine ⟨fun y => ?_, ?_, ?_, ?_, ?_⟩
      · simp only [Bool.true_eq_false, false_and, if_false]
        rw [List.mem_append, List.mem_singleton, imem, htk]
        by_cases e : y = x
        · subst e; simp [hxn]
        · simp [e]
      · simp only [Bool.true_eq_false, false_and, if_false]
        exact pw_snoc iup hlt
      · simp only [Bool.true_eq_false, false_and, if_false]
        intro y hy j h1 h2
        have := hnext j h1 h2
        rcases List.mem_append.1 hy with k | k
        · have := hlt y k; omega
        · rw [List.mem_singleton] at k; omega
      · intro _ j h1 h2
        have := hnext j h1 h2; omega
      · simp

theorem withF_rises {dl xs : List Int} {n : Int} (h : Rises dl xs) : Rises (dl ++ [n]) (withF xs n) := by
  have I := winv xs n h.up xs.length (Nat.le_refl _)
  have hm := I.mem
  have hno := I.no
  rw [List.take_length] at hm
  unfold withF
  split
  · rename_i hp
    refine ⟨fun y => ?_, I.up⟩
    rw [hm, hp, List.mem_append, List.mem_singleton, ← h.mem]
    by_cases e : y = n <;> simp [e]
  · rename_i hp
    have hp' : (wst xs n xs.length).2 = false := by simpa using hp
    refine ⟨fun y => ?_, pw_snoc I.up (hno hp')⟩
    rw [List.mem_append, List.mem_append, List.mem_singleton, hm, hp', ← h.mem]
    by_cases e : y = n <;> simp [e]

end Go.Proofs.Ytplbebfiebojhaa
