/- Plain facts on the arena in which nothing has happened. -/
import Derived.Test.YtgbepebihlmedaaDoorP13
import Derived.Test.YtgbepebihlmedaaDoorC9
import Derived.Test.YtgbepebihlmedaaDoorW9
namespace Go.Proofs.YtgbepebihlmedaaDoor
open Go.RowKit

set_option linter.unusedVariables false
theorem wrap_one : wrap64 1 = 1 := by unfold wrap64; omega
theorem wrap_zero : wrap64 0 = 0 := by unfold wrap64; omega
theorem head_first : packW [0, wrap64 1, 0, 0] headWs = 1 := by
  rw [wrap_one]
  have ok : okTo [0, 1, 0, 0] headWs 2 := by
    intro i hi
    rcases i with _ | _ | i
    · simp [headWs, pw]
    · simp [headWs, pw]
    · omega
  rw [packW_ok ok]
  simp [headWs, packTo, pw]
theorem head_none : packW [0, wrap64 0, 0, 0] headWs = 0 := by
  rw [wrap_zero]
  have ok : okTo [0, 0, 0, 0] headWs 2 := by
    intro i hi
    rcases i with _ | _ | i
    · simp [headWs, pw]
    · simp [headWs, pw]
    · omega
  rw [packW_ok ok]
  simp [headWs, packTo, pw]
theorem state_idle (c : Int) (h : 0 ≤ c ∧ c ≤ 4294967295) : packW [c, 0, 0, 0] stateWs = c * 4294967296 := by
  have ok : okTo [c, 0, 0, 0] stateWs 3 := by
    intro i hi
    rcases i with _ | _ | _ | i
    · simp [stateWs, pw]; omega
    · simp [stateWs, pw]
    · simp [stateWs, pw]
    · omega
  rw [packW_ok ok]
  simp [stateWs, packTo, pw]
  omega
theorem get_gen (c : Int) (h : 0 ≤ c ∧ c ≤ 4294967295) : getW (c * 4294967296) 32 32 = c := by
  have hp : partB 32 32 = true := by decide
  simp [getW, hp, pw]; omega
theorem get_time (c : Int) (h : 0 ≤ c ∧ c ≤ 4294967295) : getW (c * 4294967296) 2 30 = 0 := by
  have hp : partB 2 30 = true := by decide
  simp [getW, hp, pw]; omega
theorem get_status (c : Int) (h : 0 ≤ c ∧ c ≤ 4294967295) : getW (c * 4294967296) 0 2 = 0 := by
  have hp : partB 0 2 = true := by decide
  simp [getW, hp, pw]; omega
theorem get_count : getW 1 32 32 = 0 := by decide
theorem get_index : getW 1 0 32 - 1 = 0 := by decide

/-- a list by a rule. -/
def nl (Z : Nat) (f : Nat → Int) : List Int := (List.range Z).map f
theorem nl_length (Z : Nat) (f : Nat → Int) : (nl Z f).length = Z := by simp [nl]
theorem nl_getA {Z : Nat} {f : Nat → Int} {i : Nat} (h : i < Z) : getA (nl Z f) i = f i := by
  rw [getA_nat (by simpa [nl] using h)]; simp [nl]
theorem nl_set {Z : Nat} {f : Nat → Int} (j : Nat) (v : Int) : (nl Z f).set j v = nl Z (upd f j v) := by
  apply List.ext_getElem
  · simp [nl]
  · intro i h1 h2
    rw [List.getElem_set]
    by_cases he : j = i
    · subst he; simp [nl, upd]
    · simp [nl, upd, he, Ne.symm he]
theorem nl_congr {Z : Nat} {f g : Nat → Int} (h : ∀ i, i < Z → f i = g i) : nl Z f = nl Z g := by
  apply List.ext_getElem
  · simp [nl]
  · intro i h1 h2
    simp [nl] at h1 ⊢
    exact h i h1
theorem nl_zero (Z : Nat) : List.replicate Z 0 = nl Z (fun _ => 0) := by
  apply List.ext_getElem
  · simp [nl]
  · intro i h1 h2; simp [nl]

/-- the numbers of the cells: the heads of the free nodes and tickets; of the nodes from m on, links up to k, states up to s; of the tickets from t on, links up to j. -/
def fr (A B T : Nat) (st a1 a2 : Int) (m k s t j i : Nat) : Int :=
  if i = 1 then a1 else if i = 2 then a2
  else if A ≤ i ∧ i < B then
    (if (i - A) % 4 = 3 then (if m ≤ (i - A) / 4 ∧ (i - A) / 4 < k then ((i - A) / 4 : Nat) + 2 else 0)
     else if (i - A) % 4 = 0 then (if m ≤ (i - A) / 4 ∧ (i - A) / 4 < s then st else 0) else 0)
  else if B ≤ i ∧ i < B + T * 3 then (if (i - B) % 3 = 2 then (if t ≤ (i - B) / 3 ∧ (i - B) / 3 < j then ((i - B) / 3 : Nat) + 2 else 0) else 0)
  else 0

section
variable {A B N T : Nat} {st a1 a2 : Int} {m k s t j i : Nat}
theorem fr_start (hA : 3 ≤ A) : fr A B T st 0 0 0 0 0 0 0 i = 0 := by
  unfold fr; repeat' split
  all_goals omega
theorem fr_end (hA : 3 ≤ A) (hB : B = A + N * 4) (hk : k ≤ N) (hs : s ≤ N) (hj : j ≤ T) : fr A B T st 0 0 N k s T j i = 0 := by
  unfold fr; repeat' split
  all_goals omega
theorem fr_fit (hst : N64 st) (h1 : N64 a1) (h2 : N64 a2) (hB : B ≤ 100000) (hT : T ≤ 10000) : N64 (fr A B T st a1 a2 m k s t j i) := by
  have z : N64 0 := by simp [N64]
  have y : ∀ x : Nat, x ≤ 1000000 → N64 ((x : Int) + 2) := fun x hx => by unfold N64; omega
  unfold fr
  repeat' split
  all_goals first | assumption | (apply y; omega)
theorem fr_head1 (v : Int) : upd (fr A B T st a1 a2 m k s t j) 1 v = fr A B T st v a2 m k s t j := by
  funext i; unfold upd fr
  by_cases h : i = 1
  · simp [h]
  · simp [h]
theorem fr_head2 (v : Int) : upd (fr A B T st a1 a2 m k s t j) 2 v = fr A B T st a1 v m k s t j := by
  funext i; unfold upd fr
  by_cases h : i = 2
  · simp [h]
  · simp [h]
theorem fr_link (hA : 3 ≤ A) (hB : B = A + N * 4) (hk : k < N) (hm : m ≤ k) : upd (fr A B T st a1 a2 m k s t j) (A + k * 4 + 3) (k + 2) = fr A B T st a1 a2 m (k + 1) s t j := by
  funext i; unfold upd
  by_cases h : i = A + k * 4 + 3
  · subst h
    unfold fr
    rw [if_pos rfl, if_neg (by omega), if_neg (by omega), if_pos (by omega), if_pos (by omega), if_pos (by omega)]
    omega
  · rw [if_neg h]
    unfold fr
    repeat' split
    all_goals omega
theorem fr_state (hA : 3 ≤ A) (hB : B = A + N * 4) (hs : s < N) (hm : m ≤ s) : upd (fr A B T st a1 a2 m k s t j) (A + s * 4) st = fr A B T st a1 a2 m k (s + 1) t j := by
  funext i; unfold upd
  by_cases h : i = A + s * 4
  · subst h
    unfold fr
    rw [if_pos rfl, if_neg (by omega), if_neg (by omega), if_pos (by omega), if_neg (by omega), if_pos (by omega), if_pos (by omega)]
  · rw [if_neg h]
    unfold fr
    repeat' split
    all_goals first | rfl | omega
theorem fr_tick (hA : 3 ≤ A) (hB : B = A + N * 4) (hj : j < T) (ht : t ≤ j) : upd (fr A B T st a1 a2 m k s t j) (B + j * 3 + 2) (j + 2) = fr A B T st a1 a2 m k s t (j + 1) := by
  funext i; unfold upd
  by_cases h : i = B + j * 3 + 2
  · subst h
    unfold fr
    rw [if_pos rfl, if_neg (by omega), if_neg (by omega), if_neg (by omega), if_pos (by omega), if_pos (by omega), if_pos (by omega)]
    omega
  · rw [if_neg h]
    unfold fr
    repeat' split
    all_goals first | rfl | omega
theorem fr_shard (hA : 3 ≤ A) (hB : B = A + N * 4) (x : Nat) (h3 : 3 ≤ x) (hx : x < A) : upd (fr A B T st a1 a2 m k s t j) x 0 = fr A B T st a1 a2 m k s t j := by
  funext i; unfold upd
  by_cases h : i = x
  · subst h
    unfold fr
    rw [if_pos rfl, if_neg (by omega), if_neg (by omega), if_neg (by omega), if_neg (by omega)]
  · rw [if_neg h]
/-- a node's cells are emptied. -/
theorem fr_node (hA : 3 ≤ A) (hB : B = A + N * 4) (hm : m < N) : upd (upd (fr A B T st a1 a2 m k s t j) (A + m * 4) 0) (A + m * 4 + 3) 0 = fr A B T st a1 a2 (m + 1) k s t j := by
  funext i; unfold upd
  by_cases h : i = A + m * 4 + 3
  · subst h
    unfold fr
    rw [if_pos rfl, if_neg (by omega), if_neg (by omega), if_pos (by omega), if_pos (by omega), if_neg (by omega)]
  · rw [if_neg h]
    by_cases h0 : i = A + m * 4
    · subst h0
      unfold fr
      rw [if_pos rfl, if_neg (by omega), if_neg (by omega), if_pos (by omega), if_neg (by omega), if_pos (by omega), if_neg (by omega)]
    · rw [if_neg h0]
      unfold fr
      repeat' split
      all_goals first | rfl | omega
theorem fr_ticket (hA : 3 ≤ A) (hB : B = A + N * 4) (ht : t < T) : upd (fr A B T st a1 a2 m k s t j) (B + t * 3 + 2) 0 = fr A B T st a1 a2 m k s (t + 1) j := by
  funext i; unfold upd
  by_cases h : i = B + t * 3 + 2
  · subst h
    unfold fr
    rw [if_pos rfl, if_neg (by omega), if_neg (by omega), if_neg (by omega), if_pos (by omega), if_pos (by omega), if_neg (by omega)]
  · rw [if_neg h]
    unfold fr
    repeat' split
    all_goals first | rfl | omega
theorem fr_at_state (hA : 3 ≤ A) (hB : B = A + N * 4) (hm : m < N) (hs : m < s) : fr A B T st a1 a2 m k s t j (A + m * 4) = st := by
  unfold fr
  rw [if_neg (by omega), if_neg (by omega), if_pos (by omega), if_neg (by omega), if_pos (by omega), if_pos (by omega)]
theorem fr_at_link (hA : 3 ≤ A) (hB : B = A + N * 4) (hm : m < N) (hk : m < k) : fr A B T st a1 a2 m k s t j (A + m * 4 + 3) = m + 2 := by
  unfold fr
  rw [if_neg (by omega), if_neg (by omega), if_pos (by omega), if_pos (by omega), if_pos (by omega)]
  omega
theorem fr_at_last (hA : 3 ≤ A) (hB : B = A + N * 4) (hm : m < N) (hk : k ≤ m) : fr A B T st a1 a2 m k s t j (A + m * 4 + 3) = 0 := by
  unfold fr
  rw [if_neg (by omega), if_neg (by omega), if_pos (by omega), if_pos (by omega), if_neg (by omega)]
theorem fr_at_tick (hA : 3 ≤ A) (hB : B = A + N * 4) (ht : t < T) (hj : t < j) : fr A B T st a1 a2 m k s t j (B + t * 3 + 2) = t + 2 := by
  unfold fr
  rw [if_neg (by omega), if_neg (by omega), if_neg (by omega), if_pos (by omega), if_pos (by omega), if_pos (by omega)]
  omega
theorem fr_at_tlast (hA : 3 ≤ A) (hB : B = A + N * 4) (ht : t < T) (hj : j ≤ t) : fr A B T st a1 a2 m k s t j (B + t * 3 + 2) = 0 := by
  unfold fr
  rw [if_neg (by omega), if_neg (by omega), if_neg (by omega), if_pos (by omega), if_pos (by omega), if_neg (by omega)]
end

end Go.Proofs.YtgbepebihlmedaaDoor
