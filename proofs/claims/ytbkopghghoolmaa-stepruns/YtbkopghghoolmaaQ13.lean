/- Acts that are handed in; what the machine of acts comes to. -/
import Derived.Test.YtbkopghghoolmaaQ12
import Derived.Test.YtbkopghghoolmaaArgS
namespace Go.Proofs.Ytbkopghghoolmaa
open Go.RowKit Go.ChangeShapes Go.WideShapes

def actKinds : List IntKind := [.i64, .i64, .u64, .u64]
abbrev Acts (w : World) (A : Option Addr) (n : Nat) (F : Nat → Nat → Int) : Prop := SRow w actKinds A n F

theorem Acts.opened {H : Type} {enc : TypeId × Value → H} {w : World} {base : Nat} {spare : Nat → Bool} {held : Bool} {a : Option Addr} {n c : Nat} {d : DataW H} {p : List MemPlace}
    (h : DataW.Trod enc Try.prog w base spare held 37 (.slice a n c) d p) : ∃ F, Acts w a n F := by
  refine SRow.opened Try.underlying37 Try.underlying69 (by kernel_rfl) (by decide) ?_ h
  intro j k hj
  match j, hj with
  | 0, hj => cases hj; exact ⟨_, rfl, rfl, by kernel_rfl, Try.underlying3⟩
  | 1, hj => cases hj; exact ⟨_, rfl, rfl, by kernel_rfl, Try.underlying3⟩
  | 2, hj => cases hj; exact ⟨_, rfl, rfl, by kernel_rfl, Try.underlying44⟩
  | 3, hj => cases hj; exact ⟨_, rfl, rfl, by kernel_rfl, Try.underlying44⟩
  | j + 4, hj => simp [actKinds] at hj

theorem slice_cap {H : Type} {enc : TypeId × Value → H} {P : Program} {w : World} {base : Nat} {spare : Nat → Bool} {held : Bool} {t e : TypeId} {a : Option Addr} {n c : Nat} {d : DataW H} {p : List MemPlace} (ht : P.underlying t = some (.slice e))
    (h : DataW.Trod enc P w base spare held t (.slice a n c) d p) : n ≤ c := by
  obtain ⟨fuel, hf⟩ := h
  rcases Go.Deep.open_slice ht hf with ⟨hcs, _⟩ | ⟨x, len, cap, m, nn, D, Pl, hcs, _, hlc, _⟩
  · simp [Value.cells] at hcs
    omega
  · simp [Value.cells] at hcs
    omega

/-- the acts, as a list. -/
def actsL (n : Nat) (F : Nat → Nat → Int) : List Act4 := (List.range n).map fun i => ⟨F i 0, F i 1, F i 2, F i 3⟩
theorem actsL_length (n : Nat) (F : Nat → Nat → Int) : (actsL n F).length = n := by simp [actsL]
theorem actsL_at {n : Nat} {F : Nat → Nat → Int} {i : Nat} {x : Act4} (h : (actsL n F)[i]? = some x) : i < n ∧ x = ⟨F i 0, F i 1, F i 2, F i 3⟩ := by
  have hi : i < n := by
    have := (List.getElem?_eq_some_iff.1 h).1
    rwa [actsL_length] at this
  refine ⟨hi, ?_⟩
  simp [actsL, hi] at h
  exact h.symm

theorem Acts.at4 {w : World} {A : Option Addr} {n : Nat} {F : Nat → Nat → Int} (h : Acts w A n F) (i : Nat) (hi : i < n) : ∃ a, A = some a ∧ a.block < w.heap.size ∧ ActAt w (a.add (i * 4)) ⟨F i 0, F i 1, F i 2, F i 3⟩ := by
  obtain ⟨a, e, hb, hc⟩ := h.at_ (by omega)
  have hc' : ∀ (j : Nat) (k : IntKind), actKinds[j]? = some k → w.cell? ((a.add (i * 4)).add j) = some (.int k (F i j)) := fun j k hk => by rw [Go.Deep.add_add]; exact hc i j k hi hk
  refine ⟨a, e, hb, hc i 0 _ hi rfl, ?_, ?_, ?_, i64_of_wf (h.wf i 0 _ hi rfl), i64_of_wf (h.wf i 1 _ hi rfl), u64_of_wf (h.wf i 2 _ hi rfl), u64_of_wf (h.wf i 3 _ hi rfl)⟩
  · have := hc' 1 _ rfl; rwa [add_past] at this
  · have := hc' 2 _ rfl; rwa [add_past] at this
  · have := hc' 3 _ rfl; rwa [add_past] at this

/-- acts of old memory, in a later world. -/
theorem Acts.in_ {w W : World} {A : Option Addr} {n : Nat} {F : Nat → Nat → Int} {LL : List Nat} (h : Acts w A n F) (hb : Below w.heap.size w W) (hL : ∀ b, b ∈ LL → w.heap.size ≤ b) : ActsIn W w.heap.size LL A (actsL n F) := by
  refine ⟨by rw [actsL_length]; exact h.most, fun hn => ?_⟩
  rw [actsL_length] at hn
  obtain ⟨a, e, h1, _⟩ := h.at4 0 hn
  have out : a.block ∉ LL := fun hm => by have := hL _ hm; omega
  refine ⟨a, e, Nat.lt_of_lt_of_le h1 hb.size, h1, out, fun i x hx => ?_⟩
  obtain ⟨hi, rfl⟩ := actsL_at hx
  obtain ⟨a', e', h2, h3⟩ := h.at4 i hi
  rw [e] at e'
  injection e' with e'
  subst e'
  exact h3.moves (B := w.heap.size) (LL := LL) (below_moves hb) (by rw [add_block]; exact h1) (by rw [add_block]; exact h1) (by rw [add_block]; exact out)

/-- behind the first acts. -/
def actsTo (s : ASt) (j : Nat) (xs : List Act4) (i : Nat) : ASt := (xs.take i).foldl (fun s a => act1 s j a) s
theorem actsTo_succ {s : ASt} {j : Nat} {xs : List Act4} {i : Nat} {a : Act4} (h : xs[i]? = some a) : actsTo s j xs (i + 1) = act1 (actsTo s j xs i) j a := by
  unfold actsTo
  rw [List.take_add_one, h, List.foldl_append]
  rfl
theorem actsTo_all {s : ASt} {j : Nat} {xs : List Act4} {i : Nat} (h : xs.length ≤ i) : actsTo s j xs i = actsTo s j xs xs.length := by
  unfold actsTo
  rw [List.take_of_length_le h, List.take_of_length_le (Nat.le_refl _)]
theorem act1_k (s : ASt) (j : Nat) (a : Act4) : s.k ≤ (act1 s j a).k ∧ (act1 s j a).k ≤ s.k + 1 := by
  have h1 : ∀ l i k, k ≤ moreA l i k := fun l i k => by unfold moreA; split <;> omega
  have h2 := fun l i k => moreA_le l i k
  unfold act1
  split
  · exact ⟨h1 _ _ _, h2 _ _ _⟩
  · split
    · exact ⟨h1 _ _ _, h2 _ _ _⟩
    · split
      · exact ⟨h1 _ _ _, h2 _ _ _⟩
      · split
        · exact ⟨h1 _ _ _, h2 _ _ _⟩
        · exact ⟨Int.le_refl _, by omega⟩
theorem actsTo_k (s : ASt) (j : Nat) (xs : List Act4) : ∀ i, (actsTo s j xs i).k ≤ s.k + i
  | 0 => by simp [actsTo]
  | i + 1 => by
    have ih := actsTo_k s j xs i
    cases h : xs[i]? with
    | some a =>
      rw [actsTo_succ h]
      have := (act1_k (actsTo s j xs i) j a).2
      omega
    | none =>
      have hl := List.getElem?_eq_none_iff.1 h
      rw [actsTo_all (by omega), ← actsTo_all (i := i) hl]
      omega

section
variable {B p c sb ns : Nat} {LL : List Nat}
theorem am_run (j : Nat) (xs : List Act4) (s : ASt) (d : Nat) : ∀ i, runN (AM B p c sb ns LL) (j, xs) s d i = ((j, xs.drop i), actsTo s j xs i, d + min i xs.length)
  | 0 => by simp [runN, actsTo]
  | i + 1 => by
    show (stepQ _ (runN (AM B p c sb ns LL) (j, xs) s d i).1 (runN (AM B p c sb ns LL) (j, xs) s d i).2.1, stepS _ (runN (AM B p c sb ns LL) (j, xs) s d i).1 (runN (AM B p c sb ns LL) (j, xs) s d i).2.1, stepD _ (runN (AM B p c sb ns LL) (j, xs) s d i).1 (runN (AM B p c sb ns LL) (j, xs) s d i).2.2) = _
    rw [am_run j xs s d i]
    simp only
    cases h : xs[i]? with
    | some a =>
      have hi := (List.getElem?_eq_some_iff.1 h).1
      have e1 : xs.drop i = a :: xs.drop (i + 1) := by
        rw [List.drop_eq_getElem_cons hi]
        have := (List.getElem?_eq_some_iff.1 h).2
        rw [this]
      have e2 : min (i + 1) xs.length = min i xs.length + 1 := by omega
      rw [e1, actsTo_succ h, e2]
      rfl
    | none =>
      have hl := List.getElem?_eq_none_iff.1 h
      have e1 : xs.drop i = [] := List.drop_eq_nil_iff.2 hl
      have e2 : xs.drop (i + 1) = [] := List.drop_eq_nil_iff.2 (by omega)
      have e3 : min (i + 1) xs.length = min i xs.length := by omega
      rw [e1, e2, e3, actsTo_all (i := i + 1) (by omega), ← actsTo_all (i := i) hl]
      rfl
theorem am_ended (j : Nat) (xs : List Act4) (s : ASt) (d i : Nat) : (AM B p c sb ns LL).ended (runN (AM B p c sb ns LL) (j, xs) s d i).1 = decide (xs.length ≤ i) := by
  rw [am_run]
  show (xs.drop i).isEmpty = _
  by_cases h : xs.length ≤ i
  · rw [List.drop_eq_nil_iff.2 h]; simp [h]
  · have : xs.drop i ≠ [] := fun e => h (List.drop_eq_nil_iff.1 e)
    cases hd : xs.drop i with
    | nil => exact absurd hd this
    | cons _ _ => simp [h]
end

end Go.Proofs.Ytbkopghghoolmaa
