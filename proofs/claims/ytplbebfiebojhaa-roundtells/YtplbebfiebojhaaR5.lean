/- Contract: the batches of deadlines, gathered in a map, and sorted. -/
import Derived.Test.YtplbebfiebojhaaR1
import Derived.Test.YtplbebfiebojhaaIRow
import Derived.Test.YtplbebfiebojhaaShelf
import Derived.Maps.RangeWalk
import Derived.Maps.OwnSet
import Derived.Sort.OwnSortedInts
namespace Go.Proofs.Ytplbebfiebojhaa
open Go.RowKit Go.Maps

/-- when deadlines are due. -/
def dues (xs : List Int) (s : Int) : List Int := xs.map fun x => due x s
theorem dues_mem {xs : List Int} {s x : Int} : x ∈ dues xs s ↔ ∃ y, y ∈ xs ∧ due y s = x := by simp [dues]

/-- the keys of the map: times. -/
def keys (l : List Int) : List Lit := l.map (Lit.int .i64)
/-- the map's reading. -/
def setD (l : List Int) : DataW Unit := setOf (.lit (.bool true)) (keys l)
theorem keys_are (l : List Int) : ∀ x, x ∈ keys l → WideAt.IsKeyLit x := by
  intro x hx
  obtain ⟨y, _, rfl⟩ := List.mem_map.1 hx
  trivial
theorem same_int (x y : Int) : (Lit.int .i64 x).sameKey (.int .i64 y) = decide (x = y) := by
  simp [Lit.sameKey]
theorem has_setD (l : List Int) (x : Int) : Maps.has (setD l) (.int .i64 x) = true ↔ x ∈ l := by
  unfold setD
  rw [has_setOf _ _ _ (keys_are l), List.any_eq_true]
  simp only [keys, List.mem_map]
  constructor
  · rintro ⟨_, ⟨y, hy, rfl⟩, h⟩
    rw [same_int] at h
    have := of_decide_eq_true h
    subst this; exact hy
  · intro h
    exact ⟨_, ⟨x, h, rfl⟩, by rw [same_int]; simp⟩

/-- the times that have come by so far. -/
structure Coll (dl : List Int) (left : Lit → Bool) (ss : List Int) : Prop where
  nodup : ss.Nodup
  mem : ∀ x, x ∈ ss ↔ x ∈ dl ∧ left (.int .i64 x) = false
  sub : ∀ x, left (.int .i64 x) = true → x ∈ dl
theorem Coll.start (dl : List Int) : Coll dl (Maps.has (setD dl)) [] := by
  refine ⟨List.nodup_nil, fun x => ?_, fun x h => (has_setD dl x).1 h⟩
  constructor
  · intro h; cases h
  · rintro ⟨h1, h2⟩
    rw [(has_setD dl x).2 h1] at h2; cases h2
theorem Coll.step {dl : List Int} {left : Lit → Bool} {ss : List Int} (h : Coll dl left ss) {x : Int} (hx : left (.int .i64 x) = true) :
    Coll dl (fun z => left z && !z.sameKey (.int .i64 x)) (ss ++ [x]) := by
  have hn : x ∉ ss := fun hm => by rw [((h.mem x).1 hm).2] at hx; cases hx
  refine ⟨?_, fun y => ?_, fun y hy => h.sub y ?_⟩
  · rw [List.nodup_append]
    exact ⟨h.nodup, by simp, fun a ha b hb => by
      rw [List.mem_singleton] at hb; subst hb; rintro rfl; exact hn ha⟩
  · rw [List.mem_append, List.mem_singleton, h.mem y, same_int]
    constructor
    · rintro (⟨h1, h2⟩ | rfl)
      · exact ⟨h1, by rw [h2]; rfl⟩
      · exact ⟨h.sub _ hx, by simp⟩
    · rintro ⟨h1, h2⟩
      by_cases hyx : y = x
      · exact .inr hyx
      · left; refine ⟨h1, ?_⟩
        simpa [hyx] using h2
  · simp only [Bool.and_eq_true] at hy; exact hy.1
theorem Coll.all {dl : List Int} {left : Lit → Bool} {ss : List Int} (h : Coll dl left ss) (hl : ∀ kl, left kl = false) (x : Int) : x ∈ ss ↔ x ∈ dl := by
  rw [h.mem x, hl]; simp

/-- these times, each once, rising. -/
structure Rises (dl ts : List Int) : Prop where
  mem : ∀ x, x ∈ ts ↔ x ∈ dl
  up : ts.Pairwise (· < ·)
theorem Rises.sorted {dl ss : List Int} (hn : ss.Nodup) (hm : ∀ x, x ∈ ss ↔ x ∈ dl) : Rises dl (ss.mergeSort fun x y => decide (x ≤ y)) := by
  have hp := List.mergeSort_perm ss (fun x y => decide (x ≤ y))
  refine ⟨fun x => (hp.mem_iff).trans (hm x), ?_⟩
  have h1 : (ss.mergeSort fun x y => decide (x ≤ y)).Pairwise fun a b => decide (a ≤ b) = true :=
    List.pairwise_mergeSort (fun a b c h1 h2 => by simp only [decide_eq_true_eq] at *; omega) (fun a b => by simp only [Bool.or_eq_true, decide_eq_true_eq]; omega) ss
  have h2 : (ss.mergeSort fun x y => decide (x ≤ y)).Nodup := hp.nodup_iff.2 hn
  refine (h1.and h2).imp ?_
  intro a b h
  have h3 := h.1
  have h4 := h.2
  simp only [decide_eq_true_eq] at h3
  omega
/-- there is one such list. -/
theorem Rises.unique {dl a b : List Int} (h : Rises dl a) (k : Rises dl b) : a = b := by
  have na : a.Nodup := h.up.imp (fun h => by omega)
  have nb : b.Nodup := k.up.imp (fun h => by omega)
  refine List.Perm.eq_of_pairwise (le := fun x y => x ≤ y) (fun x y _ _ h1 h2 => by omega) (h.up.imp (fun h => by omega)) (k.up.imp (fun h => by omega)) ?_
  exact (List.perm_ext_iff_of_nodup na nb).2 fun x => (h.mem x).trans (k.mem x).symm

theorem plain_bool_inv {H : Type} {P : Program} {e : TypeId} (he : P.underlying e = some .bool) {v : Value} {z : DataW H × List MemPlace} (h : plainElem P e v = some z) : ∃ c, v = .bool c := by
  unfold plainElem at h
  rw [he] at h
  cases v <;> simp at h
  exact ⟨_, rfl⟩

end Go.Proofs.Ytplbebfiebojhaa
