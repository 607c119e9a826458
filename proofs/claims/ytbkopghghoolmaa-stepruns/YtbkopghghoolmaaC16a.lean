/- Contracts: the document's Do over any number of a cell (Load, Store, Swap, Cas). -/
import Derived.Test.YtbkopghghoolmaaC14
import Derived.Test.YtbkopghghoolmaaC15
namespace Go.Proofs.Ytbkopghghoolmaa
open Go.RowKit
variable {Xo : Nat}

section
variable {g n cp : Nat} {k : Int} {l : List Int} {w : World}

theorem rdo0 (i o v : Int) (h : Held Xo w g l) (hn : l.length = n) (hk0 : 0 ≤ k) (hk : k < 9223372036854775807) :
    Calls Try.prog 44 #[.agg #[.slice (some ⟨g, 0, none⟩) n cp, .int .i64 k], .int .i64 0, .int .i64 i, .int .u64 o, .int .u64 v] w (RDone Xo w n l (moreA l i k) (getA l i) false) := by
  rcases hasA_cases l i with hi | ⟨j, rfl, hj⟩
  · rw [moreA_out hi, getA_out hi]
    exact rdo_out g n cp k _ i o v l w h hn hi
  · rw [moreA_nat hj]
    exact rdo_load g n cp j k o v _ l w h hn (by omega) hk0 hk rfl

theorem rdo1 (i o v : Int) (h : Held Xo w g l) (hn : l.length = n) (hm : n ≤ 1048576) (hk0 : 0 ≤ k) (hk : k < 9223372036854775807) (hf : ∀ x, x ∈ l → N64 x) :
    Calls Try.prog 44 #[.agg #[.slice (some ⟨g, 0, none⟩) n cp, .int .i64 k], .int .i64 1, .int .i64 i, .int .u64 o, .int .u64 v] w (RDone Xo w n (setA l i v) (moreA l i k) 0 (hasA l i)) := by
  rcases hasA_cases l i with hi | ⟨j, rfl, hj⟩
  · rw [moreA_out hi, setA_out hi, hi]
    exact rdo_out g n cp k _ i o v l w h hn hi
  · rw [moreA_nat hj, setA_nat hj, hasA_yes hj]
    by_cases hv : v = getA l j
    · subst hv
      rw [set_same hj]
      exact rdo_store_same g n cp j k o _ l w h hn (by omega) hk0 hk rfl
    · exact rdo_store g n cp j k o v _ l w h hn (by omega) hm hk0 hk hf rfl (bne_iff_ne.2 hv)

theorem rdo2 (i o v : Int) (h : Held Xo w g l) (hn : l.length = n) (hm : n ≤ 1048576) (hk0 : 0 ≤ k) (hk : k < 9223372036854775807) (hf : ∀ x, x ∈ l → N64 x) :
    Calls Try.prog 44 #[.agg #[.slice (some ⟨g, 0, none⟩) n cp, .int .i64 k], .int .i64 2, .int .i64 i, .int .u64 o, .int .u64 v] w (RDone Xo w n (setA l i v) (moreA l i k) (getA l i) false) := by
  rcases hasA_cases l i with hi | ⟨j, rfl, hj⟩
  · rw [moreA_out hi, setA_out hi, getA_out hi]
    exact rdo_out g n cp k _ i o v l w h hn hi
  · rw [moreA_nat hj, setA_nat hj]
    by_cases hv : v = getA l j
    · subst hv
      rw [set_same hj]
      exact rdo_swap_same g n cp j k o _ l w h hn (by omega) hk0 hk rfl
    · exact rdo_swap g n cp j k o v _ l w h hn (by omega) hm hk0 hk hf rfl (bne_iff_ne.2 hv)

theorem rdo3 (i o v : Int) (h : Held Xo w g l) (hn : l.length = n) (hm : n ≤ 1048576) (hk0 : 0 ≤ k) (hk : k < 9223372036854775807) (hf : ∀ x, x ∈ l → N64 x) :
    Calls Try.prog 44 #[.agg #[.slice (some ⟨g, 0, none⟩) n cp, .int .i64 k], .int .i64 3, .int .i64 i, .int .u64 o, .int .u64 v] w (RDone Xo w n (casA l i o v) (moreA l i k) 0 (casB l i o)) := by
  rcases hasA_cases l i with hi | ⟨j, rfl, hj⟩
  · rw [moreA_out hi, show casB l i o = false by simp [casB, hi], show casA l i o v = l by simp [casA, casB, hi]]
    exact rdo_out g n cp k _ i o v l w h hn hi
  · rw [moreA_nat hj]
    by_cases ho : getA l j = o
    · subst ho
      have hb : casB l j (getA l j) = true := by simp [casB, hasA_yes hj]
      rw [casA, hb, if_pos rfl, setA_nat hj]
      by_cases hv : v = getA l j
      · subst hv
        rw [set_same hj]
        exact rdo_cas_same g n cp j k _ l w h hn (by omega) hk0 hk rfl
      · exact rdo_cas g n cp j k v _ l w h hn (by omega) hm hk0 hk hf rfl (bne_iff_ne.2 hv)
    · have hb : casB l j o = false := by simp [casB, ho]
      rw [casA, hb]
      exact rdo_cas_miss g n cp j k o v _ l w h hn (by omega) hk0 hk rfl (beq_eq_false_iff_ne.2 ho)

end

end Go.Proofs.Ytbkopghghoolmaa
