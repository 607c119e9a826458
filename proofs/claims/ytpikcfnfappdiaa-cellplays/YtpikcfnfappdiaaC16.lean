/- Contracts: the document's Do over any number of a cell; the program's, by kind. -/
import Derived.Test.YtpikcfnfappdiaaC14
import Derived.Test.YtpikcfnfappdiaaC15
namespace Go.Proofs.Ytpikcfnfappdiaa
open Go.RowKit

section
variable {g n cp : Nat} {k : Int} {l : List Int} {w : World}
theorem rdo0 (i o v : Int) (h : Held w g l) (hn : l.length = n) (hk0 : 0 ≤ k) (hk : k < 9223372036854775807) :
    Calls Try.prog 11 #[.agg #[.slice (some ⟨g, 0, none⟩) n cp, .int .i64 k], .int .i64 0, .int .i64 i, .int .u64 o, .int .u64 v] w (RDone w n l (moreA l i k) (getA l i) false) := by
  rcases hasA_cases l i with hi | ⟨j, rfl, hj⟩
  · rw [moreA_out hi, getA_out hi]
    exact rdo_out g n cp k _ i o v l w h hn hi
  · rw [moreA_nat hj]
    exact rdo_load g n cp j k o v _ l w h hn (by omega) hk0 hk rfl
theorem rdo1 (i o v : Int) (h : Held w g l) (hn : l.length = n) (hm : n ≤ 1048576) (hk0 : 0 ≤ k) (hk : k < 9223372036854775807) (hf : ∀ x, x ∈ l → U64 x) :
    Calls Try.prog 11 #[.agg #[.slice (some ⟨g, 0, none⟩) n cp, .int .i64 k], .int .i64 1, .int .i64 i, .int .u64 o, .int .u64 v] w (RDone w n (setA l i v) (moreA l i k) 0 (hasA l i)) := by
  rcases hasA_cases l i with hi | ⟨j, rfl, hj⟩
  · rw [moreA_out hi, setA_out hi, hi]
    exact rdo_out g n cp k _ i o v l w h hn hi
  · rw [moreA_nat hj, setA_nat hj, hasA_yes hj]
    by_cases hv : v = getA l j
    · subst hv
      rw [set_same hj]
      exact rdo_store_same g n cp j k o _ l w h hn (by omega) hk0 hk rfl
    · exact rdo_store g n cp j k o v _ l w h hn (by omega) hm hk0 hk hf rfl (bne_iff_ne.2 hv)
theorem rdo2 (i o v : Int) (h : Held w g l) (hn : l.length = n) (hm : n ≤ 1048576) (hk0 : 0 ≤ k) (hk : k < 9223372036854775807) (hf : ∀ x, x ∈ l → U64 x) :
    Calls Try.prog 11 #[.agg #[.slice (some ⟨g, 0, none⟩) n cp, .int .i64 k], .int .i64 2, .int .i64 i, .int .u64 o, .int .u64 v] w (RDone w n (setA l i v) (moreA l i k) (getA l i) false) := by
  rcases hasA_cases l i with hi | ⟨j, rfl, hj⟩
  · rw [moreA_out hi, setA_out hi, getA_out hi]
    exact rdo_out g n cp k _ i o v l w h hn hi
  · rw [moreA_nat hj, setA_nat hj]
    by_cases hv : v = getA l j
    · subst hv
      rw [set_same hj]
      exact rdo_swap_same g n cp j k o _ l w h hn (by omega) hk0 hk rfl
    · exact rdo_swap g n cp j k o v _ l w h hn (by omega) hm hk0 hk hf rfl (bne_iff_ne.2 hv)
theorem rdo3 (i o v : Int) (h : Held w g l) (hn : l.length = n) (hm : n ≤ 1048576) (hk0 : 0 ≤ k) (hk : k < 9223372036854775807) (hf : ∀ x, x ∈ l → U64 x) :
    Calls Try.prog 11 #[.agg #[.slice (some ⟨g, 0, none⟩) n cp, .int .i64 k], .int .i64 3, .int .i64 i, .int .u64 o, .int .u64 v] w (RDone w n (casA l i o v) (moreA l i k) 0 (casB l i o)) := by
  rcases hasA_cases l i with hi | ⟨j, rfl, hj⟩
  · rw [moreA_out hi, show casB l i o = false by simp [casB, hi], show casA l i o v = l by simp [casA, casB, hi]]
    exact rdo_out g n cp k _ i o v l w h hn hi
  · rw [moreA_nat hj]
    by_cases ho : getA l j = o
    · subst ho
      have hb : casB l j (getA l j) = true := by simp [casB, hasA_yes hj]
      rw [casA, hb, if_pos rfl, setA_nat hj]
      by_cases hv : v = getA l j
      · subst hv
        rw [set_same hj]
        exact rdo_cas_same g n cp j k _ l w h hn (by omega) hk0 hk rfl
      · exact rdo_cas g n cp j k v _ l w h hn (by omega) hm hk0 hk hf rfl (bne_iff_ne.2 hv)
    · have hb : casB l j o = false := by simp [casB, ho]
      rw [casA, hb]
      exact rdo_cas_miss g n cp j k o v _ l w h hn (by omega) hk0 hk rfl (beq_eq_false_iff_ne.2 ho)
theorem rdo4 (i o v : Int) (h : Held w g l) (hn : l.length = n) (hm : n ≤ 1048576) (hk0 : 0 ≤ k) (hk : k < 9223372036854775807) (hf : ∀ x, x ∈ l → U64 x) :
    Calls Try.prog 11 #[.agg #[.slice (some ⟨g, 0, none⟩) n cp, .int .i64 k], .int .i64 4, .int .i64 i, .int .u64 o, .int .u64 v] w (RDone w n (setA l i (sum64 (getA l i) v)) (moreA l i k) (getA l i) false) := by
  rcases hasA_cases l i with hi | ⟨j, rfl, hj⟩
  · rw [moreA_out hi, setA_out hi, getA_out hi]
    exact rdo_out g n cp k _ i o v l w h hn hi
  · rw [moreA_nat hj, setA_nat hj]
    by_cases hv : sum64 (getA l j) v = getA l j
    · rw [hv, set_same hj]
      exact rdo_add_same g n cp j k o v _ l w h hn (by omega) hk0 hk rfl hv
    · exact rdo_add g n cp j k o v _ l w h hn (by omega) hm hk0 hk hf rfl (bne_iff_ne.2 hv)
end

section
variable {p c : Nat} {l : List Int} {k : Int} {w : World}
theorem Aft.boxed {l' : List Int} {k' : Int} {w' : World} {ob : Obj} (g : Aft (w.alloc ob) p c l' k' w') : Aft w p c l' k' w' := ⟨g.1, ((Turns.refl _ _).alloc _).trans g.2⟩
theorem Arena.alloc (h : Arena w p c l k) (ob : Obj) : Arena (w.alloc ob) p c l k := h.turn (L := []) ((Turns.refl _ _).alloc _) (by simp) (by simp)
theorem do0 (i o v : Int) (h : Arena w p c l k) (hk : k < 9223372036854775807) :
    Calls Try.prog 12 #[.pointer (some ⟨p, 0, none⟩), .agg #[.int .i64 0, .int .i64 i, .int .u64 o, .int .u64 v]] w fun e w' => e = .returned (.tuple #[.int .u64 (getA l i), .bool false]) ∧ Aft w p c l (moreA l i k) w' := by
  go_enter Try.func12, Try.ntmps12
  go_wp2_with fail
  refine (load_any _ (h.alloc _) hk).mono ?_
  rintro e w1 ⟨rfl, h1⟩
  go_wp2
  go_ret2
  exact ⟨rfl, h1.boxed⟩
theorem do1 (i o v : Int) (h : Arena w p c l k) (hv : U64 v) (hk : k < 9223372036854775807) :
    Calls Try.prog 12 #[.pointer (some ⟨p, 0, none⟩), .agg #[.int .i64 1, .int .i64 i, .int .u64 o, .int .u64 v]] w fun e w' => e = .returned (.tuple #[.int .u64 0, .bool (hasA l i)]) ∧ Aft w p c (setA l i v) (moreA l i k) w' := by
  go_enter Try.func12, Try.ntmps12
  go_wp2_with fail
  refine (store_any _ _ hv (h.alloc _) hk).mono ?_
  rintro e w1 ⟨rfl, h1⟩
  go_wp2
  go_ret2
  exact ⟨rfl, h1.boxed⟩
theorem do2 (i o v : Int) (h : Arena w p c l k) (hv : U64 v) (hk : k < 9223372036854775807) :
    Calls Try.prog 12 #[.pointer (some ⟨p, 0, none⟩), .agg #[.int .i64 2, .int .i64 i, .int .u64 o, .int .u64 v]] w fun e w' => e = .returned (.tuple #[.int .u64 (getA l i), .bool false]) ∧ Aft w p c (setA l i v) (moreA l i k) w' := by
  go_enter Try.func12, Try.ntmps12
  go_wp2_with fail
  refine (swap_any _ _ hv (h.alloc _) hk).mono ?_
  rintro e w1 ⟨rfl, h1⟩
  go_wp2
  go_ret2
  exact ⟨rfl, h1.boxed⟩
theorem do3 (i o v : Int) (h : Arena w p c l k) (hv : U64 v) (hk : k < 9223372036854775807) :
    Calls Try.prog 12 #[.pointer (some ⟨p, 0, none⟩), .agg #[.int .i64 3, .int .i64 i, .int .u64 o, .int .u64 v]] w fun e w' => e = .returned (.tuple #[.int .u64 0, .bool (casB l i o)]) ∧ Aft w p c (casA l i o v) (moreA l i k) w' := by
  go_enter Try.func12, Try.ntmps12
  go_wp2_with fail
  refine (cas_any _ _ _ hv (h.alloc _) hk).mono ?_
  rintro e w1 ⟨rfl, h1⟩
  go_wp2
  go_ret2
  exact ⟨rfl, h1.boxed⟩
theorem do4 (kd i o v : Int) (h : Arena w p c l k) (hk : k < 9223372036854775807) (h0 : (kd == 0) = false) (h1 : (kd == 1) = false) (h2 : (kd == 2) = false) (h3 : (kd == 3) = false) :
    Calls Try.prog 12 #[.pointer (some ⟨p, 0, none⟩), .agg #[.int .i64 kd, .int .i64 i, .int .u64 o, .int .u64 v]] w fun e w' => e = .returned (.tuple #[.int .u64 (getA l i), .bool false]) ∧ Aft w p c (setA l i (sum64 (getA l i) v)) (moreA l i k) w' := by
  go_enter Try.func12, Try.ntmps12
  go_wp2_with fail
  refine (add_any _ _ (h.alloc _) hk).mono ?_
  rintro e w1 ⟨rfl, g1⟩
  go_wp2
  go_ret2
  exact ⟨rfl, g1.boxed⟩
end

end Go.Proofs.Ytpikcfnfappdiaa
