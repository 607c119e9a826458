/- Configurations by value: read, written, held against each other. -/
import Derived.Test.YtgbepebihlmedaaDoorP8
import Derived.ChangeKeysEq
namespace Go.Proofs.YtgbepebihlmedaaDoor
open Go.RowKit

theorem load_ref {w : World} {b : Nat} {C : Nat → Int} {t : TypeId} (h : Lies w b t (ic C)) : (Instr.loadAt 23 (.pointer (some ⟨b, 0, none⟩))).run Tryd.prog w = .ok (.agg (ic C)) w :=
  run_loadAt_mid w b 0 23 (icl C) _ h.range Tryd.underlying23 rfl (icl_size C)
theorem load_cfg {w : World} {b : Nat} {C : Nat → Int} {t : TypeId} (h : Lies w b t (ic C)) : (Instr.loadAt 26 (.pointer (some ⟨b, 0, none⟩))).run Tryd.prog w = .ok (.agg (ic C)) w :=
  run_loadAt_mid w b 0 26 (icl C) _ h.range Tryd.underlying26 rfl (by kernel_rfl)
theorem load_arr {w : World} {b : Nat} {C : Nat → Int} {t : TypeId} (h : Lies w b t (ic C)) : (Instr.loadAt 22 (.pointer (some ⟨b, 0, none⟩))).run Tryd.prog w = .ok (.agg (ic C)) w :=
  run_loadAt_mid w b 0 22 (icl C) _ h.range Tryd.underlying22 rfl (by kernel_rfl)

theorem eql_cfg (C : Nat → Int) (w : World) : (binOp .eql 26 (.agg (ic C)) (.agg (ic C))).run Tryd.prog w = .ok (.bool true) w := by
  unfold ic
  rw [run_eql_struct, show (10000 : Nat) = 9999 + 1 from rfl, run_equalIn_struct w 9999 26 _ _ (by kernel_rfl) (by kernel_rfl)]
  simp [go_sem]
theorem neq_cfg (C : Nat → Int) (w : World) : (binOp .neq 26 (.agg (ic C)) (.agg (ic C))).run Tryd.prog w = .ok (.bool false) w := by
  unfold ic
  rw [run_neq_struct, show (10000 : Nat) = 9999 + 1 from rfl, run_equalIn_struct w 9999 26 _ _ (by kernel_rfl) (by kernel_rfl)]
  simp [go_sem]
theorem neq_arr (C : Nat → Int) (w : World) : (binOp .neq 22 (.agg (ic C)) (.agg (ic C))).run Tryd.prog w = .ok (.bool false) w := by
  unfold ic
  rw [run_neq_struct]
  obtain ⟨i, hi, _⟩ := info_parts int_info
  rw [show (10000 : Nat) = 9999 + 1 from rfl, run_equalIn_array w 9999 _ _ Tryd.underlying22 hi, show Tryd.prog.cellsOf 3 = 1 by kernel_rfl]
  simp [Op.eqItems, List.range, List.range.loop, go_sem]

/-- one number is turned. -/
def upd (C : Nat → Int) (j : Nat) (v : Int) (i : Nat) : Int := if i = j then v else C i
theorem ic_set (C : Nat → Int) (j : Nat) (hj : j < 13) (v : Int) : (ic C).setIfInBounds j (.int .i64 v) = ic (upd C j v) := by
  match j, hj with
  | 0, _ | 1, _ | 2, _ | 3, _ | 4, _ | 5, _ | 6, _ | 7, _ | 8, _ | 9, _ | 10, _ | 11, _ | 12, _ => rfl
theorem upd_back (C : Nat → Int) (j : Nat) (v : Int) : upd (upd C j v) j (C j) = C := by
  funext i; unfold upd; split <;> simp_all
theorem turned_chk {C : Nat → Int} (h : Right C) {j : Nat} (hj : j < 13) (v : Int) : (chkI (upd C j v) = 0 ∧ chkE (upd C j v) = 0) ∨ (chkI (upd C j v) = j ∧ chkE (upd C j v) = 7) := by
  rcases right_or (upd C j v) with h1 | ⟨m, h1, h2, h3⟩
  · exact .inl (chk_ok h1)
  · have : m = j := by
      rcases Nat.decEq m j with h4 | h4
      · exact absurd (show okAt (upd C j v) m by have := h m h1; unfold okAt upd at *; simpa [h4] using this) h3
      · exact h4
    subst this
    exact .inr (chk_bad h2 h3 h1)

/-- thirteen cells are written over. -/
theorem Lies.overs {g : Nat} {t : TypeId} : ∀ (vs : List Value) (o : Nat) (w : World) (cs : Array Value), Lies w g t cs → (∃ cs', Lies (w.setCells g o vs) g t cs' ∧ cs'.size = cs.size ∧ (∀ i, (hi : i < o) → cs'[i]? = cs[i]?) ∧ ∀ j v, vs[j]? = some v → o + j < cs.size → cs'[o + j]? = some v) ∧ Turns [g] w (w.setCells g o vs) ∧ (w.setCells g o vs).heap.size = w.heap.size
  | [], o, w, cs, h => ⟨⟨cs, h, rfl, fun _ _ => rfl, fun j v hv => by simp at hv⟩, Turns.refl _ _, rfl⟩
  | v :: vs, o, w, cs, h => by
    have h1 := h.set o v
    obtain ⟨⟨cs', a1, a2, a3, a4⟩, b, c⟩ := Lies.overs vs (o + 1) _ _ h1
    refine ⟨⟨cs', a1, by simpa using a2, fun i hi => ?_, fun j u hu hj => ?_⟩, ((Turns.refl _ _).setCell (.inl (by simp)) _).trans b, ?_⟩
    · rw [a3 i (by omega), Array.getElem?_setIfInBounds]; simp; omega
    · rcases j with _ | j
      · rw [Nat.add_zero, a3 o (by omega), Array.getElem?_setIfInBounds]
        simp at hu hj ⊢
        exact ⟨hj, hu⟩
      · have := a4 j u (by simpa using hu) (by simp; omega)
        rwa [show o + (j + 1) = o + 1 + j by omega]
    · show ((w.setCell ⟨g, o, none⟩ v).setCells g (o + 1) vs).heap.size = _
      rw [c]; simp [World.setCell]
theorem ic_size (C : Nat → Int) : (ic C).size = 13 := rfl
theorem icl_at (C : Nat → Int) (i : Nat) (hi : i < 13) : (icl C)[i]? = some (.int .i64 (C i)) := by
  rw [← ic_at C i hi]; simp [icl]
theorem cells_cfg {cs : Array Value} (hs : cs.size = 13) (C : Nat → Int) (h : ∀ i, i < 13 → cs[i]? = some (.int .i64 (C i))) : cs = ic C := by
  apply Array.ext_getElem?
  intro i
  by_cases hi : i < 13
  · rw [ic_at C i hi, h i hi]
  · have h1 := ic_size C
    generalize ic C = ds at *
    rw [Array.getElem?_eq_none (by omega), Array.getElem?_eq_none (by omega)]
theorem Lies.cfg {w : World} {g : Nat} {t : TypeId} {cs : Array Value} (h : Lies w g t cs) (hs : cs.size = 13) (C : Nat → Int) : Lies (w.setCells g 0 (icl C)) g t (ic C) := by
  have hat := icl_at C
  generalize icl C = vs at *
  obtain ⟨⟨cs', a1, a2, _, a4⟩, _⟩ := Lies.overs vs 0 w cs h
  have : cs' = ic C := cells_cfg (by omega) C (fun i hi => by
    have := a4 i _ (hat i hi) (by omega)
    rwa [Nat.zero_add] at this)
  rwa [this] at a1
theorem there_cfg {w : World} {g : Nat} {t : TypeId} {cs : Array Value} (h : Lies w g t cs) (hs : cs.size = 13) : w.there g 0 13 := by
  intro j hj
  rw [Nat.zero_add]
  refine ⟨?_, h.frozen j⟩
  rw [h.cell j, Array.getElem?_eq_getElem (by omega)]
  rfl
theorem ic_one (C : Nat → Int) : (ic C).all (·.oneCell') = true := by kernel_rfl

theorem wpList_cstore {ops : Array Oper} {rest : List Oper} {o : Oper} {a : Act} {w : World} {Q : Exit → Act → World → Prop} {b : Nat} (C : Nat → Int) (t : TypeId) (hgd : o.guard = none) (x y : Operand) (ho : o.op = .store t x y)
    (hx : a.eval x = .pointer (some ⟨b, 0, none⟩)) (hy : a.eval y = .agg (ic C)) (ht : w.there b 0 13) (hs : (Tryd.prog.info? t).map (·.size) = some 13)
    (h : wpList Tryd.prog ops Q rest (a.put o.dst undef) (w.setCells b 0 (icl C))) : wpList Tryd.prog ops Q (o :: rest) a w :=
  wpList_store_mid hgd t x y ho b 0 (ic C) hx hy ht hs (ic_one C) h

end Go.Proofs.YtgbepebihlmedaaDoor
