/- Arrays by value: built, laid, stored, loaded, asked, handed back, whatever their cells are. -/
import Derived.Test.YtakpalnhjmkkeaaDoorRows
import Derived.Test.YtakpalnhjmkkeaaDoorMem
import Derived.WalkKit
import Derived.Deep.MidRow
namespace Go.Proofs.YtakpalnhjmkkeaaDoor
open Go.RowKit

/-- n cells by a rule. -/
def vec (n : Nat) (f : Nat → Value) : Array Value := ((List.range n).map f).toArray
/-- a rule with another value at one place. -/
def upv (f : Nat → Value) (j : Nat) (v : Value) : Nat → Value := fun i => if i = j then v else f i
section
variable {n : Nat} {f g : Nat → Value}
theorem vec_size : (vec n f).size = n := by simp [vec]
theorem vec_at {i : Nat} (h : i < n) : (vec n f)[i]? = some (f i) := by simp [vec, h]
theorem vec_set (j : Nat) (v : Value) : (vec n f).setIfInBounds j v = vec n (upv f j v) := by
  apply Array.ext_getElem?
  intro i
  rw [Array.getElem?_setIfInBounds]
  by_cases hi : i < n
  · rw [vec_at hi, vec_at hi]
    unfold upv
    by_cases hij : j = i
    · subst hij; simp [vec_size, hi]
    · have : ¬ i = j := fun e => hij e.symm
      simp [hij, this]
  · have e1 : ∀ h : Nat → Value, (vec n h)[i]? = none := fun h => Array.getElem?_eq_none (by rw [vec_size]; omega)
    rw [e1, e1, vec_size]
    by_cases hij : j = i
    · subst hij; simp [hi]
    · simp [hij]
theorem vec_ext (h : ∀ i, i < n → f i = g i) : vec n f = vec n g := by
  apply Array.ext_getElem?
  intro i
  by_cases hi : i < n
  · rw [vec_at hi, vec_at hi, h i hi]
  · rw [Array.getElem?_eq_none (by rw [vec_size]; omega), Array.getElem?_eq_none (by rw [vec_size]; omega)]
theorem vec_all (h : ∀ i, (f i).oneCell' = true) : (vec n f).all (·.oneCell') = true := by
  simp [vec, h]
end

/-- T is a type of arrays of n elements of type E, one cell each, which have z at first. -/
structure ArrT (T E : TypeId) (n : Nat) (z : Value) : Prop where
  desc : Tryd.prog.underlying T = some (.array n E)
  size : (Tryd.prog.info? T).map (·.size) = some n
  elem : (Tryd.prog.info? E).map (·.size) = some 1
  flat : ∀ W, (isAgg E).run Tryd.prog W = .ok false W
  build : ∀ W, (Instr.build T #[]).run Tryd.prog W = .ok (.agg (vec n fun _ => z)) W
  alloc : ∀ W, (Instr.alloc T true (.tuple #[])).run Tryd.prog W = .ok (.pointer (some ⟨W.heap.size, 0, none⟩)) (W.alloc (.cells (vec n fun _ => z) T))

/-- behind a new block. -/
structure New1 (W W' : World) (T : TypeId) (cs : Array Value) : Prop where
  lies : Lies W' W.heap.size T cs
  below : Below W.heap.size W W'
  size : W'.heap.size = W.heap.size + 1
/-- behind a block's writing over. -/
structure Over (W W' : World) (b : Nat) (T : TypeId) (cs : Array Value) : Prop where
  lies : Lies W' b T cs
  turns : Turns [b] W W'
  size : W'.heap.size = W.heap.size
theorem New1.mk' (W : World) (T : TypeId) (cs : Array Value) : New1 W (W.alloc (.cells cs T)) T cs := ⟨Lies.new _ _ _, (Below.refl _ _).alloc (Nat.le_refl _) _, by simp⟩

theorem Lies.there {w : World} {b : Nat} {t : TypeId} {cs : Array Value} (h : Lies w b t cs) : w.there b 0 cs.size := by
  intro j hj
  rw [Nat.zero_add]
  refine ⟨?_, h.frozen j⟩
  rw [h.cell j, Array.getElem?_eq_getElem hj]
  rfl
theorem Lies.sets {g : Nat} {t : TypeId} : ∀ (vs : List Value) (o : Nat) (w : World) (cs : Array Value), Lies w g t cs → ∃ ds : Array Value, Lies (w.setCells g o vs) g t ds ∧ ds.size = cs.size ∧ (∀ i, i < cs.size → ds[i]? = if i < o then cs[i]? else if i < o + vs.length then vs[i - o]? else cs[i]?) ∧ Turns [g] w (w.setCells g o vs) ∧ (w.setCells g o vs).heap.size = w.heap.size
  | [], o, w, cs, h => ⟨cs, h, rfl, fun i _ => by
      by_cases h1 : i < o
      · rw [if_pos h1]
      · rw [if_neg h1, if_neg (by simp; omega)], Turns.refl _ _, rfl⟩
  | v :: vs, o, w, cs, h => by
    obtain ⟨ds, h1, h2, h3, h4, h5⟩ := Lies.sets vs (o + 1) _ _ (h.set o v)
    refine ⟨ds, h1, by rw [h2]; simp, fun i hi => ?_, ((Turns.refl _ _).setCell (.inl (by simp)) _).trans h4, ?_⟩
    · rw [h3 i (by simpa using hi), Array.getElem?_setIfInBounds]
      by_cases c1 : i < o
      · rw [if_pos (by omega), if_pos c1, if_neg (by omega)]
      · rw [if_neg c1]
        by_cases c2 : o = i
        · subst c2
          simp [hi]
        · rw [if_neg (by omega)]
          simp only [c2, if_false, List.length_cons]
          rw [show i - o = (i - (o + 1)) + 1 by omega, List.getElem?_cons_succ]
          by_cases c3 : i < o + 1 + vs.length
          · rw [if_pos c3, if_pos (by omega)]
          · rw [if_neg c3, if_neg (by omega)]
    · show ((w.setCell ⟨g, o, none⟩ v).setCells g (o + 1) vs).heap.size = _
      rw [h5]; simp [World.setCell]
theorem Lies.over {w : World} {b : Nat} {t : TypeId} {cs : Array Value} {n : Nat} {f : Nat → Value} (h : Lies w b t cs) (hs : cs.size = n) : Over w (w.setCells b 0 (vec n f).toList) b t (vec n f) := by
  obtain ⟨ds, h1, h2, h3, h4, h5⟩ := Lies.sets (vec n f).toList 0 w cs h
  have : ds = vec n f := by
    apply Array.ext_getElem?
    intro i
    by_cases hi : i < n
    · rw [h3 i (by omega), if_neg (by omega), if_pos (by simp [vec_size]; exact hi)]
      simp
    · rw [Array.getElem?_eq_none (by omega), Array.getElem?_eq_none (by rw [vec_size]; omega)]
  subst this
  exact ⟨h1, h4, h5⟩

section
variable {T E : TypeId} {n : Nat} {z : Value} {ops : Array Oper} {rest : List Oper} {o : Oper} {a : Act} {w : World} {Q : Exit → Act → World → Prop}
theorem wpList_vbuild (A : ArrT T E n z) (hgd : o.guard = none) (ho : o.op = .build T #[]) (h : wpList Tryd.prog ops Q rest (a.put o.dst (.agg (vec n fun _ => z))) w) : wpList Tryd.prog ops Q (o :: rest) a w :=
  wpList_plain hgd fun K hK => by
    unfold Oper.wp execOp
    simp only [ho, List.map_toArray, List.map_nil, Sem.run_bind, A.build, Result.andThen_ok, Sem.run_pure]
    exact hK _ _ h
theorem wpList_valloc (A : ArrT T E n z) (hgd : o.guard = none) (ho : o.op = .alloc T)
    (h : ∀ w', New1 w w' T (vec n fun _ => z) → wpList Tryd.prog ops Q rest (a.put o.dst (.pointer (some ⟨w.heap.size, 0, none⟩))) w') : wpList Tryd.prog ops Q (o :: rest) a w :=
  wpList_plain hgd fun K hK => by
    unfold Oper.wp execOp
    simp only [ho, Sem.run_bind, A.alloc, Result.andThen_ok, Sem.run_pure]
    exact hK _ _ (h _ (New1.mk' _ _ _))
theorem wpList_vstore {b : Nat} {t : TypeId} {cs : Array Value} {f : Nat → Value} (A : ArrT T E n z) (hgd : o.guard = none) (x y : Operand) (ho : o.op = .store T x y)
    (hx : a.eval x = .pointer (some ⟨b, 0, none⟩)) (hy : a.eval y = .agg (vec n f)) (hl : Lies w b t cs) (hs : cs.size = n) (hf : ∀ i, (f i).oneCell' = true)
    (h : ∀ w', Over w w' b t (vec n f) → wpList Tryd.prog ops Q rest (a.put o.dst undef) w') : wpList Tryd.prog ops Q (o :: rest) a w :=
  wpList_store_mid hgd T x y ho b 0 (vec n f) hx hy (by have := hl.there; rw [hs] at this; rwa [vec_size]) (by rw [vec_size]; exact A.size) (vec_all hf) (h _ (hl.over hs))
theorem wpList_vload {b : Nat} {t : TypeId} {f : Nat → Value} (A : ArrT T E n z) (hgd : o.guard = none) (x : Operand) (ho : o.op = .load T x)
    (hx : a.eval x = .pointer (some ⟨b, 0, none⟩)) (hl : Lies w b t (vec n f))
    (h : wpList Tryd.prog ops Q rest (a.put o.dst (.agg (vec n f))) w) : wpList Tryd.prog ops Q (o :: rest) a w := by
  refine wpList_load_mid hgd T x ho b 0 hx ((List.range n).map f) (.array n E) ?_ A.desc rfl ?_ h
  · intro j v hv
    rw [Nat.zero_add, hl.cell j]
    simpa [vec] using hv
  · rw [List.length_map, List.length_range]; exact A.size
end

theorem index_vec {T E : TypeId} {n : Nat} {z : Value} (A : ArrT T E n z) (f : Nat → Value) (q : Nat) (hq : q < n) (W : World) : (Instr.index T (.agg (vec n f)) (.int .i64 (q : Int))).run Tryd.prog W = .ok (f q) W := by
  have h2 := vec_at (f := f) hq
  have he := A.elem
  cases hi : Tryd.prog.info? E with
  | none => simp [hi] at he
  | some i0 =>
    have hz1 : i0.size = 1 := by simpa [hi] using he
    simp [Instr.index, asIntOf, run_underlying A.desc, sizeOf, typeInfo, hi, hz1, part, A.flat, h2]
    try omega

theorem results_vec {fn : Func} {p : Tmp} {T E : TypeId} {n : Nat} {z : Value} (A : ArrT T E n z) (h : fn.results = #[.cell p T]) (tmps : Array Value) (w : World) (g : Nat) (t : TypeId) (f : Nat → Value)
    (hp : tmps.getD p undef = .pointer (some ⟨g, 0, none⟩)) (hl : Lies w g t (vec n f)) : (results fn tmps).run Tryd.prog w = .ok (.agg (vec n f)) w :=
  results_cell_row h tmps w g t (vec n f) (0, 0) (.array n E) hp hl A.desc rfl (by rw [vec_size]; exact A.size)

end Go.Proofs.YtakpalnhjmkkeaaDoor
