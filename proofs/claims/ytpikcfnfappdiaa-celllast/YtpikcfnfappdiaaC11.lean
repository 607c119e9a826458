/- Twenty numbers by value: laid, written, read. -/
import Derived.Test.YtpikcfnfappdiaaC10
import Derived.Test.YtpikcfnfappdiaaArgS
import Derived.Deep.MidRow
import Derived.Deep.DeepCutAuto
import Derived.Deep.CutBlock
namespace Go.Proofs.Ytpikcfnfappdiaa
open Go.RowKit

/-- twenty cells that have 0. -/
def zeros : List Int := List.replicate 20 0
theorem zeros_build (W : World) : (Instr.build 51 #[]).run Try.prog W = .ok (.agg (nums zeros)) W := by kernel_rfl
theorem zeros_alloc (W : World) : (Instr.alloc 51 true (.tuple #[])).run Try.prog W = .ok (.pointer (some ⟨W.heap.size, 0, none⟩)) (W.alloc (.cells (nums zeros) 51)) := by kernel_rfl

section
variable {ops : Array Oper} {rest : List Oper} {o : Oper} {a : Act} {w : World} {Q : Exit → Act → World → Prop}
theorem wpList_zbuild (hgd : o.guard = none) (ho : o.op = .build 51 #[]) (h : wpList Try.prog ops Q rest (a.put o.dst (.agg (nums zeros))) w) : wpList Try.prog ops Q (o :: rest) a w :=
  wpList_plain hgd fun K hK => by
    unfold Oper.wp execOp
    simp only [ho, List.map_toArray, List.map_nil, Sem.run_bind, zeros_build, Result.andThen_ok, Sem.run_pure]
    exact hK _ _ h
theorem wpList_zalloc (hgd : o.guard = none) (ho : o.op = .alloc 51) (h : wpList Try.prog ops Q rest (a.put o.dst (.pointer (some ⟨w.heap.size, 0, none⟩))) (w.alloc (.cells (nums zeros) 51))) : wpList Try.prog ops Q (o :: rest) a w :=
  wpList_plain hgd fun K hK => by
    unfold Oper.wp execOp
    simp only [ho, Sem.run_bind, zeros_alloc, Result.andThen_ok, Sem.run_pure]
    exact hK _ _ h
end
theorem zeros_there (W : World) : (W.alloc (.cells (nums zeros) 51)).there W.heap.size 0 (nums zeros).size := by
  intro j hj
  have h := Lies.new W 51 (nums zeros)
  rw [Nat.zero_add]
  refine ⟨?_, h.frozen j⟩
  rw [h.cell j, Array.getElem?_eq_getElem hj]
  rfl
theorem zeros_size : (Try.prog.info? 51).map (·.size) = some (nums zeros).size := by kernel_rfl
theorem zeros_one : (nums zeros).all (·.oneCell') = true := by kernel_rfl

theorem wpList_zstore {ops : Array Oper} {rest : List Oper} {o : Oper} {a : Act} {w : World} {Q : Exit → Act → World → Prop} {b : Nat} (hgd : o.guard = none) (x y : Operand) (ho : o.op = .store 51 x y)
    (hx : a.eval x = .pointer (some ⟨b, 0, none⟩)) (hy : a.eval y = .agg (nums zeros)) (ht : w.there b 0 (nums zeros).size)
    (h : wpList Try.prog ops Q rest (a.put o.dst undef) (w.setCells b 0 (nums zeros).toList)) : wpList Try.prog ops Q (o :: rest) a w :=
  wpList_store_mid hgd 51 x y ho b 0 (nums zeros) hx hy ht zeros_size zeros_one h


theorem Lies.again {w : World} {g : Nat} {t : TypeId} {cs : Array Value} (h : Lies w g t cs) (i : Nat) (v : Value) (hv : cs[i]? = some v) : Lies (w.setCell ⟨g, i, none⟩ v) g t cs := by
  have h1 := h.set i v
  have h2 : cs.setIfInBounds i v = cs := by
    apply Array.ext_getElem?
    intro j
    rw [Array.getElem?_setIfInBounds]
    by_cases hij : i = j
    · subst hij
      obtain ⟨hlt, he⟩ := Array.getElem?_eq_some_iff.1 hv
      simp [hlt, he]
    · simp [hij]
  rwa [h2] at h1
theorem Lies.agains {g : Nat} {t : TypeId} {cs : Array Value} : ∀ (vs : List Value) (o : Nat) (w : World), Lies w g t cs → (∀ j v, vs[j]? = some v → cs[o + j]? = some v) → Lies (w.setCells g o vs) g t cs ∧ Turns [g] w (w.setCells g o vs) ∧ (w.setCells g o vs).heap.size = w.heap.size
  | [], _, w, h, _ => ⟨h, Turns.refl _ _, rfl⟩
  | v :: vs, o, w, h, hv => by
    have h1 := h.again o v (hv 0 v rfl)
    obtain ⟨h2, h3, h4⟩ := Lies.agains vs (o + 1) _ h1 (fun j u hu => by
      have := hv (j + 1) u (by simpa using hu)
      rwa [show o + (j + 1) = o + 1 + j by omega] at this)
    refine ⟨h2, ((Turns.refl _ _).setCell (.inl (by simp)) _).trans h3, ?_⟩
    show ((w.setCell ⟨g, o, none⟩ v).setCells g (o + 1) vs).heap.size = _
    rw [h4]; simp [World.setCell]

/-- behind the array's laying. -/
def Zl (W W' : World) : Prop := Lies W' W.heap.size 51 (nums zeros) ∧ Below W.heap.size W W' ∧ W'.heap.size = W.heap.size + 1
theorem zeros_laid (W : World) : Zl W ((W.alloc (.cells (nums zeros) 51)).setCells W.heap.size 0 (nums zeros).toList) := by
  obtain ⟨h1, h2, h3⟩ := Lies.agains (nums zeros).toList 0 _ (Lies.new W 51 (nums zeros)) (fun j v hv => by simpa using hv)
  exact ⟨h1, ((Below.refl _ _).alloc (Nat.le_refl _) _).trans (h2.below (by simp) (by simp)), by rw [h3]; simp⟩

theorem array_desc : Try.prog.underlying 51 = some (.array 20 33) := Try.underlying51

theorem index_nums (ls : List Int) (hl : ls.length = 20) (q : Nat) (hq : q < 20) (W : World) : (Instr.index 51 (.agg (nums ls)) (.int .i64 (q : Int))).run Try.prog W = .ok (.int .u64 (getA ls q)) W := by
  obtain ⟨i0, hi0, hz0, hz1, hz2⟩ := info_parts u64_info
  have h2 := nums_at (l := ls) (i := q) (by omega)
  simp [Instr.index, asIntOf, run_underlying array_desc, sizeOf, typeInfo, hi0, hz1, part, h2]
  omega

theorem wpList_lload {ops : Array Oper} {rest : List Oper} {o : Oper} {a : Act} {w : World} {Q : Exit → Act → World → Prop} {b : Nat} {ls : List Int} (hgd : o.guard = none) (x : Operand) (ho : o.op = .load 51 x)
    (hx : a.eval x = .pointer (some ⟨b, 0, none⟩)) (hl : Lies w b 51 (nums ls)) (hn : ls.length = 20)
    (h : wpList Try.prog ops Q rest (a.put o.dst (.agg (nums ls))) w) : wpList Try.prog ops Q (o :: rest) a w := by
  refine wpList_load_mid hgd 51 x ho b 0 hx (ls.map (Value.int .u64)) (.array 20 33) ?_ array_desc rfl ?_ h
  · intro j v hv
    rw [Nat.zero_add, hl.cell j]
    simpa [nums] using hv
  · rw [List.length_map, hn]; kernel_rfl

end Go.Proofs.Ytpikcfnfappdiaa
