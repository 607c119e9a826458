/- Going through a set's slots by Each, which tells a closure. -/
import Derived.Test.YtakpalnhjmkkeaaDoorBI2
namespace Go.Proofs.YtakpalnhjmkkeaaDoor
open Go.RowKit Go.Shelf

attribute [local go_sem] Oper.semAt_some

/-- behind a number that was told: the row is one longer, in its box. -/
structure Told1 (b k : Nat) (xs : List Value) (y : Value) (W W' : World) : Prop where
  ex : ∃ v', Boxed W' b 32 v' ∧ W'.ownsRow b 3 1 v' (k + 1) (xs ++ [y])
  others : KeepsOthers W W'
  be : Below b W W'
  bx : ∀ Bn t u, t ≠ 3 → t ≠ 32 → Boxed W Bn t u → Boxed W' Bn t u

set_option maxHeartbeats 2000000 in
theorem tell_any (b j k : Nat) (hk : k < 64) (xs : List Value) (v : Value) (W : World) (hv : Boxed W b 32 v) (hrow : W.ownsRow b 3 1 v k xs) :
    Calls Tryd.prog 13 #[.int .i64 j, .pointer (some ⟨b, 0, none⟩)] W fun e W' => (∃ u, e = .returned u) ∧ Told1 b k xs (.int .i64 j) W W' := by
  obtain ⟨i0, hi, hz0, hz1, hz2⟩ := info_parts int_info4
  have hc := hv.cell
  have hlt := hv.lt
  go_enter Tryd.func13, Tryd.ntmps13
  go_wp2_with (first | (at_builtin; refine wpList_append_own _ rfl (.tmp 3) (.tmp 5) 32 rfl b 3 i0 (.int .i64 0) 1 8 Tryd.underlying32 hi hz0 hz1 hz2 rfl (by decide) _ _ _ rfl (hrow.alloc _) ⟨W.heap.size, 0, none⟩ 1 1 [.int .i64 (j : Nat)] rfl rfl (cell_one_new _ _ _) (by simp [Value.oneCell']) (by simp only [maxLen]; omega) (by omega) (by simp; omega) ?_; intro v' w1 hown' hgrow _; obtain ⟨g', cap', rfl⟩ := ownsRow_succ hown'; obtain ⟨hv1, hv2, hr2, hk2, hb2⟩ := hv.appended (by decide) hrow (by omega) (Nat.le_refl _) hown' hgrow; have hc1 := hv1.cell; have hf1 := hv1.frozen) | fail)
  go_end0
  refine ⟨⟨_, rfl⟩, ⟨_, hv2, hr2⟩, hk2, hb2, fun Bn t u h1 h2 hu => ?_⟩
  exact ((hu.alloc _).kept hgrow (hu.not_row h1 hrow)).kept (grownBy_setCell' w1 b _) (fun e => by
    injection e with e
    subst e
    have l1 : Lies W Bn t #[u] := hu
    exact l1.unlike (t' := 32) (cs' := #[v]) hv h2 rfl)

theorem ownFrom_boxed {β : Type} {B fb : Nat} {t : TypeId} {u : Value} (h : fb < B) : OwnFrom B (fun (_ : β) W => Boxed W fb t u) := fun _ W W' row hs hg hr => hs.kept hg (fun e => by
  have := hr fb e.symm
  omega)

set_option maxRecDepth 100000 in
set_option maxHeartbeats 4000000 in
theorem each_any {s : Nat} (hs : s < 18446744073709551616) (b : Nat) (w : World) (hT : Tab w) (hb : Boxed w b 32 (.slice none 0 0)) (h0b : 0 < b) :
    Calls Tryd.prog 12 #[.int .u64 s, .func (.func 13) #[] #[.pointer (some ⟨b, 0, none⟩)]] w fun e W' => (∃ u, e = .returned u) ∧ ∃ v, Boxed W' b 32 v ∧ IRow W' b v ((slots s).map fun x : Nat => (x : Int)) ∧ Below b w W' := by
  have hblt := hb.lt
  refine (callsIn_wide (n := 4)).1 ?_
  refine callsIn_of_wp_marks Tryd.func12 rfl trivial ?_ rfl
  simp only [Tryd.ntmps12, List.size_toArray, List.length_cons, List.length_nil, Nat.reduceAdd, Nat.reduceSub, Array.replicate_succ, Array.replicate_zero, List.push_toArray, List.append_toArray, List.nil_append, List.cons_append]
  gi_wp2_with (refine ⟨trivial, ?_⟩; gi_at_call 24; refine (callsIn_wide.2 (slots_any s _)).mono ?_; rintro e w' ⟨rfl, rfl⟩)
  have bF := Boxed.new w 34 (.func (.func 13) #[] #[.pointer (some ⟨b, 0, none⟩)])
  have bN := Boxed.new (w.alloc (.cells #[.func (.func 13) #[] #[.pointer (some ⟨b, 0, none⟩)]] 34)) 24 (.int .u64 s)
  rw [World.size_alloc] at bN
  have bF := bF.alloc (.cells #[.int .u64 s] 24)
  have bV := (hb.alloc (.cells #[.func (.func 13) #[] #[.pointer (some ⟨b, 0, none⟩)]] 34)).alloc (.cells #[.int .u64 s] 24)
  have hB0 : Below w.heap.size w ((w.alloc (.cells #[.func (.func 13) #[] #[.pointer (some ⟨b, 0, none⟩)]] 34)).alloc (.cells #[.int .u64 s] 24)) := ((Below.refl _ w).alloc (Nat.le_refl _) _).alloc (by simp) _
  have hBb : Below b w ((w.alloc (.cells #[.func (.func 13) #[] #[.pointer (some ⟨b, 0, none⟩)]] 34)).alloc (.cells #[.int .u64 s] 24)) := hB0.mono (by omega)
  have hTT := hT.keep hB0
  have hsz : ((w.alloc (.cells #[.func (.func 13) #[] #[.pointer (some ⟨b, 0, none⟩)]] 34)).alloc (.cells #[.int .u64 s] 24)).heap.size = w.heap.size + 2 := by simp
  generalize ((w.alloc (.cells #[.func (.func 13) #[] #[.pointer (some ⟨b, 0, none⟩)]] 34)).alloc (.cells #[.int .u64 s] 24)) = w2 at *
  refine wpIn_rangeFunc_ownG rfl (by omega) (gf := 29) (lb := #[.pointer (some ⟨w.heap.size + 1, 0, none⟩)]) rfl trivial (enters_of Tryd.func29 (by kernel_rfl) rfl)
    (slots_stops 3 (by omega) (w.heap.size + 1) b s hs h0b _ bN hTT) kpS_t (kpS_b (by omega)) (Below.refl _ _) (fun _ => rfl)
    (fun pre W => ((∃ v, Boxed W b 32 v ∧ W.ownsRow b 3 1 v pre.length (pre.map slv) ∧ True) ∧ Boxed W w.heap.size 34 (.func (.func 13) #[] #[.pointer (some ⟨b, 0, none⟩)])) ∧ Below b w2 W)
    (fun _ _ _ => False)
    (OwnFrom.and (OwnFrom.and (Own.from (holdsRow_own b b 32 3 1 (fun pre : List Sl => pre.length) (fun pre : List Sl => pre.map slv) (fun _ _ => True)) _) (ownFrom_boxed (by omega))) (ownFrom_below (by omega) (by omega)))
    (fun _ _ _ _ _ hs _ _ => hs)
    ⟨⟨⟨_, bV, World.ownsRow_nil _ _ _ _, trivial⟩, bF⟩, Below.refl _ _⟩
    (fun x => { tmps := #[.int .u64 s, .func (.func 13) #[] #[.pointer (some ⟨b, 0, none⟩)], undef, .pointer (some ⟨w.heap.size, 0, none⟩), .int .i64 (x.1 : Nat), .int .u64 s, .func (.func 29) #[] #[.pointer (some ⟨w.heap.size + 1, 0, none⟩)], .int .i64 (x.1 : Nat), undef, undef, undef], defers := [] }) ?assign ?body ?done ?stop
  case assign =>
    intro l x W K hK
    gi_wp2
    exact hK
  case body =>
    rintro l pre x W ⟨⟨⟨v, hv, hrow, _⟩, hF⟩, hB⟩ hlt
    have hc := hF.cell
    obtain ⟨j, hj⟩ := x
    have ct := tell_any b j pre.length (by omega) _ v W hv hrow
    gi_wp2_with (refine ⟨trivial, ?_⟩; gi_at_call 13; refine ((callsIn_wide.2 ct).inRound l).mono ?_; rintro e w' ⟨⟨u, rfl⟩, tl⟩)
    obtain ⟨v', hv', hr'⟩ := tl.ex
    refine ⟨tl.others.from _, ⟨tl.be, fun u hu => tl.bx _ _ _ (by decide) (by decide) hu⟩, ⟨⟨⟨v', hv', ?_⟩, tl.bx _ _ _ (by decide) (by decide) hF⟩, hB.trans tl.be⟩⟩
    have hr3 : w'.ownsRow b 3 1 v' (pre ++ [(⟨j, hj⟩ : Sl)]).length ((pre ++ [(⟨j, hj⟩ : Sl)]).map slv) := by rw [List.map_append, List.length_append]; exact hr'
    first | exact ⟨hr3, trivial⟩ | exact hr3
  case done =>
    rintro D ys W hD hys ⟨⟨⟨v, hv, hrow, _⟩, hF⟩, hB⟩ hK
    gi_wp2
    refine ⟨by simp, .inl ⟨_, _, rfl, run_takeDeferred hK, ?_⟩⟩
    refine ⟨_, results_none rfl _ _ _, ⟨_, rfl⟩, v, hv.kept (grownBy_putObj' W D _) (fun e => by injection e with e; omega), ⟨?_, ints_slots s⟩, (hBb.trans hB).trans (belowK_b (w := w2) (by omega) W D _ _ hD hK rfl rfl)⟩
    have := ownsRow_putObj hrow (.deferred none) hK rfl
    have e : ys.length = ((slots s).map fun x : Nat => (x : Int)).length := by rw [← hys]; simp
    rw [← e, ← intsOf_slots hys]
    have e2 : (intsOf ys).map (Value.int .i64) = ys.map slv := by unfold intsOf; rw [List.map_map]; rfl
    rw [e2]
    exact this
  case stop =>
    rintro D c pre W _ _ h _
    exact h.elim

end Go.Proofs.YtakpalnhjmkkeaaDoor
