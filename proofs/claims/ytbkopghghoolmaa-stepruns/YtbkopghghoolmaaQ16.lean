/- Rows of rows of acts; slices of the call's own, whatever they have; picks. -/
import Derived.Test.YtbkopghghoolmaaQ13
import Derived.Test.YtbkopghghoolmaaIRow
namespace Go.Proofs.Ytbkopghghoolmaa
open Go.RowKit Go.ChangeShapes Go.WideShapes

/-- rows of acts that are handed in. -/
structure Grid (w : World) (A : Option Addr) (n : Nat) (S : Nat → Option Addr × Nat × Nat) (G : Nat → Nat → Nat → Int) : Prop where
  most : n ≤ maxLen
  acts : ∀ i, i < n → Acts w (S i).1 (S i).2.1 (G i) ∧ (S i).2.1 ≤ (S i).2.2
  at_ : 0 < n → ∃ a, A = some a ∧ a.block < w.heap.size ∧ ∀ i, i < n → w.cell? (a.add i) = some (.slice (S i).1 (S i).2.1 (S i).2.2)

theorem Grid.below {w w' : World} {A : Option Addr} {n : Nat} {S : Nat → Option Addr × Nat × Nat} {G : Nat → Nat → Nat → Int} {a : Addr} {i : Nat} (h : Grid w A n S G) (k : Below w.heap.size w w') (hi : i < n) (e : A = some a) : w'.cell? (a.add i) = some (.slice (S i).1 (S i).2.1 (S i).2.2) := by
  obtain ⟨a', e', h1, h2⟩ := h.at_ (by omega)
  rw [e] at e'
  injection e' with e'
  subst e'
  exact (k.cell (by rw [add_block]; exact h1)).trans (h2 i hi)

theorem Grid.opened {H : Type} {enc : TypeId × Value → H} {w : World} {base : Nat} {spare : Nat → Bool} {held : Bool} {a : Option Addr} {n c : Nat} {d : DataW H} {p : List MemPlace}
    (h : DataW.Trod enc Try.prog w base spare held 22 (.slice a n c) d p) : ∃ S G, Grid w a n S G := by
  obtain ⟨fuel, hf⟩ := h
  rcases Go.Deep.open_slice1 Try.underlying22 (by kernel_rfl) hf with ⟨hcs, _⟩ | ⟨x, len, cap, m, nn, V, D, Pl, hcs, _, hlc, hm, hmm, _, hi⟩
  · simp [Value.cells] at hcs
    obtain ⟨rfl, rfl, rfl⟩ := hcs
    exact ⟨fun _ => (none, 0, 0), fun _ _ _ => 0, by simp, fun i hi => by omega, fun h => by omega⟩
  · simp [Value.cells] at hcs
    obtain ⟨rfl, rfl, rfl⟩ := hcs
    have hnm : n ≤ m := by rw [hmm]; split <;> omega
    have key : ∀ i, i < n → ∃ y : (Option Addr × Nat × Nat) × (Nat → Nat → Int), w.cell? (x.add i) = some (.slice y.1.1 y.1.2.1 y.1.2.2) ∧ Acts w y.1.1 y.1.2.1 y.2 ∧ y.1.2.1 ≤ y.1.2.2 := by
      intro i hin
      obtain ⟨h1, h2⟩ := hi i (by omega)
      obtain ⟨A, l, k, hV⟩ : ∃ A l k, V i = .slice A l k := by
        rcases Go.Deep.open_slice Try.underlying37 h2 with ⟨hcs, _⟩ | ⟨y, len', cap', _, _, _, _, hcs, _⟩
        · exact ⟨none, 0, 0, by simpa using hcs⟩
        · exact ⟨some y, len', cap', by simpa using hcs⟩
      rw [hV] at h1 h2
      have hT : DataW.Trod enc Try.prog w base spare held 37 (.slice A l k) (D i) (Pl i) := ⟨nn, by simpa [Value.cells] using h2⟩
      obtain ⟨F, hF⟩ := Acts.opened hT
      exact ⟨((A, l, k), F), h1, hF, slice_cap Try.underlying37 hT⟩
    obtain ⟨Y, hY⟩ := Go.Deep.choose_lt (α := (Option Addr × Nat × Nat) × (Nat → Nat → Int)) key
    refine ⟨fun i => (Y i).1, fun i => (Y i).2, by omega, fun i hin => (hY i hin).2, fun hn => ⟨x, rfl, ?_, fun i hin => (hY i hin).1⟩⟩
    have := cell_block (hY 0 hn).1
    rwa [add_block] at this

/-- few, and short? -/
def fewB (n : Nat) (S : Nat → Option Addr × Nat × Nat) : Bool := (List.range n).all (fun i => decide ((S i).2.1 ≤ 30)) && decide (n ≤ 6)
theorem fewB_yes {n : Nat} {S : Nat → Option Addr × Nat × Nat} (h : fewB n S = true) : n ≤ 6 ∧ ∀ i, i < n → (S i).2.1 ≤ 30 := by
  simp [fewB] at h
  exact ⟨h.2, fun i hi => h.1 i hi⟩

theorem few_any (A : Option Addr) (n cp : Nat) (S : Nat → Option Addr × Nat × Nat) (G : Nat → Nat → Nat → Int) (w0 w : World) (h : Grid w0 A n S G) (hb : Below w0.heap.size w0 w) :
    Calls Try.prog 5 #[.slice A n cp] w fun e w' => e = .returned (.bool (fewB n S)) ∧ w' = w := by
  have hmx := h.most
  unfold maxLen at hmx
  have hall : ∀ m, m ≤ n → (∀ i, i < m → (S i).2.1 ≤ 30) → m = n → fewB n S = decide (n ≤ 6) := fun m _ h1 h2 => by
    subst h2
    have : (List.range m).all (fun i => decide ((S i).2.1 ≤ 30)) = true := by simpa using h1
    simp [fewB, this]
  have hno : ∀ m, m < n → ¬ (S m).2.1 ≤ 30 → fewB n S = false := fun m h1 h2 => by
    have : (List.range n).all (fun i => decide ((S i).2.1 ≤ 30)) = false := by
      rw [Bool.eq_false_iff]
      intro hh
      simp at hh
      exact h2 (hh m h1)
    simp [fewB, this]
  go_enter Try.func5, Try.ntmps5
  go_wp2_with fail
  go_loopw [7] (fun u wr => ∃ m : Nat, m ≤ n ∧ u = .int .i64 m ∧ (∀ i, i < m → (S i).2.1 ≤ 30) ∧ wr = w) (fun u _ => n - (intOf u).toNat)
  case atStart => exact ⟨0, by omega, rfl, fun i hi => by omega, rfl⟩
  case round =>
    obtain ⟨m, hm, rfl, hS, rfl⟩ := hrel
    by_cases hlt : m < n
    · obtain ⟨a, rfl, ha, _⟩ := h.at_ (by omega)
      have hc := h.below hb hlt rfl
      have hmo := (h.acts m hlt).1.most
      unfold maxLen at hmo
      by_cases h30 : (S m).2.1 ≤ 30
      · have hS' : Hid (∀ i, i < m + 1 → (S i).2.1 ≤ 30) := Lib.hid (fun i hi => by
          rcases Nat.lt_or_ge i m with h1 | h1
          · exact hS i h1
          · obtain rfl : i = m := by omega
            exact h30)
        clear hall hno hS
        generalize (S m).2.1 = l at *
        generalize (S m).1 = y at *
        generalize (S m).2.2 = z at *
        go_wp2
        go_roundw
        case rel => exact ⟨m + 1, by omega, by go_num, hS'.out, by first | rfl | trivial⟩
        case measure => simp [intOf]; omega
      · have hf := Lib.hid (hno m hlt h30)
        clear hall hno hS
        generalize (S m).2.1 = l at *
        generalize (S m).1 = y at *
        generalize (S m).2.2 = z at *
        go_wp2
        go_ret
        exact ⟨ret_bool hf.out.symm, rfl⟩
    · obtain rfl : m = n := by omega
      have hf := Lib.hid (hall m hm hS rfl)
      clear hall hno hS
      go_wp2
      go_ret
      exact ⟨ret_bool (by rw [hf.out]; simp; omega), rfl⟩

/-- the slice v, of the call's own from block B on, has the values vs, one cell each. -/
structure VRow (W : World) (B : Nat) (E : TypeId) (v : Value) (vs : List Value) : Prop where
  own : W.ownsRow B E 1 v vs.length vs
section
variable {W W' : World} {B : Nat} {E : TypeId} {v : Value} {vs : List Value}
theorem VRow.nil (W : World) (B : Nat) (E : TypeId) : VRow W B E (.slice none 0 0) [] := ⟨⟨rfl, .inl ⟨rfl, rfl⟩⟩⟩
theorem VRow.kept (h : VRow W B E v vs) (k : ∀ g, v.ownBlock = some g → W'.heap[g]? = W.heap[g]?) : VRow W' B E v vs := by
  refine ⟨⟨h.own.1, ?_⟩⟩
  rcases h.own.2 with h1 | ⟨g, cap, cur, h1, h2, h3, h4⟩
  · exact .inl h1
  · exact .inr ⟨g, cap, cur, h1, h2, (k g (by rw [h1]; rfl)).trans h3, h4⟩
theorem VRow.turns {L : List Nat} (h : VRow W B E v vs) (k : Turns L W W') (hL : ∀ g, v.ownBlock = some g → g ∉ L) : VRow W' B E v vs :=
  h.kept fun g hg => k.block g (h.own.lt g hg).2 (hL g hg)
theorem VRow.lies (h : VRow W B E v vs) {g : Nat} (hg : v.ownBlock = some g) : B ≤ g ∧ ∃ cur, Lies W g E cur := by
  rcases h.own.2 with ⟨rfl, _⟩ | ⟨g', cap, cur, rfl, h2, h3, _⟩
  · cases hg
  · simp [Value.ownBlock] at hg
    subst hg
    exact ⟨h2, cur, h3⟩
theorem VRow.slice (h : VRow W B E v vs) : ∃ A cp, v = .slice A vs.length cp ∧ vs.length ≤ maxLen ∧ (0 < vs.length → ∃ g, A = some ⟨g, 0, none⟩ ∧ v.ownBlock = some g ∧ ∀ i u, vs[i]? = some u → W.cell? ⟨g, i, none⟩ = some u) := by
  rcases h.own.2 with ⟨rfl, h0⟩ | ⟨g, cap, cur, rfl, h2, h3, h4, h5, _⟩
  · exact ⟨none, 0, by rw [h0], by simp [h0], fun hn => by omega⟩
  · refine ⟨_, _, rfl, by omega, fun hn => ⟨g, rfl, rfl, fun i u hu => ?_⟩⟩
    have := h.own.cells (g := g) rfl i u hu
    rwa [add_head4] at this

/-- one value more. -/
theorem wpList_vrow {T : TypeId} {z u : Value} {ops : Array Oper} {rest : List Oper} {o : Oper} {a : Act} {Q : Exit → Act → World → Prop} (hT : Try.prog.underlying T = some (.slice E)) (hinfo : (Try.prog.info? E).map (fun i => (i.zero, i.size, i.bytes)) = some (some z, 1, 8)) (hz : z.cells.size = 1) (hu : u.oneCell' = true)
    (h : VRow W B E v vs) (hB : B ≤ W.heap.size) (hl : vs.length ≤ 10000) (hgd : Region.wanted o (yielded ops a.tmps) = true) (s x : Operand) (ho : o.op = .call { callee := .builtin .append, args := #[s, x], argTypes := #[T, T] })
    (hs : a.eval s = v) (hx : a.eval x = .slice (some ⟨W.heap.size, 0, none⟩) 1 1)
    (hK : ∀ v' w', VRow w' B E v' (vs ++ [u]) → Turns v.ownBlock.toList W w' → wpList Try.prog ops Q rest (a.put o.dst v') w') : wpList Try.prog ops Q (o :: rest) a (W.alloc (.cells #[u] E)) := by
  obtain ⟨i0, hi0, hz0, hz1, hz2⟩ := info_parts hinfo
  refine wpList_step fun K hK0 => ?_
  rw [if_pos hgd]
  refine wp_append_own _ s x T ho B E i0 _ 1 8 hT hi0 hz0 hz1 hz2 hz (by omega) v vs.length vs hs (h.own.alloc _) ⟨W.heap.size, 0, none⟩ 1 1 [u] hx rfl ?_ ?_ (by simp only [maxLen]; omega) (by omega) (by simp; omega) ?_
  · intro j y hy
    match j, hy with
    | 0, hy =>
      simp at hy
      subst hy
      simp [Addr.add]
  · intro y hy
    simp at hy
    subst hy
    exact hu
  · intro v' w' h1 h2 _
    refine hK0 _ _ (hK v' w' ⟨by simpa using h1⟩ ⟨h2.os, h2.tape, h2.output, ?_, fun k hk hn => ?_⟩)
    · have := h2.size
      simp at this
      omega
    · rw [h2.block k (by simp; omega) (fun e => hn (by rw [← e]; simp))]
      exact Below.heap_alloc W _ k hk
end

section
variable {St Pr : Type} (M : Mc St Pr)
theorem pick1_plus (N : Nat) (c : Cfg St Pr) (a : Nat) (i : Int) : pick1 M N ⟨c.s, c.q, c.d, c.n + a⟩ i = ⟨(pick1 M N c i).s, (pick1 M N c i).q, (pick1 M N c i).d, (pick1 M N c i).n + a⟩ := by
  have e : doesP M N ⟨c.s, c.q, c.d, c.n + a⟩ i = doesP M N c i := rfl
  unfold pick1
  rw [e]
  split
  · show Cfg.mk _ _ _ _ = Cfg.mk _ _ _ _
    congr 1
    show c.n + a + 1 = c.n + 1 + a
    omega
  · rfl
theorem fold_plus (N : Nat) (a : Nat) : ∀ (xs : List Int) (c : Cfg St Pr), xs.foldl (pick1 M N) ⟨c.s, c.q, c.d, c.n + a⟩ = ⟨(xs.foldl (pick1 M N) c).s, (xs.foldl (pick1 M N) c).q, (xs.foldl (pick1 M N) c).d, (xs.foldl (pick1 M N) c).n + a⟩
  | [], _ => rfl
  | x :: xs, c => by
    rw [List.foldl_cons, List.foldl_cons, pick1_plus, fold_plus N a xs]
/-- picks in two pieces. -/
theorem pick_pieces (N : Nat) (c : Cfg St Pr) (xs : List Int) (k : Nat) (c1 c2 : Cfg St Pr) (h1 : c1 = pickTo M N c (xs.take k) (xs.take k).length) (h2 : c2 = pickTo M N ⟨c1.s, c1.q, c1.d, 0⟩ (xs.drop k) (xs.drop k).length) :
    pickTo M N c xs xs.length = ⟨c2.s, c2.q, c2.d, c1.n + c2.n⟩ := by
  unfold pickTo at *
  rw [List.take_of_length_le (Nat.le_refl _)] at *
  have e : xs.foldl (pick1 M N) c = (xs.drop k).foldl (pick1 M N) ((xs.take k).foldl (pick1 M N) c) := by rw [← List.foldl_append, List.take_append_drop]
  rw [e, ← h1]
  have := fold_plus M N c1.n (xs.drop k) ⟨c1.s, c1.q, c1.d, 0⟩
  simp only [Nat.zero_add] at this
  rw [this, ← h2]
  congr 1
  omega
end

end Go.Proofs.Ytbkopghghoolmaa
