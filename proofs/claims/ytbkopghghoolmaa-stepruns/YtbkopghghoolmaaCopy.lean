/- Numbers of one's own: copied by append, written. -/
import Derived.Test.YtbkopghghoolmaaC8
import Derived.Test.YtbkopghghoolmaaArg
import Derived.OwnWalk
import Derived.Deep.AppendLies
import Derived.RegionTactic
namespace Go.Proofs.Ytbkopghghoolmaa
open Go.RowKit

/-- nothing is appended. -/
theorem wpList_append_zero {P : Program} {w : World} {ops : Array Oper} {rest : List Oper} {o : Oper} {a : Act} {Q : Exit → Act → World → Prop} (hgd : o.guard = none) (s x : Operand) (t : TypeId)
    (ho : o.op = .call { callee := .builtin .append, args := #[s, x], argTypes := #[t, t] })
    (e : TypeId) (i : TypeInfo) (ht : P.underlying t = some (.slice e)) (hi : P.info? e = some i)
    (g : Addr) (m k : Nat) (A : Option Addr) (c : Nat) (hmk : m ≤ k) (hs : a.eval s = .slice (some g) m k) (hx : a.eval x = .slice A 0 c)
    (h : wpList P ops Q rest (a.put o.dst (.slice (some g) m k)) w) : wpList P ops Q (o :: rest) a w := by
  refine wpList_plain hgd fun K hK => ?_
  have hrun : (Builtin.append_ #[t, t] o.type #[.slice (some g) m k, .slice A 0 c]).run P w = .ok (.slice (some g) m k) w := by
    cases A <;> simp [Builtin.append_, run_underlying ht, sizeOf, typeInfo, hi, Builtin.lenOf, Builtin.firstCells, hmk, storeCells, loadCells, loadCellsFrom]
  unfold Oper.wp
  simp [execOp, ho, resolve, invoke, builtin, hs, hx, hrun, Result.andThen]
  exact hK _ _ h

/-- n numbers lie at the head of block g, which is ours. -/
def Own (w : World) (g n : Nat) : Prop := ∃ cur : Array Value, Lies w g 44 cur ∧ ∀ i, i < n → ∃ x, cur[i]? = some (.int .u64 x)
theorem Own.at_ {w : World} {g n i : Nat} (h : Own w g n) (hi : i < n) : ∃ x, w.cell? ⟨g, i, none⟩ = some (.int .u64 x) ∧ w.frozen? ⟨g, i, none⟩ = false := by
  obtain ⟨cur, hl, hc⟩ := h
  obtain ⟨x, hx⟩ := hc i hi
  exact ⟨x, (hl.cell i).trans hx, hl.frozen i⟩
theorem Own.set {w : World} {g n : Nat} (h : Own w g n) (i : Nat) (x : Int) : Own (w.setCell ⟨g, i, none⟩ (.int .u64 x)) g n := by
  obtain ⟨cur, hl, hc⟩ := h
  refine ⟨_, hl.set i _, fun j hj => ?_⟩
  obtain ⟨y, hy⟩ := hc j hj
  rw [Array.getElem?_setIfInBounds]
  by_cases hij : i = j
  · subst hij
    have : i < cur.size := (Array.getElem?_eq_some_iff.1 hy).1
    exact ⟨x, by simp [this]⟩
  · exact ⟨y, by simp [hij, hy]⟩
theorem Own.of {w : World} {g : Nat} {l : List Int} (h : Lies w g 44 (nums l)) : Own w g l.length := ⟨_, h, fun _ hi => ⟨_, nums_at hi⟩⟩
theorem Own.keep {w w' : World} {g n B : Nat} (h : Own w g n) (k : Below B w w') (hg : g < B) : Own w' g n := by
  obtain ⟨cur, hl, hc⟩ := h
  exact ⟨cur, hl.below k hg, hc⟩
theorem Own.lt {w : World} {g n : Nat} (h : Own w g n) : g < w.heap.size := by
  obtain ⟨cur, hl, _⟩ := h
  exact hl.lt

/-- what append made: a row of its own, that has these numbers. -/
theorem own_row {w : World} {B : Nat} {v : Value} {n : Nat} {xs : List Int} (h : w.ownsRow B 44 1 v n (xs.map (Value.int .u64))) (hn : 0 < n) (hx : xs.length = n) (hf : ∀ x, x ∈ xs → (Lit.int .u64 x).wf = true) (hm : n ≤ 1048576) :
    ∃ g cap, v = .slice (some ⟨g, 0, none⟩) n cap ∧ B ≤ g ∧ Own w g n ∧ Row w .u64 (some ⟨g, 0, none⟩) n xs := by
  rcases h.2 with ⟨_, h0⟩ | ⟨g, cap, cur, hv, hg, hh, _, _, _, ht⟩
  · omega
  · have hcell : ∀ i, (hi : i < n) → cur[i]? = some (.int .u64 (xs.getD i 0)) := by
      intro i hi
      have h1 : (cur.toList.take (n * 1))[i]? = (xs.map (Value.int .u64))[i]? := by rw [ht]
      rw [List.getElem?_take, if_pos (by omega), List.getElem?_map] at h1
      have h2 : i < xs.length := by omega
      simpa [h2] using h1
    refine ⟨g, cap, hv, hg, ⟨cur, hh, fun i hi => ⟨_, hcell i hi⟩⟩, hx, by simp only [maxLen]; omega, hf, fun _ => ⟨_, rfl, Lies.lt (t := 44) hh, fun i hi => ?_⟩⟩
    rw [show (Addr.mk g 0 none).add i = ⟨g, i, none⟩ by unfold Addr.add; split <;> simp_all]
    rw [Lies.cell (t := 44) hh i]
    exact hcell i hi

theorem Arena.drewN {w : World} {p c : Nat} {l : List Int} {k : Int} (h : Arena w p c l k) (n : Nat) : Arena (w.drewN n) p c l k := ⟨h.head, h.body, h.pos, h.most, h.fit, h.k0⟩
theorem Arena.drew {w : World} {p c : Nat} {l : List Int} {k : Int} (h : Arena w p c l k) : Arena w.drew p c l k := ⟨h.head, h.body, h.pos, h.most, h.fit, h.k0⟩

theorem news_of {w w' : World} {ad : Addr} {n : Nat} {xs : List Int} (h : Row w .u64 (some ad) n xs) (g : Below w.heap.size w w') : ∀ j u, (xs.map (Value.int .u64))[j]? = some u → w'.cell? (ad.add j) = some u := by
  intro j u hu
  rw [List.getElem?_map] at hu
  obtain ⟨x, hx, rfl⟩ := Option.map_eq_some_iff.1 hu
  have hj : j < n := by rw [← h.len]; exact (List.getElem?_eq_some_iff.1 hx).1
  obtain ⟨a, ha, hb, hc⟩ := h.at_ (by omega)
  injection ha with ha
  subst ha
  rw [g.cell (by rw [add_block]; exact hb), hc j hj]
  simp [List.getD, hx]

theorem u64_info : (Try.prog.info? 44).map (fun i => (i.zero, i.size, i.bytes)) = some (some (.int .u64 0), 1, 8) := by kernel_rfl

/-- a copy of numbers: 'append([]uint64{}, l...)'. -/
theorem wpList_copied {ops : Array Oper} {rest : List Oper} {o : Oper} {a : Act} {Q : Exit → Act → World → Prop} {w0 w1 : World} {ad : Addr} {n cp : Nat} {xs : List Int} (hgd : o.guard = none) (s x : Operand)
    (ho : o.op = .call { callee := .builtin .append, args := #[s, x], argTypes := #[30, 30] })
    (hs : a.eval s = .slice (some ⟨w1.heap.size, 0, none⟩) 0 0) (hx : a.eval x = .slice (some ad) n cp) (hr : Row w0 .u64 (some ad) n xs) (hb : Below w0.heap.size w0 w1) (hn : 0 < n) (hm : n ≤ 1048576)
    (h : ∀ g cap w2, w1.heap.size ≤ g → Own w2 g n → Row w2 .u64 (some ⟨g, 0, none⟩) n xs → Below w1.heap.size w1 w2 → wpList Try.prog ops Q rest (a.put o.dst (.slice (some ⟨g, 0, none⟩) n cap)) w2) :
    wpList Try.prog ops Q (o :: rest) a (w1.alloc (.cells #[] 44)) := by
  obtain ⟨i0, hi0, hz0, hz1, hz2⟩ := info_parts u64_info
  have hnews := news_of (w' := w1.alloc (.cells #[] 44)) hr (hb.alloc hb.size _)
  have hown := World.ownsRow_made (base := w1.heap.size) (e := 44) (size := 1) w1 #[] 0 (Nat.le_refl _) (by simp [maxLen]) (by simp)
  refine wpList_append_own (w1.alloc (.cells #[] 44)) hgd s x 30 ho w1.heap.size 44 i0 _ 1 8 Try.underlying30 hi0 hz0 hz1 hz2 rfl (by omega) _ 0 [] hs hown ad n cp (xs.map (Value.int .u64)) hx (by simp [hr.len]) hnews (by simp [Value.oneCell']) (by simp only [maxLen]; omega) (by omega) (by simp) ?_
  intro v' w2 hown2 hgr _
  rw [Nat.zero_add, List.nil_append] at hown2
  obtain ⟨g, cap, rfl, hg, ho2, hr2⟩ := own_row hown2 (by omega) hr.len hr.wf hm
  exact h g cap w2 hg ho2 hr2 (((Below.refl _ _).alloc (Nat.le_refl _) _).grown hgr (by simp) (by simp [Value.ownBlock]))

/-- the numbers l lie at the head of block g, which is another one than Xo. -/
def Held (Xo : Nat) (w : World) (g : Nat) (l : List Int) : Prop := ∃ cur : Array Value, Lies w g 44 cur ∧ (∀ i, i < l.length → cur[i]? = some (.int .u64 (getA l i))) ∧ Xo < w.heap.size ∧ g ≠ Xo
variable {Xo : Nat}

theorem add_head (g i : Nat) : (Addr.mk g 0 none).add i = ⟨g, i, none⟩ := by unfold Addr.add; split <;> simp_all
theorem Held.of {w : World} {g : Nat} {l : List Int} (h : Lies w g 44 (nums l)) (hx : Xo < w.heap.size) (hne : g ≠ Xo) : Held Xo w g l := ⟨_, h, fun _ hi => nums_at hi, hx, hne⟩
theorem Held.made {w : World} {g n : Nat} {l : List Int} (h : Own w g n) (r : Row w .u64 (some ⟨g, 0, none⟩) n l) {W : World} {g0 : Nat} {l0 : List Int} (k : Held Xo W g0 l0) (hg : W.heap.size ≤ g) (hb : Below W.heap.size W w) : Held Xo w g l := by
  obtain ⟨cur, hl, _⟩ := h
  obtain ⟨_, _, _, hx, _⟩ := k
  have hbs := hb.size
  refine ⟨cur, hl, fun i hi => ?_, by omega, by omega⟩
  obtain ⟨a, ha, _, hc⟩ := r.at_ (by have := r.len; omega)
  injection ha with ha
  subst ha
  have h1 := hc i (by have := r.len; omega)
  rw [add_head, hl.cell i] at h1
  rw [h1, r.getA i (by have := r.len; omega)]
theorem Held.lt {w : World} {g : Nat} {l : List Int} (h : Held Xo w g l) : g < w.heap.size := by
  obtain ⟨cur, hl, _⟩ := h
  exact hl.lt
theorem Held.cell {w : World} {g : Nat} {l : List Int} (h : Held Xo w g l) (i : Nat) (hi : i < l.length) : w.cell? ⟨g, i, none⟩ = some (.int .u64 (getA l i)) := by
  obtain ⟨cur, hl, hc, _⟩ := h
  exact (hl.cell i).trans (hc i hi)
theorem Held.frozen {w : World} {g : Nat} {l : List Int} (h : Held Xo w g l) (i : Nat) : w.frozen? ⟨g, i, none⟩ = false := by
  obtain ⟨cur, hl, hc⟩ := h
  exact hl.frozen i
theorem Held.keep {w w' : World} {g B : Nat} {l : List Int} (h : Held Xo w g l) (k : Below B w w') (hg : g < B) : Held Xo w' g l := by
  obtain ⟨cur, hl, hc, hx, hn⟩ := h
  exact ⟨cur, hl.below k hg, hc, Nat.lt_of_lt_of_le hx k.size, hn⟩
theorem Held.turn {w w' : World} {g : Nat} {l : List Int} {L : List Nat} (h : Held Xo w g l) (k : Turns L w w') (hg : g ∉ L) : Held Xo w' g l := by
  obtain ⟨cur, hl, hc, hx, hn⟩ := h
  exact ⟨cur, hl.turn k hg, hc, Nat.lt_of_lt_of_le hx k.size, hn⟩
theorem Held.row {w : World} {g : Nat} {l : List Int} (h : Held Xo w g l) (hf : ∀ x, x ∈ l → N64 x) (hm : l.length ≤ 1048576) : Row w .u64 (some ⟨g, 0, none⟩) l.length l := by
  refine ⟨rfl, by simp only [maxLen]; omega, fun x hx => ?_, fun _ => ⟨_, rfl, h.lt, fun i hi => ?_⟩⟩
  · obtain ⟨h0, h1⟩ := hf x hx
    exact WalkArith.wf_u64 (by omega)
  · rw [add_head, h.cell i hi, getA_nat hi]; simp [List.getD, hi]
theorem Held.set {w : World} {g : Nat} {l : List Int} (h : Held Xo w g l) (i : Nat) (v : Int) : Held Xo (w.setCell ⟨g, i, none⟩ (.int .u64 v)) g (l.set i v) := by
  obtain ⟨cur, hl, hc, hx, hn⟩ := h
  refine ⟨_, hl.set i _, fun j hj => ?_, by simpa [World.setCell] using hx, hn⟩
  have hj' : j < l.length := by simpa using hj
  rw [Array.getElem?_setIfInBounds, getA_nat hj]
  have h1 := hc j hj'
  obtain ⟨hlt, _⟩ := Array.getElem?_eq_some_iff.1 h1
  by_cases hij : i = j
  · subst hij; simp [hlt]
  · rw [if_neg hij, h1, getA_nat hj']; simp [hij]
theorem set_same {l : List Int} {i : Nat} (hi : i < l.length) : l.set i (getA l i) = l := by
  rw [getA_nat hi]; exact List.set_getElem_self hi
theorem Held.far {w : World} {g : Nat} {l : List Int} (h : Held Xo w g l) {p : Addr} (hp : g ≠ p.block) (u : Value) : Held Xo (w.setCell p u) g l :=
  h.turn (L := [p.block]) ((Turns.refl _ _).setCell (.inl (by simp)) _) (by simpa using hp)

end Go.Proofs.Ytbkopghghoolmaa
