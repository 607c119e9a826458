/- Contracts: the document's own arenas. -/
import Derived.Test.YtpikcfnfappdiaaC10
import Derived.Deep.DeepCutAuto
namespace Go.Proofs.Ytpikcfnfappdiaa
open Go.RowKit

/-- the numbers l lie at the head of block g. -/
def Held (w : World) (g : Nat) (l : List Int) : Prop := ∃ cur : Array Value, Lies w g 33 cur ∧ ∀ i, i < l.length → cur[i]? = some (.int .u64 (getA l i))

theorem add_head (g i : Nat) : (Addr.mk g 0 none).add i = ⟨g, i, none⟩ := by unfold Addr.add; split <;> simp_all
theorem Held.of {w : World} {g : Nat} {l : List Int} (h : Lies w g 33 (nums l)) : Held w g l := ⟨_, h, fun _ hi => nums_at hi⟩
theorem Held.made {w : World} {g n : Nat} {l : List Int} (h : Own w g n) (r : Row w .u64 (some ⟨g, 0, none⟩) n l) : Held w g l := by
  obtain ⟨cur, hl, _⟩ := h
  refine ⟨cur, hl, fun i hi => ?_⟩
  obtain ⟨a, ha, _, hc⟩ := r.at_ (by have := r.len; omega)
  injection ha with ha
  subst ha
  have h1 := hc i (by have := r.len; omega)
  rw [add_head, hl.cell i] at h1
  rw [h1, r.getA i (by have := r.len; omega)]
theorem Held.lt {w : World} {g : Nat} {l : List Int} (h : Held w g l) : g < w.heap.size := by
  obtain ⟨cur, hl, _⟩ := h
  exact hl.lt
theorem Held.cell {w : World} {g : Nat} {l : List Int} (h : Held w g l) (i : Nat) (hi : i < l.length) : w.cell? ⟨g, i, none⟩ = some (.int .u64 (getA l i)) := by
  obtain ⟨cur, hl, hc⟩ := h
  exact (hl.cell i).trans (hc i hi)
theorem Held.frozen {w : World} {g : Nat} {l : List Int} (h : Held w g l) (i : Nat) : w.frozen? ⟨g, i, none⟩ = false := by
  obtain ⟨cur, hl, hc⟩ := h
  exact hl.frozen i
theorem Held.keep {w w' : World} {g B : Nat} {l : List Int} (h : Held w g l) (k : Below B w w') (hg : g < B) : Held w' g l := by
  obtain ⟨cur, hl, hc⟩ := h
  exact ⟨cur, hl.below k hg, hc⟩
theorem Held.turn {w w' : World} {g : Nat} {l : List Int} {L : List Nat} (h : Held w g l) (k : Turns L w w') (hg : g ∉ L) : Held w' g l := by
  obtain ⟨cur, hl, hc⟩ := h
  exact ⟨cur, hl.turn k hg, hc⟩
theorem Held.row {w : World} {g : Nat} {l : List Int} (h : Held w g l) (hf : ∀ x, x ∈ l → U64 x) (hm : l.length ≤ 1048576) : Row w .u64 (some ⟨g, 0, none⟩) l.length l := by
  refine ⟨rfl, by simp only [maxLen]; omega, fun x hx => ?_, fun _ => ⟨_, rfl, h.lt, fun i hi => ?_⟩⟩
  · obtain ⟨h0, h1⟩ := hf x hx
    exact WalkArith.wf_u64 (by omega)
  · rw [add_head, h.cell i hi, getA_nat hi]; simp [List.getD, hi]
theorem Held.set {w : World} {g : Nat} {l : List Int} (h : Held w g l) (i : Nat) (v : Int) : Held (w.setCell ⟨g, i, none⟩ (.int .u64 v)) g (l.set i v) := by
  obtain ⟨cur, hl, hc⟩ := h
  refine ⟨_, hl.set i _, fun j hj => ?_⟩
  have hj' : j < l.length := by simpa using hj
  rw [Array.getElem?_setIfInBounds, getA_nat hj]
  have h1 := hc j hj'
  obtain ⟨hlt, _⟩ := Array.getElem?_eq_some_iff.1 h1
  by_cases hij : i = j
  · subst hij; simp [hlt]
  · rw [if_neg hij, h1, getA_nat hj']; simp [hij]
theorem set_same {l : List Int} {i : Nat} (hi : i < l.length) : l.set i (getA l i) = l := by
  rw [getA_nat hi]; exact List.set_getElem_self hi

theorem rhas_any (A : Option Addr) (n cp : Nat) (k i : Int) (l : List Int) (w : World) (hn : l.length = n) :
    Calls Try.prog 23 #[.agg #[.slice A n cp, .int .i64 k], .int .i64 i] w fun e w' => e = .returned (.bool (hasA l i)) ∧ w.alloc (.cells #[.slice A n cp, .int .i64 k] 30) = w' := by
  have hh : hasA l i = (decide (0 ≤ i) && decide (i < n)) := by rw [hasA, hn]
  rw [hh]
  clear hh hn
  rcases (by omega : i < 0 ∨ 0 ≤ i ∧ (i < n ∨ (n : Int) ≤ i)) with h | ⟨h, h1 | h1⟩
  all_goals
    go_enter Try.func23, Try.ntmps23
    go_wp2
    go_ret
    exact ⟨ret_bool (by simp; omega), rfl⟩

theorem rnew_out (n : Int) (w : World) (h : n < 1 ∨ 1 ≤ n ∧ 1048576 < n) :
    Calls Try.prog 10 #[.int .i64 n] w fun e w' => e = .returned (.tuple #[.agg #[.slice none 0 0, .int .i64 0], .int .i64 1]) ∧ Below w.heap.size w w' := by
  rcases h with h | ⟨h0, h⟩
  · go_enter Try.func10, Try.ntmps10
    go_wp2
    refine bodyPost_ret (v := .tuple #[.agg #[.slice none 0 0, .int .i64 0], .int .i64 1]) (by simp [results, Try.results10, go_sem]) rfl ⟨rfl, ?_⟩
    exact (Below.refl _ _).alloc (Nat.le_refl _) _
  · have hn : ¬ n < 1 := by omega
    go_enter Try.func10, Try.ntmps10
    go_wp2
    refine bodyPost_ret (v := .tuple #[.agg #[.slice none 0 0, .int .i64 0], .int .i64 1]) (by simp [results, Try.results10, go_sem]) rfl ⟨rfl, ?_⟩
    exact (Below.refl _ _).alloc (Nat.le_refl _) _

theorem rnew_in (n : Nat) (w : World) (h1 : 1 ≤ n) (h2 : n ≤ 1048576) :
    Calls Try.prog 10 #[.int .i64 n] w fun e w' => e = .returned (.tuple #[.agg #[.slice (some ⟨w.heap.size + 1, 0, none⟩) n n, .int .i64 0], .int .i64 0]) ∧ Held w' (w.heap.size + 1) (List.replicate n 0) ∧ Below w.heap.size w w' := by
  have hm := make_nums n h2
  go_enter Try.func10, Try.ntmps10
  go_wp2
  refine bodyPost_ret (v := .tuple #[.agg #[.slice (some ⟨w.heap.size + 1, 0, none⟩) n n, .int .i64 0], .int .i64 0]) (by simp [results, Try.results10, go_sem]) rfl ⟨rfl, ?_, ?_⟩
  · have := Lies.new (w.alloc (.cells #[.slice (some ⟨w.heap.size + 1, 0, none⟩) n n, .int .i64 0] 30)) 33 (nums (List.replicate n 0))
    exact Held.of (by simpa using this)
  · exact ((Below.refl _ _).alloc (Nat.le_refl _) _).alloc (by simp) _

/-- behind the document's Do: the arena's new value, its numbers, how many accesses; the answers. -/
def RDone (w : World) (n : Nat) (l : List Int) (k x : Int) (b : Bool) (e : Ending) (w' : World) : Prop :=
  ∃ g cap, e = .returned (.tuple #[.agg #[.slice (some ⟨g, 0, none⟩) n cap, .int .i64 k], .int .u64 x, .bool b]) ∧ Held w' g l ∧ Below w.heap.size w w'

theorem rdo_out (g n cp : Nat) (k kd i o v : Int) (l : List Int) (w : World) (h : Held w g l) (hn : l.length = n) (hi : hasA l i = false) :
    Calls Try.prog 11 #[.agg #[.slice (some ⟨g, 0, none⟩) n cp, .int .i64 k], .int .i64 kd, .int .i64 i, .int .u64 o, .int .u64 v] w (RDone w n l k 0 false) := by
  have HI := Lib.hid hi
  have HN := Lib.hid hn
  clear hi hn
  go_enter Try.func11, Try.ntmps11
  go_wp2_with fail
  refine (rhas_any _ _ _ _ _ l _ HN.out).mono ?_
  rintro e w1 ⟨rfl, rfl⟩
  rw [HI.out]
  go_wp2
  refine bodyPost_ret (v := .tuple #[.agg #[.slice (some ⟨g, 0, none⟩) n cp, .int .i64 k], .int .u64 0, .bool false]) (by simp [results, Try.results11, go_sem]) rfl ⟨g, cp, rfl, ?_, ?_⟩
  · exact h.turn (L := []) ((((Turns.refl _ _).alloc _).alloc _).alloc _) (by simp)
  · exact (((Below.refl _ _).alloc (Nat.le_refl _) _).alloc (by simp) _).alloc (by simp; omega) _

/-- in the midst of Do: the arena in its box, what is to be answered, the numbers. -/
structure Mid (w : World) (S g n cp : Nat) (k : Int) (l : List Int) (W : World) : Prop where
  s : Lies W S 30 #[.slice (some ⟨g, 0, none⟩) n cp, .int .i64 k]
  r : Lies W (S + 1) 30 #[.slice none 0 0, .int .i64 0]
  h : Held W g l
  be : Below w.heap.size w W
  old : g < S
  at_ : w.heap.size = S

theorem mid_of (w : World) (g n cp : Nat) (k k' : Int) (l : List Int) (h : Held w g l) :
    Mid w w.heap.size g n cp k l (((w.alloc (.cells #[.slice (some ⟨g, 0, none⟩) n cp, .int .i64 k] 30)).alloc (.cells #[.slice none 0 0, .int .i64 0] 30)).alloc (.cells #[.slice (some ⟨g, 0, none⟩) n cp, .int .i64 k'] 30)) := by
  refine ⟨((Lies.new _ _ _).alloc _).alloc _, ?_, ?_, ?_, h.lt, rfl⟩
  · have := (Lies.new (w.alloc (.cells #[.slice (some ⟨g, 0, none⟩) n cp, .int .i64 k] 30)) 30 #[.slice none 0 0, .int .i64 0]).alloc (.cells #[.slice (some ⟨g, 0, none⟩) n cp, .int .i64 k'] 30)
    simpa using this
  · exact h.turn (L := []) ((((Turns.refl _ _).alloc _).alloc _).alloc _) (by simp)
  · exact (((Below.refl _ _).alloc (Nat.le_refl _) _).alloc (by simp) _).alloc (by simp; omega) _

theorem Held.far {w : World} {g : Nat} {l : List Int} (h : Held w g l) {p : Addr} (hp : g ≠ p.block) (u : Value) : Held (w.setCell p u) g l :=
  h.turn (L := [p.block]) ((Turns.refl _ _).setCell (.inl (by simp)) _) (by simpa using hp)


end Go.Proofs.Ytpikcfnfappdiaa
