/- Contracts: the document's own arenas. -/
import Derived.Test.YtbkopghghoolmaaCopy
import Derived.Deep.DeepCutAuto
namespace Go.Proofs.Ytbkopghghoolmaa
open Go.RowKit
variable {Xo : Nat}

theorem rhas_any (A : Option Addr) (n cp : Nat) (k i : Int) (l : List Int) (w : World) (hn : l.length = n) :
    Calls Try.prog 50 #[.agg #[.slice A n cp, .int .i64 k], .int .i64 i] w fun e w' => e = .returned (.bool (hasA l i)) ∧ w.alloc (.cells #[.slice A n cp, .int .i64 k] 32) = w' := by
  have hh : hasA l i = (decide (0 ≤ i) && decide (i < n)) := by rw [hasA, hn]
  rw [hh]
  clear hh hn
  rcases (by omega : i < 0 ∨ 0 ≤ i ∧ (i < n ∨ (n : Int) ≤ i)) with h | ⟨h, h1 | h1⟩
  all_goals
    go_enter Try.func50, Try.ntmps50
    go_wp2
    go_ret
    exact ⟨ret_bool (by simp; omega), rfl⟩

theorem rnew_out (n : Int) (w : World) (h : n < 1 ∨ 1 ≤ n ∧ 1048576 < n) :
    Calls Try.prog 7 #[.int .i64 n] w fun e w' => e = .returned (.tuple #[.agg #[.slice none 0 0, .int .i64 0], .int .i64 1]) ∧ Below w.heap.size w w' := by
  rcases h with h | ⟨h0, h⟩
  · go_enter Try.func7, Try.ntmps7
    go_wp2
    refine bodyPost_ret (v := .tuple #[.agg #[.slice none 0 0, .int .i64 0], .int .i64 1]) (by simp [results, Try.results7, go_sem]) rfl ⟨rfl, ?_⟩
    exact (Below.refl _ _).alloc (Nat.le_refl _) _
  · have hn : ¬ n < 1 := by omega
    go_enter Try.func7, Try.ntmps7
    go_wp2
    refine bodyPost_ret (v := .tuple #[.agg #[.slice none 0 0, .int .i64 0], .int .i64 1]) (by simp [results, Try.results7, go_sem]) rfl ⟨rfl, ?_⟩
    exact (Below.refl _ _).alloc (Nat.le_refl _) _

theorem rnew_in (n : Nat) (w : World) (h1 : 1 ≤ n) (h2 : n ≤ 1048576) :
    Calls Try.prog 7 #[.int .i64 n] w fun e w' => e = .returned (.tuple #[.agg #[.slice (some ⟨w.heap.size + 1, 0, none⟩) n n, .int .i64 0], .int .i64 0]) ∧ Lies w' (w.heap.size + 1) 44 (nums (List.replicate n 0)) ∧ Below w.heap.size w w' := by
  have hm := make_nums n h2
  go_enter Try.func7, Try.ntmps7
  go_wp2
  refine bodyPost_ret (v := .tuple #[.agg #[.slice (some ⟨w.heap.size + 1, 0, none⟩) n n, .int .i64 0], .int .i64 0]) (by simp [results, Try.results7, go_sem]) rfl ⟨rfl, ?_, ?_⟩
  · have := Lies.new (w.alloc (.cells #[.slice (some ⟨w.heap.size + 1, 0, none⟩) n n, .int .i64 0] 32)) 44 (nums (List.replicate n 0))
    simpa using this
  · exact ((Below.refl _ _).alloc (Nat.le_refl _) _).alloc (by simp) _

/-- behind the document's Do: the arena's new value, its numbers, how many accesses; the answers. -/
def RDone (Xo : Nat) (w : World) (n : Nat) (l : List Int) (k x : Int) (b : Bool) (e : Ending) (w' : World) : Prop :=
  ∃ g cap, e = .returned (.tuple #[.agg #[.slice (some ⟨g, 0, none⟩) n cap, .int .i64 k], .int .u64 x, .bool b]) ∧ Held Xo w' g l ∧ Below w.heap.size w w'

theorem rdo_out (g n cp : Nat) (k kd i o v : Int) (l : List Int) (w : World) (h : Held Xo w g l) (hn : l.length = n) (hi : hasA l i = false) :
    Calls Try.prog 44 #[.agg #[.slice (some ⟨g, 0, none⟩) n cp, .int .i64 k], .int .i64 kd, .int .i64 i, .int .u64 o, .int .u64 v] w (RDone Xo w n l k 0 false) := by
  have HI := Lib.hid hi
  have HN := Lib.hid hn
  clear hi hn
  go_enter Try.func44, Try.ntmps44
  go_wp2_with fail
  refine (rhas_any _ _ _ _ _ l _ HN.out).mono ?_
  rintro e w1 ⟨rfl, rfl⟩
  rw [HI.out]
  go_wp2
  refine bodyPost_ret (v := .tuple #[.agg #[.slice (some ⟨g, 0, none⟩) n cp, .int .i64 k], .int .u64 0, .bool false]) (by simp [results, Try.results44, go_sem]) rfl ⟨g, cp, rfl, ?_, ?_⟩
  · exact h.turn (L := []) ((((Turns.refl _ _).alloc _).alloc _).alloc _) (by simp)
  · exact (((Below.refl _ _).alloc (Nat.le_refl _) _).alloc (by simp) _).alloc (by simp; omega) _

/-- in the midst of Do: the arena in its box, what is to be answered, the numbers. -/
structure Mid (Xo : Nat) (w : World) (S g n cp : Nat) (k : Int) (l : List Int) (W : World) : Prop where
  s : Lies W S 32 #[.slice (some ⟨g, 0, none⟩) n cp, .int .i64 k]
  r : Lies W (S + 1) 32 #[.slice none 0 0, .int .i64 0]
  h : Held Xo W g l
  be : Below w.heap.size w W
  old : g < S
  at_ : w.heap.size = S

theorem mid_of (w : World) (g n cp : Nat) (k k' : Int) (l : List Int) (h : Held Xo w g l) :
    Mid Xo w w.heap.size g n cp k l (((w.alloc (.cells #[.slice (some ⟨g, 0, none⟩) n cp, .int .i64 k] 32)).alloc (.cells #[.slice none 0 0, .int .i64 0] 32)).alloc (.cells #[.slice (some ⟨g, 0, none⟩) n cp, .int .i64 k'] 32)) := by
  refine ⟨((Lies.new _ _ _).alloc _).alloc _, ?_, ?_, ?_, h.lt, rfl⟩
  · have := (Lies.new (w.alloc (.cells #[.slice (some ⟨g, 0, none⟩) n cp, .int .i64 k] 32)) 32 #[.slice none 0 0, .int .i64 0]).alloc (.cells #[.slice (some ⟨g, 0, none⟩) n cp, .int .i64 k'] 32)
    simpa using this
  · exact h.turn (L := []) ((((Turns.refl _ _).alloc _).alloc _).alloc _) (by simp)
  · exact (((Below.refl _ _).alloc (Nat.le_refl _) _).alloc (by simp) _).alloc (by simp; omega) _


end Go.Proofs.Ytbkopghghoolmaa
