/- Small words that every text uses. -/
import Derived.Below
import Derived.Laws.Rows
import Derived.Laws.OwnMore
import Derived.Deep.Draws
import Derived.Test.YthkklcmmbpffiaaRows
import Derived.WalkKit
import Derived.WalkSpells
import Derived.BigQuiet
import Derived.Lib.Hide
import Derived.Laws.LoneSync
import Derived.Laws.MakeOwn
import Derived.ChangeSlices
import Derived.ChangeAt
import Derived.ProofKit
import Derived.OpenShut
import Derived.OwnWalk
import Derived.Deep.AppendLies
import Derived.RegionTactic
import Derived.Deep.RegionHeld3
import Derived.Deep.DeepCutAuto
import Derived.Laws.BitsAllLaws
import Derived.WalkSmall
import Derived.LoopN
namespace Go.Proofs.Ythkklcmmbpffiaa

theorem ret_int {k : IntKind} {a b : Int} (h : a = b) : Ending.returned (.int k a) = .returned (.int k b) := by rw [h]

theorem ret_bool {a b : Bool} (h : a = b) : Ending.returned (.bool a) = .returned (.bool b) := by rw [h]

theorem ret_two {k l : IntKind} {a b c d : Int} (h : a = b) (g : c = d) : Ending.returned (.tuple #[.int k a, .int l c]) = .returned (.tuple #[.int k b, .int l d]) := by rw [h, g]

end Go.Proofs.Ythkklcmmbpffiaa

/- Plain words of memory: a block that is known whole, and worlds that part in some blocks alone. -/
namespace Go.Proofs.Ythkklcmmbpffiaa
open Go.RowKit

/-- block g is just these cells, of that type of element; none of them is frozen. -/
def Lies (w : World) (g : Nat) (t : TypeId) (cs : Array Value) : Prop := w.heap[g]? = some (.cells cs t (0, 0))

/-- w' is w, but for the blocks of L, and for new ones. -/
structure Turns (L : List Nat) (w w' : World) : Prop where
  os : w'.os = w.os
  tape : w'.tape = w.tape
  output : w'.output = w.output
  size : w.heap.size ≤ w'.heap.size
  block : ∀ k, k < w.heap.size → k ∉ L → w'.heap[k]? = w.heap[k]?

section
variable {L L' : List Nat} {a w w' : World} {g : Nat} {t : TypeId} {cs : Array Value}

theorem Turns.refl (L : List Nat) (w : World) : Turns L w w := ⟨rfl, rfl, rfl, Nat.le_refl _, fun _ _ _ => rfl⟩
theorem Turns.trans (h : Turns L a w) (k : Turns L w w') : Turns L a w' :=
  ⟨k.os.trans h.os, k.tape.trans h.tape, k.output.trans h.output, Nat.le_trans h.size k.size, fun i hi hn => (k.block i (Nat.lt_of_lt_of_le hi h.size) hn).trans (h.block i hi hn)⟩
theorem Turns.more (h : Turns L a w) (hs : ∀ k, k ∈ L → k ∈ L' ∨ a.heap.size ≤ k) : Turns L' a w :=
  ⟨h.os, h.tape, h.output, h.size, fun i hi hn => h.block i hi (fun hm => by
    rcases hs i hm with h1 | h1
    · exact hn h1
    · omega)⟩
theorem Turns.of_below {B : Nat} (h : Below B w w') (hB : w.heap.size ≤ B) : Turns L w w' := ⟨h.os, h.tape, h.output, h.size, fun i hi _ => h.block i (by omega)⟩
theorem Turns.below {B : Nat} (h : Turns L w w') (hL : ∀ k, k ∈ L → B ≤ k) (hB : B ≤ w.heap.size) : Below B w w' :=
  ⟨h.os, h.tape, h.output, h.size, fun i hi => h.block i (by omega) (fun hm => by have := hL i hm; omega)⟩
theorem Turns.alloc (h : Turns L a w) (o : Obj) : Turns L a (w.alloc o) :=
  h.trans ⟨rfl, rfl, rfl, by simp, fun _ hk _ => Below.heap_alloc _ _ _ hk⟩
theorem Turns.setCell (h : Turns L a w) {p : Addr} (hp : p.block ∈ L ∨ a.heap.size ≤ p.block) (u : Value) : Turns L a (w.setCell p u) :=
  ⟨h.os, h.tape, h.output, by simpa [World.setCell] using h.size, fun i hi hn => (Below.heap_setCell w p u i (by
    rintro rfl
    rcases hp with h1 | h1
    · exact hn h1
    · omega)).trans (h.block i hi hn)⟩
theorem Turns.cell (h : Turns L w w') {p : Addr} (hp : p.block < w.heap.size) (hn : p.block ∉ L) : w'.cell? p = w.cell? p := World.cell?_of_block (w := w) (h.block p.block hp hn)
theorem Turns.drewN (h : Turns L a w) (n : Nat) : Turns L a (w.drewN n) := ⟨h.os, h.tape, h.output, h.size, h.block⟩
theorem Turns.drew (h : Turns L a w) : Turns L a w.drew := ⟨h.os, h.tape, h.output, h.size, h.block⟩

theorem Lies.lt (h : Lies w g t cs) : g < w.heap.size := by
  rcases Nat.lt_or_ge g w.heap.size with hlt | hge
  · exact hlt
  · unfold Lies at h; rw [Array.getElem?_eq_none hge] at h; cases h
theorem Lies.cell (h : Lies w g t cs) (i : Nat) : w.cell? ⟨g, i, none⟩ = cs[i]? := cell_of_row w g i cs t (0, 0) h
theorem Lies.frozen (h : Lies w g t cs) (i : Nat) : w.frozen? ⟨g, i, none⟩ = false := by
  unfold Lies at h
  simp [World.frozen?, h]
theorem Lies.new (w : World) (t : TypeId) (cs : Array Value) : Lies (w.alloc (.cells cs t)) w.heap.size t cs := by
  show (w.heap.push _)[w.heap.size]? = _
  simp
theorem Lies.set (h : Lies w g t cs) (i : Nat) (u : Value) : Lies (w.setCell ⟨g, i, none⟩ u) g t (cs.setIfInBounds i u) := by
  unfold Lies at h ⊢
  simp [World.setCell, Array.getElem?_modify, h]
theorem Lies.far (h : Lies w g t cs) {p : Addr} (hp : g ≠ p.block) (u : Value) : Lies (w.setCell p u) g t cs := (Below.heap_setCell w p u g hp).trans h
theorem Lies.alloc (h : Lies w g t cs) (o : Obj) : Lies (w.alloc o) g t cs := (Below.heap_alloc w o g h.lt).trans h
theorem Lies.drewN (h : Lies w g t cs) (n : Nat) : Lies (w.drewN n) g t cs := h
theorem Lies.drew (h : Lies w g t cs) : Lies w.drew g t cs := h
theorem Lies.turn (h : Lies w g t cs) (k : Turns L w w') (hg : g ∉ L) : Lies w' g t cs := (k.block g h.lt hg).trans h
theorem Lies.below {B : Nat} (h : Lies w g t cs) (k : Below B w w') (hg : g < B) : Lies w' g t cs := (k.block g hg).trans h
theorem Lies.unlike {g' : Nat} {t' : TypeId} {cs' : Array Value} (h : Lies w g t cs) (k : Lies w g' t' cs') (hne : t ≠ t') : g ≠ g' := by
  rintro rfl
  unfold Lies at h k
  rw [h] at k
  injection k with k
  injection k with _ ht
  exact hne ht
end

theorem drawn {B : Nat} {a w : World} (h : Below B a w) (n : Nat) : Below B a (w.drewN n) := ⟨h.os, h.tape, h.output, h.size, h.block⟩

end Go.Proofs.Ythkklcmmbpffiaa

/- Which types' blocks may be written by others than a code's own steps. -/
namespace Go.Proofs.Ythkklcmmbpffiaa

/-- tasks, and slices of them. -/
def loose : List TypeId := [89, 35]
theorem task_loose : 89 ∈ loose := by decide
end Go.Proofs.Ythkklcmmbpffiaa

/- Contracts of the atomic cells that an arena is made of. -/
namespace Go.Proofs.Ythkklcmmbpffiaa
open Go.RowKit

section
variable {P : Program} {f : FuncId} {fn : Func}

/-- sync/atomic.SwapT: what the cell had; the number is stored. -/
theorem run_call_swap (hf : P.funcs[f]? = some fn) (hname : (fn.name == "runtime.NumGoroutine") = false) (hb : fn.body.isNone = true) (hn : Extern.findNext fn = none) (k : IntKind)
    (he : Extern.find fn = some (Extern.Atomic.swapT (.int k))) {a : Addr} {x y : Int} {w : World} (hc : w.cell? a = some (.int k x)) (hz : w.frozen? a = false) :
    (callFunc f #[.pointer (some a), .int k y]).run P w = .ok (.value (.int k x)) (w.setCell a (.int k y)) := by
  rw [run_callFunc_extern hf hname hb hn he]
  change (Sem.run P (do
    let a' ← asAddr (.pointer (some a))
    let old ← Extern.Atomic.read (.int k) a'
    store a' (.int k y) .atomic
    pure old) w).andThen _ = _
  simp [Extern.Atomic.read, asAddr, hc, hz, run_store P w a (.int k y) .atomic rfl, Result.andThen]
end

theorem aload (b o : Nat) (x : Int) (w : World) (hc : w.cell? ⟨b, o, none⟩ = some (.int .u64 x)) :
    Calls Try.prog 61 #[.pointer (some ⟨b, o, none⟩)] w fun e w' => e = .returned (.int .u64 x) ∧ w = w' := by
  have hl := run_call_load (P := Try.prog) Try.func91 (by kernel_rfl) (by kernel_rfl) (by kernel_rfl) .u64 (by kernel_rfl) hc
  go_enter Try.func61, Try.ntmps61
  go_wp2
  go_ret
  exact ⟨rfl, rfl⟩

theorem astore (b o : Nat) (x y : Int) (w : World) (hc : w.cell? ⟨b, o, none⟩ = some (.int .u64 x)) (hz : w.frozen? ⟨b, o, none⟩ = false) :
    Calls Try.prog 59 #[.pointer (some ⟨b, o, none⟩), .int .u64 y] w fun e w' => e = .returned (.tuple #[]) ∧ w.setCell ⟨b, o, none⟩ (.int .u64 y) = w' := by
  have hl := run_call_store (P := Try.prog) Try.func90 (by kernel_rfl) (by kernel_rfl) (by kernel_rfl) (by kernel_rfl) (k := .u64) (y := y) hc hz
  go_enter Try.func59, Try.ntmps59
  go_wp2
  go_end0
  exact ⟨rfl, rfl⟩

theorem acas_hit (b o : Nat) (x y : Int) (w : World) (hc : w.cell? ⟨b, o, none⟩ = some (.int .u64 x)) (hz : w.frozen? ⟨b, o, none⟩ = false) :
    Calls Try.prog 115 #[.pointer (some ⟨b, o, none⟩), .int .u64 x, .int .u64 y] w fun e w' => e = .returned (.bool true) ∧ w.setCell ⟨b, o, none⟩ (.int .u64 y) = w' := by
  have hl := run_call_cas_hit (P := Try.prog) Try.func116 (by kernel_rfl) (by kernel_rfl) (by kernel_rfl) .u64 (by kernel_rfl) (y := y) hc hz
  go_enter Try.func115, Try.ntmps115
  go_wp2
  go_ret
  exact ⟨rfl, rfl⟩

theorem acas_miss (b o : Nat) (x z y : Int) (w : World) (hne : ¬ x = z) (hc : w.cell? ⟨b, o, none⟩ = some (.int .u64 x)) (hz : w.frozen? ⟨b, o, none⟩ = false) :
    Calls Try.prog 115 #[.pointer (some ⟨b, o, none⟩), .int .u64 z, .int .u64 y] w fun e w' => e = .returned (.bool false) ∧ w = w' := by
  have hl := run_call_cas_miss (P := Try.prog) Try.func116 (by kernel_rfl) (by kernel_rfl) (by kernel_rfl) .u64 (by kernel_rfl) (o := z) (y := y) hc hz hne
  go_enter Try.func115, Try.ntmps115
  go_wp2
  go_ret
  exact ⟨rfl, rfl⟩

/-- the sum, modulo 2^64. -/
def sum64 (x y : Int) : Int := IntKind.u64.wrap (x + y)

theorem sum64_eq (x y : Int) : sum64 x y = (x + y) % 18446744073709551616 := by simp [sum64, IntKind.wrap_u64]

theorem iload (b o : Nat) (x : Int) (w : World) (hc : w.cell? ⟨b, o, none⟩ = some (.int .i64 x)) :
    Calls Try.prog 45 #[.pointer (some ⟨b, o, none⟩)] w fun e w' => e = .returned (.int .i64 x) ∧ w = w' := by
  have hl := run_call_load (P := Try.prog) Try.func73 (by kernel_rfl) (by kernel_rfl) (by kernel_rfl) .i64 (by kernel_rfl) hc
  go_enter Try.func45, Try.ntmps45
  go_wp2
  go_ret
  exact ⟨rfl, rfl⟩

theorem iadd (b o : Nat) (x : Int) (w : World) (h0 : 0 ≤ x) (h1 : x < 9223372036854775807) (hc : w.cell? ⟨b, o, none⟩ = some (.int .i64 x)) (hz : w.frozen? ⟨b, o, none⟩ = false) :
    Calls Try.prog 89 #[.pointer (some ⟨b, o, none⟩), .int .i64 1] w fun e w' => e = .returned (.int .i64 (x + 1)) ∧ w.setCell ⟨b, o, none⟩ (.int .i64 (x + 1)) = w' := by
  have hs : IntKind.i64.wrap (x + 1) = x + 1 := by rw [IntKind.wrap_i64]; omega
  have hl := run_call_add (P := Try.prog) Try.func105 (by kernel_rfl) (by kernel_rfl) (by kernel_rfl) .i64 (by kernel_rfl) (y := 1) (s := x + 1) hc hz (by rw [← hs]; exact rfl)
  clear hs
  go_enter Try.func89, Try.ntmps89
  go_wp2
  go_ret
  exact ⟨rfl, rfl⟩

end Go.Proofs.Ythkklcmmbpffiaa

/- Contracts of an arena's accesses. -/
namespace Go.Proofs.Ythkklcmmbpffiaa
open Go.RowKit

/-- numbers, as cells. -/
def nums (l : List Int) : Array Value := (l.map (Value.int .u64)).toArray

/-- is there such a cell? -/
def hasA (l : List Int) (i : Int) : Bool := decide (0 ≤ i) && decide (i < l.length)

/-- what the cell has; 0 if there is none. -/
def getA (l : List Int) (i : Int) : Int := if hasA l i = true then l.getD i.toNat 0 else 0

/-- the cell has v then, if there is one. -/
def setA (l : List Int) (i v : Int) : List Int := if hasA l i = true then l.set i.toNat v else l

/-- an access more, if there is one. -/
def moreA (l : List Int) (i k : Int) : Int := if hasA l i = true then k + 1 else k

def N64 (v : Int) : Prop := 0 ≤ v ∧ v < 18446744073709551616

/-- an arena at block p, whose cells lie at block c and have the numbers l; k accesses. -/
structure Arena (w : World) (p c : Nat) (l : List Int) (k : Int) : Prop where
  head : Lies w p 101 #[.slice (some ⟨c, 0, none⟩) l.length l.length, .int .i64 k]
  body : Lies w c 111 (nums l)
  pos : 1 ≤ l.length
  most : l.length ≤ 1048576
  fit : ∀ x, x ∈ l → N64 x
  k0 : 0 ≤ k

theorem hasA_yes {l : List Int} {i : Nat} (h : i < l.length) : hasA l i = true := by simp [hasA]; omega

theorem hasA_iff {l : List Int} {i : Int} : hasA l i = true ↔ 0 ≤ i ∧ i < l.length := by simp [hasA]

theorem getA_nat {l : List Int} {i : Nat} (h : i < l.length) : getA l i = l[i] := by simp [getA, hasA_yes h, h]

theorem setA_nat {l : List Int} {i : Nat} (h : i < l.length) (v : Int) : setA l i v = l.set i v := by simp [setA, hasA_yes h]

theorem setA_length (l : List Int) (i v : Int) : (setA l i v).length = l.length := by unfold setA; split <;> simp

theorem nums_size (l : List Int) : (nums l).size = l.length := by simp [nums]

theorem nums_at {l : List Int} {i : Nat} (h : i < l.length) : (nums l)[i]? = some (.int .u64 (getA l i)) := by rw [getA_nat h]; simp [nums, h]

theorem nums_set (l : List Int) (i : Nat) (v : Int) : (nums l).setIfInBounds i (.int .u64 v) = nums (l.set i v) := by
  simp [nums, List.map_set]

section
variable {w w' : World} {p c : Nat} {l : List Int} {k : Int}

theorem Arena.ne (h : Arena w p c l k) : p ≠ c := h.head.unlike h.body (by decide)

theorem Arena.fitA (h : Arena w p c l k) (i : Int) : N64 (getA l i) := by
  unfold getA
  split
  · rename_i hh
    rw [hasA_iff] at hh
    have : i.toNat < l.length := by omega
    simp [this]
    exact h.fit _ (List.getElem_mem _)
  · simp [N64]

theorem Arena.turn {L : List Nat} (h : Arena w p c l k) (g : Turns L w w') (hp : p ∉ L) (hc : c ∉ L) : Arena w' p c l k :=
  ⟨h.head.turn g hp, h.body.turn g hc, h.pos, h.most, h.fit, h.k0⟩

theorem Arena.below {B : Nat} (h : Arena w p c l k) (g : Below B w w') (hp : p < B) (hc : c < B) : Arena w' p c l k :=
  ⟨h.head.below g hp, h.body.below g hc, h.pos, h.most, h.fit, h.k0⟩

theorem Arena.count (h : Arena w p c l k) (k' : Int) (h0 : 0 ≤ k') : Arena (w.setCell ⟨p, 1, none⟩ (.int .i64 k')) p c l k' := by
  refine ⟨?_, h.body.far (p := ⟨p, 1, none⟩) h.ne.symm _, h.pos, h.most, h.fit, h0⟩
  have := h.head.set 1 (.int .i64 k')
  simpa using this

theorem Arena.put (h : Arena w p c l k) (i : Nat) (v : Int) (hv : N64 v) : Arena (w.setCell ⟨c, i, none⟩ (.int .u64 v)) p c (l.set i v) k := by
  refine ⟨?_, ?_, by simpa using h.pos, by simpa using h.most, ?_, h.k0⟩
  · have := h.head.far (p := ⟨c, i, none⟩) h.ne (.int .u64 v)
    simpa using this
  · rw [← nums_set]; exact h.body.set i _
  · intro x hx
    rcases List.mem_or_eq_of_mem_set hx with h1 | h1
    · exact h.fit x h1
    · subst h1; exact hv
end

theorem reach_in (p c : Nat) (l : List Int) (k : Int) (i : Nat) (w : World) (h : Arena w p c l k) (hi : i < l.length) (hk : k < 9223372036854775807) :
    Calls Try.prog 58 #[.pointer (some ⟨p, 0, none⟩), .int .i64 i] w fun e w' => e = .returned (.bool true) ∧ w.setCell ⟨p, 1, none⟩ (.int .i64 (k + 1)) = w' := by
  have h0 := h.head.cell 0
  have h1 := h.head.cell 1
  have f1 := h.head.frozen 1
  have k0 := h.k0
  simp at h0 h1
  go_enter Try.func58, Try.ntmps58
  go_wp2_with fail
  refine (iadd _ _ k _ (by omega) (by omega) (by simpa using h1) (by simpa using f1)).mono ?_
  rintro e w' ⟨rfl, rfl⟩
  go_wp2
  go_ret
  exact ⟨rfl, rfl⟩

theorem reach_out (p c : Nat) (l : List Int) (k : Int) (i : Int) (w : World) (h : Arena w p c l k) (hi : hasA l i = false) :
    Calls Try.prog 58 #[.pointer (some ⟨p, 0, none⟩), .int .i64 i] w fun e w' => e = .returned (.bool false) ∧ w = w' := by
  have h0 := h.head.cell 0
  simp at h0
  have ho : i < 0 ∨ 0 ≤ i ∧ (l.length : Int) ≤ i := by
    rcases Int.lt_or_le i 0 with h1 | h1
    · exact .inl h1
    · refine .inr ⟨h1, ?_⟩
      simp [hasA] at hi
      exact hi h1
  clear hi
  rcases ho with ho | ⟨ho, hq⟩
  · go_enter Try.func58, Try.ntmps58
    go_wp2
    go_ret
    exact ⟨rfl, rfl⟩
  · have hn : ¬ i < 0 := by omega
    go_enter Try.func58, Try.ntmps58
    go_wp2
    go_ret
    exact ⟨rfl, rfl⟩

end Go.Proofs.Ythkklcmmbpffiaa

/- Contracts of the five accesses, of Len and of Count. -/
namespace Go.Proofs.Ythkklcmmbpffiaa
open Go.RowKit

theorem getA_out {l : List Int} {i : Int} (h : hasA l i = false) : getA l i = 0 := by simp [getA, h]

theorem setA_out {l : List Int} {i : Int} (h : hasA l i = false) (v : Int) : setA l i v = l := by simp [setA, h]

theorem moreA_out {l : List Int} {i : Int} (h : hasA l i = false) (k : Int) : moreA l i k = k := by simp [moreA, h]

theorem moreA_nat {l : List Int} {i : Nat} (h : i < l.length) (k : Int) : moreA l i k = k + 1 := by simp [moreA, hasA_yes h]

theorem hasA_cases (l : List Int) (i : Int) : hasA l i = false ∨ ∃ n : Nat, i = n ∧ n < l.length := by
  by_cases h : hasA l i = true
  · rw [hasA_iff] at h
    exact .inr ⟨i.toNat, by omega, by omega⟩
  · exact .inl (by simpa using h)

theorem sum64_fit (x y : Int) : N64 (sum64 x y) := by
  rw [sum64_eq]
  exact ⟨Int.emod_nonneg _ (by omega), Int.emod_lt_of_pos _ (by omega)⟩

theorem sum64_back {x y : Int} (hx : N64 x) : (sum64 x y - y) % 18446744073709551616 = x := by
  obtain ⟨h0, h1⟩ := hx
  rw [sum64_eq]; omega

section
variable {p c : Nat} {l : List Int} {k : Int} {w : World}

theorem load_in (i : Nat) (h : Arena w p c l k) (hi : i < l.length) (hk : k < 9223372036854775807) :
    Calls Try.prog 75 #[.pointer (some ⟨p, 0, none⟩), .int .i64 i] w fun e w' => e = .returned (.int .u64 (getA l i)) ∧ w.setCell ⟨p, 1, none⟩ (.int .i64 (k + 1)) = w' := by
  have a1 := h.count (k + 1) (by have := h.k0; omega)
  have h0 := a1.head.cell 0
  have h1 := a1.body.cell i
  rw [nums_at hi] at h1
  simp at h0
  go_enter Try.func75, Try.ntmps75
  go_wp2_with fail
  refine (reach_in _ _ _ _ _ _ h hi hk).mono ?_
  rintro e w' ⟨rfl, rfl⟩
  go_wp2_with fail
  refine (aload _ _ _ _ (by simpa using h1)).mono ?_
  rintro e w' ⟨rfl, rfl⟩
  go_wp2
  go_ret
  exact ⟨rfl, rfl⟩

theorem store_in (i : Nat) (v : Int) (h : Arena w p c l k) (hi : i < l.length) (hk : k < 9223372036854775807) :
    Calls Try.prog 32 #[.pointer (some ⟨p, 0, none⟩), .int .i64 i, .int .u64 v] w fun e w' => e = .returned (.bool true) ∧ (w.setCell ⟨p, 1, none⟩ (.int .i64 (k + 1))).setCell ⟨c, i, none⟩ (.int .u64 v) = w' := by
  have a1 := h.count (k + 1) (by have := h.k0; omega)
  have h0 := a1.head.cell 0
  have h1 := a1.body.cell i
  have f1 := a1.body.frozen i
  rw [nums_at hi] at h1
  simp at h0
  go_enter Try.func32, Try.ntmps32
  go_wp2_with fail
  refine (reach_in _ _ _ _ _ _ h hi hk).mono ?_
  rintro e w' ⟨rfl, rfl⟩
  go_wp2_with fail
  refine (astore _ _ _ _ _ (by simpa using h1) (by simpa using f1)).mono ?_
  rintro e w' ⟨rfl, rfl⟩
  go_wp2
  go_ret
  exact ⟨rfl, rfl⟩

theorem cas_hit (i : Nat) (v : Int) (h : Arena w p c l k) (hi : i < l.length) (hk : k < 9223372036854775807) :
    Calls Try.prog 111 #[.pointer (some ⟨p, 0, none⟩), .int .i64 i, .int .u64 (getA l i), .int .u64 v] w fun e w' => e = .returned (.bool true) ∧ (w.setCell ⟨p, 1, none⟩ (.int .i64 (k + 1))).setCell ⟨c, i, none⟩ (.int .u64 v) = w' := by
  have a1 := h.count (k + 1) (by have := h.k0; omega)
  have h0 := a1.head.cell 0
  have h1 := a1.body.cell i
  have f1 := a1.body.frozen i
  rw [nums_at hi] at h1
  simp at h0
  go_enter Try.func111, Try.ntmps111
  go_wp2_with fail
  refine (reach_in _ _ _ _ _ _ h hi hk).mono ?_
  rintro e w' ⟨rfl, rfl⟩
  go_wp2_with fail
  refine (acas_hit _ _ _ _ _ (by simpa using h1) (by simpa using f1)).mono ?_
  rintro e w' ⟨rfl, rfl⟩
  go_wp2
  go_ret
  exact ⟨rfl, rfl⟩

theorem cas_miss (i : Nat) (o v : Int) (h : Arena w p c l k) (hi : i < l.length) (hk : k < 9223372036854775807) (hne : ¬ getA l i = o) :
    Calls Try.prog 111 #[.pointer (some ⟨p, 0, none⟩), .int .i64 i, .int .u64 o, .int .u64 v] w fun e w' => e = .returned (.bool false) ∧ w.setCell ⟨p, 1, none⟩ (.int .i64 (k + 1)) = w' := by
  have a1 := h.count (k + 1) (by have := h.k0; omega)
  have h0 := a1.head.cell 0
  have h1 := a1.body.cell i
  have f1 := a1.body.frozen i
  rw [nums_at hi] at h1
  simp at h0
  go_enter Try.func111, Try.ntmps111
  go_wp2_with fail
  refine (reach_in _ _ _ _ _ _ h hi hk).mono ?_
  rintro e w' ⟨rfl, rfl⟩
  go_wp2_with fail
  refine (acas_miss _ _ (getA l i) _ _ _ hne (by simpa using h1) (by simpa using f1)).mono ?_
  rintro e w' ⟨rfl, rfl⟩
  go_wp2
  go_ret
  exact ⟨rfl, rfl⟩

theorem load_out (i : Int) (h : Arena w p c l k) (hi : hasA l i = false) :
    Calls Try.prog 75 #[.pointer (some ⟨p, 0, none⟩), .int .i64 i] w fun e w' => e = .returned (.int .u64 0) ∧ w = w' := by
  have HI := Lib.hid hi
  clear hi
  go_enter Try.func75, Try.ntmps75
  go_wp2_with fail
  refine (reach_out _ _ _ _ _ _ h HI.out).mono ?_
  rintro e w' ⟨rfl, rfl⟩
  go_wp2
  go_ret
  exact ⟨rfl, rfl⟩

theorem store_out (i : Int) (v : Int) (h : Arena w p c l k) (hi : hasA l i = false) :
    Calls Try.prog 32 #[.pointer (some ⟨p, 0, none⟩), .int .i64 i, .int .u64 v] w fun e w' => e = .returned (.bool false) ∧ w = w' := by
  have HI := Lib.hid hi
  clear hi
  go_enter Try.func32, Try.ntmps32
  go_wp2_with fail
  refine (reach_out _ _ _ _ _ _ h HI.out).mono ?_
  rintro e w' ⟨rfl, rfl⟩
  go_wp2
  go_ret
  exact ⟨rfl, rfl⟩

theorem cas_out (i : Int) (o v : Int) (h : Arena w p c l k) (hi : hasA l i = false) :
    Calls Try.prog 111 #[.pointer (some ⟨p, 0, none⟩), .int .i64 i, .int .u64 o, .int .u64 v] w fun e w' => e = .returned (.bool false) ∧ w = w' := by
  have HI := Lib.hid hi
  clear hi
  go_enter Try.func111, Try.ntmps111
  go_wp2_with fail
  refine (reach_out _ _ _ _ _ _ h HI.out).mono ?_
  rintro e w' ⟨rfl, rfl⟩
  go_wp2
  go_ret
  exact ⟨rfl, rfl⟩

theorem len_any (h : Arena w p c l k) :
    Calls Try.prog 106 #[.pointer (some ⟨p, 0, none⟩)] w fun e w' => e = .returned (.int .i64 l.length) ∧ w = w' := by
  have h0 := h.head.cell 0
  simp at h0
  go_enter Try.func106, Try.ntmps106
  go_wp2
  go_ret
  exact ⟨rfl, rfl⟩

theorem count_any (h : Arena w p c l k) :
    Calls Try.prog 23 #[.pointer (some ⟨p, 0, none⟩)] w fun e w' => e = .returned (.int .i64 k) ∧ w = w' := by
  have h1 := h.head.cell 1
  simp at h1
  go_enter Try.func23, Try.ntmps23
  go_wp2_with fail
  refine (iload _ _ k _ (by simpa using h1)).mono ?_
  rintro e w' ⟨rfl, rfl⟩
  go_wp2
  go_ret
  exact ⟨rfl, rfl⟩
end

end Go.Proofs.Ythkklcmmbpffiaa

/- Contracts of the accesses over any number of a cell; New. -/
namespace Go.Proofs.Ythkklcmmbpffiaa
open Go.RowKit

/-- behind an access: the arena has the numbers l and k accesses; nothing else has turned. -/
def Aft (w : World) (p c : Nat) (l : List Int) (k : Int) (w' : World) : Prop := Arena w' p c l k ∧ Turns [p, c] w w'

/-- does a Cas write? -/
def casB (l : List Int) (i o : Int) : Bool := hasA l i && decide (getA l i = o)

/-- the numbers behind a Cas. -/
def casA (l : List Int) (i o v : Int) : List Int := if casB l i o = true then setA l i v else l

section
variable {p c : Nat} {l : List Int} {k : Int} {w : World}

theorem Aft.same (h : Arena w p c l k) : Aft w p c l k w := ⟨h, Turns.refl _ _⟩

theorem Aft.one (h : Arena w p c l k) : Aft w p c l (k + 1) (w.setCell ⟨p, 1, none⟩ (.int .i64 (k + 1))) :=
  ⟨h.count (k + 1) (by have := h.k0; omega), (Turns.refl _ _).setCell (.inl (by simp)) _⟩

theorem Aft.two (h : Arena w p c l k) (i : Nat) (v : Int) (hv : N64 v) : Aft w p c (l.set i v) (k + 1) ((w.setCell ⟨p, 1, none⟩ (.int .i64 (k + 1))).setCell ⟨c, i, none⟩ (.int .u64 v)) :=
  ⟨(Aft.one h).1.put i v hv, (Aft.one h).2.setCell (.inl (by simp)) _⟩

theorem load_any (i : Int) (h : Arena w p c l k) (hk : k < 9223372036854775807) :
    Calls Try.prog 75 #[.pointer (some ⟨p, 0, none⟩), .int .i64 i] w fun e w' => e = .returned (.int .u64 (getA l i)) ∧ Aft w p c l (moreA l i k) w' := by
  rcases hasA_cases l i with hi | ⟨n, rfl, hi⟩
  · rw [getA_out hi, moreA_out hi]
    exact (load_out i h hi).mono fun e w' ⟨he, hw⟩ => ⟨he, hw ▸ Aft.same h⟩
  · rw [moreA_nat hi]
    exact (load_in n h hi hk).mono fun e w' ⟨he, hw⟩ => ⟨he, hw ▸ Aft.one h⟩

theorem store_any (i v : Int) (hv : N64 v) (h : Arena w p c l k) (hk : k < 9223372036854775807) :
    Calls Try.prog 32 #[.pointer (some ⟨p, 0, none⟩), .int .i64 i, .int .u64 v] w fun e w' => e = .returned (.bool (hasA l i)) ∧ Aft w p c (setA l i v) (moreA l i k) w' := by
  rcases hasA_cases l i with hi | ⟨n, rfl, hi⟩
  · rw [setA_out hi, moreA_out hi, hi]
    exact (store_out i v h hi).mono fun e w' ⟨he, hw⟩ => ⟨he, hw ▸ Aft.same h⟩
  · rw [moreA_nat hi, setA_nat hi, hasA_yes hi]
    exact (store_in n v h hi hk).mono fun e w' ⟨he, hw⟩ => ⟨he, hw ▸ Aft.two h n v hv⟩

theorem cas_any (i o v : Int) (hv : N64 v) (h : Arena w p c l k) (hk : k < 9223372036854775807) :
    Calls Try.prog 111 #[.pointer (some ⟨p, 0, none⟩), .int .i64 i, .int .u64 o, .int .u64 v] w fun e w' => e = .returned (.bool (casB l i o)) ∧ Aft w p c (casA l i o v) (moreA l i k) w' := by
  rcases hasA_cases l i with hi | ⟨n, rfl, hi⟩
  · have hb : casB l i o = false := by simp [casB, hi]
    rw [casA, moreA_out hi, hb]
    exact (cas_out i o v h hi).mono fun e w' ⟨he, hw⟩ => ⟨he, hw ▸ Aft.same h⟩
  · by_cases ho : getA l n = o
    · subst ho
      have hb : casB l n (getA l n) = true := by simp [casB, hasA_yes hi]
      rw [casA, hb, if_pos rfl, moreA_nat hi, setA_nat hi]
      exact (cas_hit n v h hi hk).mono fun e w' ⟨he, hw⟩ => ⟨he, hw ▸ Aft.two h n v hv⟩
    · have hb : casB l n o = false := by simp [casB, ho]
      rw [casA, moreA_nat hi, hb]
      exact (cas_miss n o v h hi hk ho).mono fun e w' ⟨he, hw⟩ => ⟨he, hw ▸ Aft.one h⟩

end

theorem info_parts {P : Program} {t : TypeId} {z : Value} {s b : Nat} (h : (P.info? t).map (fun i => (i.zero, i.size, i.bytes)) = some (some z, s, b)) :
    ∃ i, P.info? t = some i ∧ i.zero = some z ∧ i.size = s ∧ i.bytes = b := by
  obtain ⟨i, h1, h2⟩ := Option.map_eq_some_iff.1 h
  injection h2 with h3 h4
  injection h4 with h5 h6
  exact ⟨i, h1, h3, h5, h6⟩

theorem made_zero (n : Nat) : madeCells #[.int .u64 0] n = nums (List.replicate n 0) := by
  apply Array.ext
  · simp [madeCells, nums]
  · intro i h1 h2
    simp [madeCells, nums, Nat.mod_one]

theorem make_arena (n : Nat) (hn : n ≤ 1048576) (W : World) :
    (Instr.makeSlice 94 (.int .i64 (n : Int)) (.int .i64 (n : Int))).run Try.prog W = .ok (.slice (some ⟨W.heap.size, 0, none⟩) n n) (W.alloc (.cells (nums (List.replicate n 0)) 111)) := by
  obtain ⟨i, hi, hz, hs, hb⟩ := info_parts (P := Try.prog) (t := 111) (z := .agg #[.int .u64 0]) (s := 1) (b := 8) (by kernel_rfl)
  have hr := run_make (P := Try.prog) W 94 111 i _ Try.underlying94 hi hz .i64 .i64 n n (by omega) (by omega) (by rw [hb]; omega) (by omega)
  simp only [Int.toNat_natCast, hs, Nat.mul_one] at hr
  rw [hr, ← made_zero]
  rfl

theorem new_in (n : Nat) (w : World) (h1 : 1 ≤ n) (h2 : n ≤ 1048576) :
    Calls Try.prog 37 #[.int .i64 n] w
      fun e w' => e = .returned (.tuple #[.pointer (some ⟨w.heap.size + 1, 0, none⟩), .int .i64 0]) ∧ (w.alloc (.cells (nums (List.replicate n 0)) 111)).alloc (.cells #[.slice (some ⟨w.heap.size, 0, none⟩) n n, .int .i64 0] 101) = w' := by
  have hm := make_arena n h2
  go_enter Try.func37, Try.ntmps37
  go_wp2
  go_ret2
  exact ⟨by simp, rfl⟩

theorem new_out (n : Int) (w : World) (h : n < 1 ∨ 1 ≤ n ∧ 1048576 < n) :
    Calls Try.prog 37 #[.int .i64 n] w fun e w' => e = .returned (.tuple #[.pointer none, .int .i64 1]) ∧ w = w' := by
  rcases h with h | ⟨h0, h⟩
  · go_enter Try.func37, Try.ntmps37
    go_wp2
    go_ret2
    exact ⟨rfl, rfl⟩
  · have hn : ¬ n < 1 := by omega
    go_enter Try.func37, Try.ntmps37
    go_wp2
    go_ret2
    exact ⟨rfl, rfl⟩

/-- behind New: there is an arena, in new memory. -/
def Made (w : World) (n : Nat) (w' : World) : Prop := Arena w' (w.heap.size + 1) w.heap.size (List.replicate n 0) 0 ∧ Below w.heap.size w w' ∧ w'.heap.size = w.heap.size + 2

theorem new_any (n : Nat) (w : World) (h1 : 1 ≤ n) (h2 : n ≤ 1048576) :
    Calls Try.prog 37 #[.int .i64 n] w fun e w' => e = .returned (.tuple #[.pointer (some ⟨w.heap.size + 1, 0, none⟩), .int .i64 0]) ∧ Made w n w' := by
  refine (new_in n w h1 h2).mono ?_
  rintro e w' ⟨he, rfl⟩
  refine ⟨he, ⟨?_, ?_, by simpa using h1, by simpa using h2, ?_, by omega⟩, ?_, ?_⟩
  · have := Lies.new (w.alloc (.cells (nums (List.replicate n 0)) 111)) 101 #[.slice (some ⟨w.heap.size, 0, none⟩) n n, .int .i64 0]
    simpa using this
  · exact (Lies.new w _ _).alloc _
  · intro x hx
    rw [List.eq_of_mem_replicate hx]
    simp [N64]
  · exact ((Below.refl _ _).alloc (Nat.le_refl _) _).alloc (by simp) _
  · simp

end Go.Proofs.Ythkklcmmbpffiaa

/- Slices of numbers that are handed in. -/
namespace Go.Proofs.Ythkklcmmbpffiaa
open Go.RowKit Go.ChangeShapes Go.WideShapes

theorem add_block (a : Addr) (n : Nat) : (a.add n).block = a.block := by unfold Addr.add; split <;> rfl

/-- a slice of n numbers of that kind, in memory that was there. -/
structure Row (w : World) (k : IntKind) (A : Option Addr) (n : Nat) (xs : List Int) : Prop where
  len : xs.length = n
  most : n ≤ maxLen
  wf : ∀ x, x ∈ xs → (Lit.int k x).wf = true
  at_ : 0 < n → ∃ a, A = some a ∧ a.block < w.heap.size ∧ ∀ i, i < n → w.cell? (a.add i) = some (.int k (xs.getD i 0))

theorem Row.keep {w w' : World} {k : IntKind} {A : Option Addr} {n : Nat} {xs : List Int} {B : Nat} (h : Row w k A n xs) (hB : w.heap.size ≤ B) (g : Below B w w') : Row w' k A n xs :=
  ⟨h.len, h.most, h.wf, fun hn => by
    obtain ⟨a, e, hb, hc⟩ := h.at_ hn
    exact ⟨a, e, Nat.lt_of_lt_of_le hb g.size, fun i hi => (g.cell (by rw [add_block]; omega)).trans (hc i hi)⟩⟩

theorem cell_block {w : World} {a : Addr} {v : Value} (h : w.cell? a = some v) : a.block < w.heap.size := by
  rcases Nat.lt_or_ge a.block w.heap.size with hlt | hge
  · exact hlt
  · unfold World.cell? at h
    rw [Array.getElem?_eq_none hge] at h
    cases h

section
open Go.ChangeShapes Go.WideShapes
variable {H : Type} {enc : TypeId × Value → H} {P : Program} {w : World} {base : Nat} {spare : Nat → Bool} {held : Bool}
theorem Row.opened {t e : TypeId} {k : IntKind} {a : Option Addr} {n c : Nat} {d : DataW H} {p : List MemPlace} (ht : P.underlying t = some (.slice e)) (he : P.underlying e = some (.int k)) (hc : P.cellsOf e = 1)
    (h : DataW.Trod enc P w base spare held t (.slice a n c) d p) : ∃ xs, Row w k a n xs := by
  obtain ⟨fuel, hf⟩ := h
  rcases open_ints ht he hc hf with ⟨hcs, _⟩ | ⟨x, l, cp, zs, hcs, _, hl, hm, hz, _, hcell, hwz⟩
  · simp [Value.cells] at hcs
    obtain ⟨rfl, rfl, rfl⟩ := hcs
    exact ⟨[], rfl, by simp, by simp, fun h => by omega⟩
  · simp [Value.cells] at hcs
    obtain ⟨rfl, rfl, rfl⟩ := hcs
    have hle : n ≤ zs.length := by rw [hz]; split <;> omega
    refine ⟨zs.take n, by simp; omega, by omega, fun y hy => hwz y (List.mem_of_mem_take hy), fun hn => ?_⟩
    have h0 := cell_block (hcell 0 (by omega))
    rw [add_block] at h0
    refine ⟨x, rfl, h0, fun i hi => ?_⟩
    rw [hcell i (by omega)]
    simp [List.getD, hi]
end

end Go.Proofs.Ythkklcmmbpffiaa

/- Slices of numbers, and of structs of numbers, that are handed in. -/
namespace Go.Proofs.Ythkklcmmbpffiaa
open Go.RowKit Go.ChangeShapes Go.WideShapes

theorem u64_of_wf {x : Int} (h : (Lit.int .u64 x).wf = true) : N64 x := by
  have := bounds_u64 h
  unfold N64; omega

theorem Row.fit {w : World} {A : Option Addr} {n : Nat} {xs : List Int} (h : Row w .u64 A n xs) (i : Nat) : N64 (xs.getD i 0) := by
  by_cases hi : i < xs.length
  · simp [List.getD, hi]
    exact u64_of_wf (h.wf _ (List.getElem_mem _))
  · simp [List.getD, hi, N64]

theorem Row.getA {w : World} {k : IntKind} {A : Option Addr} {n : Nat} {xs : List Int} (h : Row w k A n xs) (i : Nat) (hi : i < n) : xs.getD i 0 = getA xs i := by
  have : i < xs.length := by rw [h.len]; exact hi
  rw [getA_nat this]; simp [List.getD, this]

end Go.Proofs.Ythkklcmmbpffiaa

/- Contracts: All; same. -/
namespace Go.Proofs.Ythkklcmmbpffiaa
open Go.RowKit

theorem make_nums (n : Nat) (hn : n ≤ 1048576) (W : World) :
    (Instr.makeSlice 78 (.int .i64 (n : Int)) (.int .i64 (n : Int))).run Try.prog W = .ok (.slice (some ⟨W.heap.size, 0, none⟩) n n) (W.alloc (.cells (nums (List.replicate n 0)) 75)) := by
  obtain ⟨i, hi, hz, hs, hb⟩ := info_parts (P := Try.prog) (t := 75) (z := .int .u64 0) (s := 1) (b := 8) (by kernel_rfl)
  have hr := run_make (P := Try.prog) W 78 75 i _ Try.underlying78 hi hz .i64 .i64 n n (by omega) (by omega) (by rw [hb]; omega) (by omega)
  simp only [Int.toNat_natCast, hs, Nat.mul_one] at hr
  rw [hr, ← made_zero]
  rfl

/-- behind All: a new list of what the cells have. -/
def Told (w : World) (l : List Int) (w' : World) : Prop := Lies w' w.heap.size 75 (nums l) ∧ Below w.heap.size w w' ∧ w.heap.size < w'.heap.size

/-- the first m numbers of l, and 0 for the others. -/
def front (l : List Int) (m : Nat) : List Int := (List.range l.length).map fun i => if i < m then getA l (i : Nat) else 0

theorem front_length (l : List Int) (m : Nat) : (front l m).length = l.length := by simp [front]

theorem front_zero (l : List Int) : front l 0 = List.replicate l.length 0 := by
  apply List.ext_getElem
  · simp [front]
  · intro i h1 h2; simp [front]

theorem front_all (l : List Int) : front l l.length = l := by
  apply List.ext_getElem
  · simp [front]
  · intro i h1 h2; simp [front, h2, getA_nat h2]

theorem front_set (l : List Int) (m : Nat) : (front l m).set m (getA l m) = front l (m + 1) := by
  apply List.ext_getElem
  · simp [front]
  · intro i h1 h2
    rw [List.getElem_set]
    by_cases hi : m = i
    · subst hi; simp [front]
    · simp only [hi, if_false, front, List.getElem_map, List.getElem_range]
      by_cases h3 : i < m
      · rw [if_pos h3, if_pos (by omega)]
      · rw [if_neg h3, if_neg (by omega)]

set_option maxHeartbeats 1000000 in
theorem all_any (p c : Nat) (l : List Int) (k : Int) (w : World) (h : Arena w p c l k) :
    Calls Try.prog 34 #[.pointer (some ⟨p, 0, none⟩)] w fun e w' => e = .returned (.slice (some ⟨w.heap.size, 0, none⟩) l.length l.length) ∧ Told w l w' := by
  have hm := make_nums l.length h.most
  have h0 := h.head.cell 0
  simp at h0
  have hpl := h.head.lt
  have hcl := h.body.lt
  have hmost := h.most
  go_enter Try.func34, Try.ntmps34
  go_wp2_with fail
  have hat : Lies (w.alloc (.cells (nums (List.replicate l.length 0)) 75)) w.heap.size 75 (nums (front l 0)) ∧ Below w.heap.size w (w.alloc (.cells (nums (List.replicate l.length 0)) 75)) ∧ w.heap.size < (w.alloc (.cells (nums (List.replicate l.length 0)) 75)).heap.size :=
    ⟨by rw [front_zero]; exact Lies.new _ _ _, (Below.refl _ _).alloc (Nat.le_refl _) _, by simp⟩
  go_loopw [13] (fun i W => ∃ m : Nat, m ≤ l.length ∧ i = .int .i64 m ∧ Lies W w.heap.size 75 (nums (front l m)) ∧ Below w.heap.size w W ∧ w.heap.size < W.heap.size) (fun i _ => l.length - (intOf i).toNat)
  case atStart => exact ⟨0, by omega, rfl, hat⟩
  case round =>
    clear hat hm
    obtain ⟨m, hml, rfl, hl, hb, hz⟩ := hrel
    have ha := h.below hb hpl hcl
    by_cases hlt : m < l.length
    · have h0 := ha.head.cell 0
      have h1 := ha.body.cell m
      have h2 := hl.cell m
      have f2 := hl.frozen m
      have hfl := front_length l m
      rw [nums_at hlt] at h1
      rw [nums_at (by omega)] at h2
      simp at h0
      have HFL := Lib.hid hfl
      clear hfl
      go_wp2_with fail
      refine (aload _ _ _ _ (by simpa using h1)).mono ?_
      rintro e w1 ⟨rfl, rfl⟩
      go_wp2
      go_roundw
      case rel =>
        refine ⟨m + 1, by omega, by go_num, ?_, ?_, ?_⟩
        · rw [← front_set l m, ← nums_set]; exact hl.set m _
        · exact hb.setCell (by simp) _
        · simpa [World.setCell] using hz
      case measure => simp [intOf]; omega
    · obtain rfl : m = l.length := by omega
      rw [front_all] at hl
      go_wp2
      go_ret
      exact ⟨rfl, hl, hb, hz⟩

theorem nums_row {w : World} {g : Nat} {t : TypeId} {l : List Int} (h : Lies w g t (nums l)) (hf : ∀ x, x ∈ l → N64 x) (hl : l.length ≤ 1048576) : Row w .u64 (some ⟨g, 0, none⟩) l.length l := by
  refine ⟨rfl, by simp only [maxLen]; omega, fun x hx => ?_, fun hn => ⟨_, rfl, h.lt, fun i hi => ?_⟩⟩
  · obtain ⟨h0, h1⟩ := hf x hx
    exact WalkArith.wf_u64 (by omega)
  · have h1 := h.cell i
    rw [nums_at hi, getA_nat hi] at h1
    rw [show (Addr.mk g 0 none).add i = ⟨g, i, none⟩ by unfold Addr.add; split <;> simp_all]
    simpa [List.getD, hi] using h1

end Go.Proofs.Ythkklcmmbpffiaa

/- Numbers of one's own: copied by append, written. -/
namespace Go.Proofs.Ythkklcmmbpffiaa
open Go.RowKit

/-- nothing is appended. -/
theorem wpList_append_zero {P : Program} {w : World} {ops : Array Oper} {rest : List Oper} {o : Oper} {a : Act} {Q : Exit → Act → World → Prop} (hgd : o.guard = none) (s x : Operand) (t : TypeId)
    (ho : o.op = .call { callee := .builtin .append, args := #[s, x], argTypes := #[t, t] })
    (e : TypeId) (i : TypeInfo) (ht : P.underlying t = some (.slice e)) (hi : P.info? e = some i)
    (g : Addr) (m k : Nat) (A : Option Addr) (c : Nat) (hmk : m ≤ k) (hs : a.eval s = .slice (some g) m k) (hx : a.eval x = .slice A 0 c)
    (h : wpList P ops Q rest (a.put o.dst (.slice (some g) m k)) w) : wpList P ops Q (o :: rest) a w := by
  refine wpList_plain hgd fun K hK => ?_
  have hrun : (Builtin.append_ #[t, t] o.type #[.slice (some g) m k, .slice A 0 c]).run P w = .ok (.slice (some g) m k) w := by
    cases A <;> simp [Builtin.append_, run_underlying ht, sizeOf, typeInfo, hi, Builtin.lenOf, Builtin.firstCells, hmk, storeCells, loadCells, loadCellsFrom]
  unfold Oper.wp
  simp [execOp, ho, resolve, invoke, builtin, hs, hx, hrun, Result.andThen]
  exact hK _ _ h

/-- n numbers lie at the head of block g, which is ours. -/
def Own (w : World) (g n : Nat) : Prop := ∃ cur : Array Value, Lies w g 75 cur ∧ ∀ i, i < n → ∃ x, cur[i]? = some (.int .u64 x)
theorem Own.at_ {w : World} {g n i : Nat} (h : Own w g n) (hi : i < n) : ∃ x, w.cell? ⟨g, i, none⟩ = some (.int .u64 x) ∧ w.frozen? ⟨g, i, none⟩ = false := by
  obtain ⟨cur, hl, hc⟩ := h
  obtain ⟨x, hx⟩ := hc i hi
  exact ⟨x, (hl.cell i).trans hx, hl.frozen i⟩
theorem Own.set {w : World} {g n : Nat} (h : Own w g n) (i : Nat) (x : Int) : Own (w.setCell ⟨g, i, none⟩ (.int .u64 x)) g n := by
  obtain ⟨cur, hl, hc⟩ := h
  refine ⟨_, hl.set i _, fun j hj => ?_⟩
  obtain ⟨y, hy⟩ := hc j hj
  rw [Array.getElem?_setIfInBounds]
  by_cases hij : i = j
  · subst hij
    have : i < cur.size := (Array.getElem?_eq_some_iff.1 hy).1
    exact ⟨x, by simp [this]⟩
  · exact ⟨y, by simp [hij, hy]⟩
theorem Own.of {w : World} {g : Nat} {l : List Int} (h : Lies w g 75 (nums l)) : Own w g l.length := ⟨_, h, fun _ hi => ⟨_, nums_at hi⟩⟩
theorem Own.keep {w w' : World} {g n B : Nat} (h : Own w g n) (k : Below B w w') (hg : g < B) : Own w' g n := by
  obtain ⟨cur, hl, hc⟩ := h
  exact ⟨cur, hl.below k hg, hc⟩
theorem Own.lt {w : World} {g n : Nat} (h : Own w g n) : g < w.heap.size := by
  obtain ⟨cur, hl, _⟩ := h
  exact hl.lt

/-- what append made: a row of its own, that has these numbers. -/
theorem own_row {w : World} {B : Nat} {v : Value} {n : Nat} {xs : List Int} (h : w.ownsRow B 75 1 v n (xs.map (Value.int .u64))) (hn : 0 < n) (hx : xs.length = n) (hf : ∀ x, x ∈ xs → (Lit.int .u64 x).wf = true) (hm : n ≤ 1048576) :
    ∃ g cap, v = .slice (some ⟨g, 0, none⟩) n cap ∧ B ≤ g ∧ Own w g n ∧ Row w .u64 (some ⟨g, 0, none⟩) n xs := by
  rcases h.2 with ⟨_, h0⟩ | ⟨g, cap, cur, hv, hg, hh, _, _, _, ht⟩
  · omega
  · have hcell : ∀ i, (hi : i < n) → cur[i]? = some (.int .u64 (xs.getD i 0)) := by
      intro i hi
      have h1 : (cur.toList.take (n * 1))[i]? = (xs.map (Value.int .u64))[i]? := by rw [ht]
      rw [List.getElem?_take, if_pos (by omega), List.getElem?_map] at h1
      have h2 : i < xs.length := by omega
      simpa [h2] using h1
    refine ⟨g, cap, hv, hg, ⟨cur, hh, fun i hi => ⟨_, hcell i hi⟩⟩, hx, by simp only [maxLen]; omega, hf, fun _ => ⟨_, rfl, Lies.lt (t := 75) hh, fun i hi => ?_⟩⟩
    rw [show (Addr.mk g 0 none).add i = ⟨g, i, none⟩ by unfold Addr.add; split <;> simp_all]
    rw [Lies.cell (t := 75) hh i]
    exact hcell i hi

theorem Arena.drewN {w : World} {p c : Nat} {l : List Int} {k : Int} (h : Arena w p c l k) (n : Nat) : Arena (w.drewN n) p c l k := ⟨h.head, h.body, h.pos, h.most, h.fit, h.k0⟩
theorem Arena.drew {w : World} {p c : Nat} {l : List Int} {k : Int} (h : Arena w p c l k) : Arena w.drew p c l k := ⟨h.head, h.body, h.pos, h.most, h.fit, h.k0⟩

theorem news_of {w w' : World} {ad : Addr} {n : Nat} {xs : List Int} (h : Row w .u64 (some ad) n xs) (g : Below w.heap.size w w') : ∀ j u, (xs.map (Value.int .u64))[j]? = some u → w'.cell? (ad.add j) = some u := by
  intro j u hu
  rw [List.getElem?_map] at hu
  obtain ⟨x, hx, rfl⟩ := Option.map_eq_some_iff.1 hu
  have hj : j < n := by rw [← h.len]; exact (List.getElem?_eq_some_iff.1 hx).1
  obtain ⟨a, ha, hb, hc⟩ := h.at_ (by omega)
  injection ha with ha
  subst ha
  rw [g.cell (by rw [add_block]; exact hb), hc j hj]
  simp [List.getD, hx]

theorem u64_info : (Try.prog.info? 75).map (fun i => (i.zero, i.size, i.bytes)) = some (some (.int .u64 0), 1, 8) := by kernel_rfl

/-- a copy of numbers: 'append([]uint64{}, l...)'. -/
theorem wpList_copied {ops : Array Oper} {rest : List Oper} {o : Oper} {a : Act} {Q : Exit → Act → World → Prop} {w0 w1 : World} {ad : Addr} {n cp : Nat} {xs : List Int} (hgd : o.guard = none) (s x : Operand)
    (ho : o.op = .call { callee := .builtin .append, args := #[s, x], argTypes := #[78, 78] })
    (hs : a.eval s = .slice (some ⟨w1.heap.size, 0, none⟩) 0 0) (hx : a.eval x = .slice (some ad) n cp) (hr : Row w0 .u64 (some ad) n xs) (hb : Below w0.heap.size w0 w1) (hn : 0 < n) (hm : n ≤ 1048576)
    (h : ∀ g cap w2, w1.heap.size ≤ g → Own w2 g n → Row w2 .u64 (some ⟨g, 0, none⟩) n xs → Below w1.heap.size w1 w2 → wpList Try.prog ops Q rest (a.put o.dst (.slice (some ⟨g, 0, none⟩) n cap)) w2) :
    wpList Try.prog ops Q (o :: rest) a (w1.alloc (.cells #[] 75)) := by
  obtain ⟨i0, hi0, hz0, hz1, hz2⟩ := info_parts u64_info
  have hnews := news_of (w' := w1.alloc (.cells #[] 75)) hr (hb.alloc hb.size _)
  have hown := World.ownsRow_made (base := w1.heap.size) (e := 75) (size := 1) w1 #[] 0 (Nat.le_refl _) (by simp [maxLen]) (by simp)
  refine wpList_append_own (w1.alloc (.cells #[] 75)) hgd s x 78 ho w1.heap.size 75 i0 _ 1 8 Try.underlying78 hi0 hz0 hz1 hz2 rfl (by omega) _ 0 [] hs hown ad n cp (xs.map (Value.int .u64)) hx (by simp [hr.len]) hnews (by simp [Value.oneCell']) (by simp only [maxLen]; omega) (by omega) (by simp) ?_
  intro v' w2 hown2 hgr _
  rw [Nat.zero_add, List.nil_append] at hown2
  obtain ⟨g, cap, rfl, hg, ho2, hr2⟩ := own_row hown2 (by omega) hr.len hr.wf hm
  exact h g cap w2 hg ho2 hr2 (((Below.refl _ _).alloc (Nat.le_refl _) _).grown hgr (by simp) (by simp [Value.ownBlock]))

/-- the numbers l lie at the head of block g, which is another one than Xo. -/
def Held (Xo : Nat) (w : World) (g : Nat) (l : List Int) : Prop := ∃ cur : Array Value, Lies w g 75 cur ∧ (∀ i, i < l.length → cur[i]? = some (.int .u64 (getA l i))) ∧ Xo < w.heap.size ∧ g ≠ Xo
variable {Xo : Nat}

theorem add_head (g i : Nat) : (Addr.mk g 0 none).add i = ⟨g, i, none⟩ := by unfold Addr.add; split <;> simp_all
theorem Held.of {w : World} {g : Nat} {l : List Int} (h : Lies w g 75 (nums l)) (hx : Xo < w.heap.size) (hne : g ≠ Xo) : Held Xo w g l := ⟨_, h, fun _ hi => nums_at hi, hx, hne⟩
theorem Held.made {w : World} {g n : Nat} {l : List Int} (h : Own w g n) (r : Row w .u64 (some ⟨g, 0, none⟩) n l) {W : World} {g0 : Nat} {l0 : List Int} (k : Held Xo W g0 l0) (hg : W.heap.size ≤ g) (hb : Below W.heap.size W w) : Held Xo w g l := by
  obtain ⟨cur, hl, _⟩ := h
  obtain ⟨_, _, _, hx, _⟩ := k
  have hbs := hb.size
  refine ⟨cur, hl, fun i hi => ?_, by omega, by omega⟩
  obtain ⟨a, ha, _, hc⟩ := r.at_ (by have := r.len; omega)
  injection ha with ha
  subst ha
  have h1 := hc i (by have := r.len; omega)
  rw [add_head, hl.cell i] at h1
  rw [h1, r.getA i (by have := r.len; omega)]
theorem Held.lt {w : World} {g : Nat} {l : List Int} (h : Held Xo w g l) : g < w.heap.size := by
  obtain ⟨cur, hl, _⟩ := h
  exact hl.lt
theorem Held.cell {w : World} {g : Nat} {l : List Int} (h : Held Xo w g l) (i : Nat) (hi : i < l.length) : w.cell? ⟨g, i, none⟩ = some (.int .u64 (getA l i)) := by
  obtain ⟨cur, hl, hc, _⟩ := h
  exact (hl.cell i).trans (hc i hi)
theorem Held.frozen {w : World} {g : Nat} {l : List Int} (h : Held Xo w g l) (i : Nat) : w.frozen? ⟨g, i, none⟩ = false := by
  obtain ⟨cur, hl, hc⟩ := h
  exact hl.frozen i
theorem Held.keep {w w' : World} {g B : Nat} {l : List Int} (h : Held Xo w g l) (k : Below B w w') (hg : g < B) : Held Xo w' g l := by
  obtain ⟨cur, hl, hc, hx, hn⟩ := h
  exact ⟨cur, hl.below k hg, hc, Nat.lt_of_lt_of_le hx k.size, hn⟩
theorem Held.turn {w w' : World} {g : Nat} {l : List Int} {L : List Nat} (h : Held Xo w g l) (k : Turns L w w') (hg : g ∉ L) : Held Xo w' g l := by
  obtain ⟨cur, hl, hc, hx, hn⟩ := h
  exact ⟨cur, hl.turn k hg, hc, Nat.lt_of_lt_of_le hx k.size, hn⟩
theorem Held.row {w : World} {g : Nat} {l : List Int} (h : Held Xo w g l) (hf : ∀ x, x ∈ l → N64 x) (hm : l.length ≤ 1048576) : Row w .u64 (some ⟨g, 0, none⟩) l.length l := by
  refine ⟨rfl, by simp only [maxLen]; omega, fun x hx => ?_, fun _ => ⟨_, rfl, h.lt, fun i hi => ?_⟩⟩
  · obtain ⟨h0, h1⟩ := hf x hx
    exact WalkArith.wf_u64 (by omega)
  · rw [add_head, h.cell i hi, getA_nat hi]; simp [List.getD, hi]
theorem Held.set {w : World} {g : Nat} {l : List Int} (h : Held Xo w g l) (i : Nat) (v : Int) : Held Xo (w.setCell ⟨g, i, none⟩ (.int .u64 v)) g (l.set i v) := by
  obtain ⟨cur, hl, hc, hx, hn⟩ := h
  refine ⟨_, hl.set i _, fun j hj => ?_, by simpa [World.setCell] using hx, hn⟩
  have hj' : j < l.length := by simpa using hj
  rw [Array.getElem?_setIfInBounds, getA_nat hj]
  have h1 := hc j hj'
  obtain ⟨hlt, _⟩ := Array.getElem?_eq_some_iff.1 h1
  by_cases hij : i = j
  · subst hij; simp [hlt]
  · rw [if_neg hij, h1, getA_nat hj']; simp [hij]
theorem set_same {l : List Int} {i : Nat} (hi : i < l.length) : l.set i (getA l i) = l := by
  rw [getA_nat hi]; exact List.set_getElem_self hi
theorem Held.far {w : World} {g : Nat} {l : List Int} (h : Held Xo w g l) {p : Addr} (hp : g ≠ p.block) (u : Value) : Held Xo (w.setCell p u) g l :=
  h.turn (L := [p.block]) ((Turns.refl _ _).setCell (.inl (by simp)) _) (by simpa using hp)

end Go.Proofs.Ythkklcmmbpffiaa

/- Calls of function values; the steps of layer 7. -/
namespace Go.Proofs.Ythkklcmmbpffiaa
open Go.RowKit

/-- a function that has a body. -/
def Ent (f : FuncId) : Prop := ∀ (args : Array Value) (W : World), (callFunc f args).run Try.prog W = .ok (.enter f args) W

/-- f, called with these, tells a value of which (and of the world then) Q holds; of what was there blocks of L alone are written. -/
def Then (f : FuncId) (args : Array Value) (w : World) (L : List Nat) (Q : Value → World → Prop) : Prop :=
  Calls Try.prog f args w fun e w' => ∃ v, e = .returned v ∧ Q v w' ∧ Turns L w w'

theorem Aft.undrew {p c : Nat} {l : List Int} {k : Int} {w w' : World} (h : Aft w.drew p c l k w') : Aft w p c l k w' := ⟨h.1, ((Turns.refl [p, c] w).drew).trans h.2⟩
theorem Aft.into {p c : Nat} {l : List Int} {k : Int} {w w' : World} {L : List Nat} (h : Aft w p c l k w') (hp : p ∈ L) (hc : c ∈ L) : Turns L w w' :=
  h.2.more fun b hb => by simp at hb; rcases hb with rfl | rfl <;> exact .inl ‹_›

section
variable {p c : Nat} {l : List Int} {k i : Int} {f b0 b1 b2 b3 b4 : Nat} {cap : Array Value} {L : List Nat} {Q : Value → World → Prop} {w : World}
set_option maxRecDepth 100000 in
theorem load1_any (hE : Ent f)
    (h0 : Lies w b0 105 #[.func (.func f) #[] cap]) (h1 : Lies w b1 24 #[.pointer (some ⟨p, 0, none⟩)]) (h2 : Lies w b2 3 #[.int .i64 i])
    (ha : Arena w p c l k) (hk : k < 9223372036854775807) (hp : p ∈ L) (hc : c ∈ L) (n0 : b0 ∉ L) (n1 : b1 ∉ L) (n2 : b2 ∉ L)
    (ht : ∀ w', Aft w p c l (moreA l i k) w' → Then f (#[.int .u64 (getA l i)] ++ cap) w' L Q) :
    Then 74 #[.pointer (some ⟨b0, 0, none⟩), .pointer (some ⟨b1, 0, none⟩), .pointer (some ⟨b2, 0, none⟩)] w L Q := by
  have c0 := h0.cell 0
  have c1 := h1.cell 0
  have c2 := h2.cell 0
  simp at c0 c1 c2
  have g0 := h0.lt
  have g1 := h1.lt
  have g2 := h2.lt
  unfold Then Ent at *
  go_enter Try.func74, Try.ntmps74
  go_wp2_with fail
  go_region_held3 (fun W' => W'.cell? ⟨b0, 0, none⟩ = some (.func (.func f) #[] cap) ∧ W'.cell? ⟨b1, 0, none⟩ = some (.pointer (some ⟨p, 0, none⟩)) ∧ W'.cell? ⟨b2, 0, none⟩ = some (.int .i64 i))
    (first | exact ⟨c0, c1, c2⟩ | exact ⟨d0, d1, d2⟩ | exact ⟨u0, u1, u2⟩)
    (first
      | (go_at_call 75
         refine (load_any i ha.drew hk).mono ?_
         rintro e w1 ⟨rfl, a1⟩
         have a1 := a1.undrew
         have t1 := a1.into hp hc
         have d0 := (t1.cell (p := ⟨b0, 0, none⟩) g0 n0).trans c0
         have d1 := (t1.cell (p := ⟨b1, 0, none⟩) g1 n1).trans c1
         have d2 := (t1.cell (p := ⟨b2, 0, none⟩) g2 n2).trans c2)
      | (refine (ht _ a1).mono ?_
         rintro e w2 ⟨v, rfl, hq, t2⟩
         have t3 := t1.trans t2
         have u0 := (t3.cell (p := ⟨b0, 0, none⟩) g0 n0).trans c0
         have u1 := (t3.cell (p := ⟨b1, 0, none⟩) g1 n1).trans c1
         have u2 := (t3.cell (p := ⟨b2, 0, none⟩) g2 n2).trans c2))
  go_wp2
  go_ret
  exact ⟨v, rfl, hq, t3⟩

theorem store1_any {x : Int} (hE : Ent f) (h0 : Lies w b0 24 #[.pointer (some ⟨p, 0, none⟩)]) (h1 : Lies w b1 3 #[.int .i64 i]) (h2 : Lies w b2 75 #[.int .u64 x]) (h3 : Lies w b3 37 #[.func (.func f) #[] cap])
    (ha : Arena w p c l k) (hk : k < 9223372036854775807) (hx : N64 x) (hp : p ∈ L) (hc : c ∈ L) (n3 : b3 ∉ L)
    (ht : ∀ w', Aft w p c (setA l i x) (moreA l i k) w' → Then f cap w' L Q) :
    Then 107 #[.pointer (some ⟨b0, 0, none⟩), .pointer (some ⟨b1, 0, none⟩), .pointer (some ⟨b2, 0, none⟩), .pointer (some ⟨b3, 0, none⟩)] w L Q := by
  have c0 := h0.cell 0
  have c1 := h1.cell 0
  have c2 := h2.cell 0
  have c3 := h3.cell 0
  simp at c0 c1 c2 c3
  have g3 := h3.lt
  unfold Then Ent at *
  go_enter Try.func107, Try.ntmps107
  go_wp2_with fail
  refine (store_any i x hx ha hk).mono ?_
  rintro e w1 ⟨rfl, a1⟩
  have t1 := a1.into hp hc
  have d3 := (t1.cell (p := ⟨b3, 0, none⟩) g3 n3).trans c3
  go_wp2_with fail
  refine (ht _ a1).mono ?_
  rintro e w2 ⟨v, rfl, hq, t2⟩
  go_wp2
  go_ret
  exact ⟨v, rfl, hq, t1.trans t2⟩

theorem idle1_any (hE : Ent f) (h0 : Lies w b0 37 #[.func (.func f) #[] cap]) (ht : Then f cap w L Q) :
    Then 88 #[.pointer (some ⟨b0, 0, none⟩)] w L Q := by
  have c0 := h0.cell 0
  simp at c0
  unfold Then Ent at *
  go_enter Try.func88, Try.ntmps88
  go_wp2_with fail
  refine ht.mono ?_
  rintro e w2 ⟨v, rfl, hq, t2⟩
  go_wp2
  go_ret
  exact ⟨v, rfl, hq, t2⟩

set_option maxRecDepth 100000 in
theorem cas1_any {o x : Int} (hE : Ent f) (h0 : Lies w b0 103 #[.func (.func f) #[] cap]) (h1 : Lies w b1 24 #[.pointer (some ⟨p, 0, none⟩)]) (h2 : Lies w b2 3 #[.int .i64 i]) (h3 : Lies w b3 75 #[.int .u64 o]) (h4 : Lies w b4 75 #[.int .u64 x])
    (ha : Arena w p c l k) (hk : k < 9223372036854775807) (hx : N64 x) (hp : p ∈ L) (hc : c ∈ L) (n0 : b0 ∉ L) (n1 : b1 ∉ L) (n2 : b2 ∉ L) (n3 : b3 ∉ L) (n4 : b4 ∉ L)
    (ht : ∀ w', Aft w p c (casA l i o x) (moreA l i k) w' → Then f (#[.bool (casB l i o)] ++ cap) w' L Q) :
    Then 110 #[.pointer (some ⟨b0, 0, none⟩), .pointer (some ⟨b1, 0, none⟩), .pointer (some ⟨b2, 0, none⟩), .pointer (some ⟨b3, 0, none⟩), .pointer (some ⟨b4, 0, none⟩)] w L Q := by
  have c0 := h0.cell 0
  have c1 := h1.cell 0
  have c2 := h2.cell 0
  have c3 := h3.cell 0
  have c4 := h4.cell 0
  simp at c0 c1 c2 c3 c4
  have g0 := h0.lt
  have g1 := h1.lt
  have g2 := h2.lt
  have g3 := h3.lt
  have g4 := h4.lt
  unfold Then Ent at *
  go_enter Try.func110, Try.ntmps110
  go_wp2_with fail
  go_region_held3 (fun W' => W'.cell? ⟨b0, 0, none⟩ = some (.func (.func f) #[] cap) ∧ W'.cell? ⟨b1, 0, none⟩ = some (.pointer (some ⟨p, 0, none⟩)) ∧ W'.cell? ⟨b2, 0, none⟩ = some (.int .i64 i) ∧ W'.cell? ⟨b3, 0, none⟩ = some (.int .u64 o) ∧ W'.cell? ⟨b4, 0, none⟩ = some (.int .u64 x))
    (first | exact ⟨c0, c1, c2, c3, c4⟩ | exact ⟨d0, d1, d2, d3, d4⟩ | exact ⟨u0, u1, u2, u3, u4⟩)
    (first
      | (go_at_call 111
         refine (cas_any i o x hx ha.drew hk).mono ?_
         rintro e w1 ⟨rfl, a1⟩
         have a1 := a1.undrew
         have t1 := a1.into hp hc
         have d0 := (t1.cell (p := ⟨b0, 0, none⟩) g0 n0).trans c0; have d1 := (t1.cell (p := ⟨b1, 0, none⟩) g1 n1).trans c1; have d2 := (t1.cell (p := ⟨b2, 0, none⟩) g2 n2).trans c2; have d3 := (t1.cell (p := ⟨b3, 0, none⟩) g3 n3).trans c3; have d4 := (t1.cell (p := ⟨b4, 0, none⟩) g4 n4).trans c4)
      | (refine (ht _ a1).mono ?_
         rintro e w2 ⟨v, rfl, hq, t2⟩
         have t3 := t1.trans t2
         have u0 := (t3.cell (p := ⟨b0, 0, none⟩) g0 n0).trans c0; have u1 := (t3.cell (p := ⟨b1, 0, none⟩) g1 n1).trans c1; have u2 := (t3.cell (p := ⟨b2, 0, none⟩) g2 n2).trans c2; have u3 := (t3.cell (p := ⟨b3, 0, none⟩) g3 n3).trans c3; have u4 := (t3.cell (p := ⟨b4, 0, none⟩) g4 n4).trans c4))
  go_wp2
  go_ret
  exact ⟨v, rfl, hq, t3⟩
end

end Go.Proofs.Ythkklcmmbpffiaa

/- Code as a machine; tasks that do it step by step. -/
namespace Go.Proofs.Ythkklcmmbpffiaa
open Go.RowKit

/-- block b, from B on, is a task (or of another loose type). -/
def IsTask (B : Nat) (w : World) (b : Nat) : Prop := B ≤ b ∧ ∃ t cs, t ∈ loose ∧ Lies w b t cs

/-- w' is w, but for blocks of L, for tasks from B on, and for new ones. -/
structure Moves (B : Nat) (L : List Nat) (w w' : World) : Prop where
  os : w'.os = w.os
  tape : w'.tape = w.tape
  output : w'.output = w.output
  size : w.heap.size ≤ w'.heap.size
  block : ∀ b, b < w.heap.size → b ∉ L → w'.heap[b]? = w.heap[b]? ∨ IsTask B w b

section
variable {B : Nat} {L L' : List Nat} {a w w' : World}
theorem IsTask.lt {b : Nat} (h : IsTask B w b) : b < w.heap.size := by obtain ⟨_, _, _, _, h⟩ := h; exact h.lt
theorem IsTask.of_same {b : Nat} (h : IsTask B w b) (e : w'.heap[b]? = w.heap[b]?) : IsTask B w' b := by
  obtain ⟨hb, t, cs, ht, h⟩ := h
  exact ⟨hb, t, cs, ht, e.trans h⟩
theorem Moves.refl (B : Nat) (L : List Nat) (w : World) : Moves B L w w := ⟨rfl, rfl, rfl, Nat.le_refl _, fun _ _ _ => .inl rfl⟩
theorem Moves.trans (h : Moves B L a w) (k : Moves B L w w') : Moves B L a w' :=
  ⟨k.os.trans h.os, k.tape.trans h.tape, k.output.trans h.output, Nat.le_trans h.size k.size, fun b hb hn => by
    rcases h.block b hb hn with e | t1
    · rcases k.block b (Nat.lt_of_lt_of_le hb h.size) hn with e2 | t3
      · exact .inl (e2.trans e)
      · exact .inr (t3.of_same e.symm)
    · exact .inr t1⟩
theorem Moves.of_turns (h : Turns L' w w') (hs : ∀ b, b ∈ L' → b ∈ L ∨ w.heap.size ≤ b ∨ IsTask B w b) : Moves B L w w' :=
  ⟨h.os, h.tape, h.output, h.size, fun b hb hn => by
    by_cases hm : b ∈ L'
    · rcases hs b hm with h1 | h1 | h1
      · exact absurd h1 hn
      · omega
      · exact .inr h1
    · exact .inl (h.block b hb hm)⟩
theorem Moves.lies {b : Nat} {t : TypeId} {cs : Array Value} (h : Moves B L w w') (k : Lies w b t cs) (hb : b ∉ L) (ht : t ∉ loose) : Lies w' b t cs := by
  rcases h.block b k.lt hb with e | ⟨_, t', ds, hl, hd⟩
  · exact e.trans k
  · unfold Lies at k hd
    rw [k] at hd
    injection hd with hd
    injection hd with _ hd
    subst hd
    exact absurd hl ht
theorem Moves.cell (h : Moves B L w w') {p : Addr} (hp : p.block < w.heap.size) (hb : p.block < B) (hn : p.block ∉ L) : w'.cell? p = w.cell? p := by
  refine World.cell?_of_block (w := w) ?_
  rcases h.block p.block hp hn with e | ⟨h1, _⟩
  · exact e
  · omega
theorem Moves.more (h : Moves B L w w') (hs : ∀ b, b ∈ L → b ∈ L') : Moves B L' w w' :=
  ⟨h.os, h.tape, h.output, h.size, fun b hb hn => h.block b hb (fun hm => hn (hs b hm))⟩
end

/-- a machine: what codes do, step by step, to a state that lies in memory. -/
structure Mc (St Pr : Type) where
  ended : Pr → Bool
  step : Pr → St → Pr × St
  /-- the state in memory, with room for so many steps more. -/
  I : Nat → St → World → Prop
  /-- what lies below isn't its own. -/
  B : Nat
  /-- which blocks it writes. -/
  L : List Nat
  /-- which blocks may be written, by it or by others. -/
  LL : List Nat

structure Mc.Ok {St Pr : Type} (M : Mc St Pr) : Prop where
  less : ∀ r s w, M.I (r + 1) s w → M.I r s w
  task : ∀ r s w w', Moves M.B [] w w' → M.I r s w → M.I r s w'
  sub : ∀ b, b ∈ M.L → b ∈ M.LL

section
variable {St Pr : Type} (M : Mc St Pr)
/-- v is code that does what q says, for so many steps. -/
def CodeAt : Nat → Pr → Value → World → Prop
  | 0, q, v, _ => (M.ended q = true ∧ v = .nilFunc) ∨ (M.ended q = false ∧ ∃ g cap, v = .func (.func g) #[] cap)
  | m + 1, q, v, w => (M.ended q = true ∧ v = .nilFunc) ∨ (M.ended q = false ∧ ∃ g cap, v = .func (.func g) #[] cap ∧ Ent g ∧
      ∀ w' s r, Moves M.B M.LL w w' → M.I (r + 1) s w' → Then g cap w' M.L fun v' w'' => M.I r (M.step q s).2 w'' ∧ CodeAt m (M.step q s).1 v' w'')

variable {M}
theorem CodeAt.shape {m : Nat} {q : Pr} {v : Value} {w : World} (h : CodeAt M m q v w) : (M.ended q = true ∧ v = .nilFunc) ∨ (M.ended q = false ∧ ∃ g cap, v = .func (.func g) #[] cap) := by
  cases m with
  | zero => exact h
  | succ m =>
    rcases h with h | ⟨h, g, cap, e, _⟩
    · exact .inl h
    · exact .inr ⟨h, g, cap, e⟩
theorem Then.mono {f : FuncId} {args : Array Value} {w : World} {L : List Nat} {Q R : Value → World → Prop} (h : Then f args w L Q) (hR : ∀ v w', Q v w' → R v w') : Then f args w L R := by
  unfold Then at *
  refine h.mono ?_
  rintro e w' ⟨v, he, hq, ht⟩
  exact ⟨v, he, hR _ _ hq, ht⟩
theorem CodeAt.less {m : Nat} : ∀ {q : Pr} {v : Value} {w : World}, CodeAt M (m + 1) q v w → CodeAt M m q v w := by
  induction m with
  | zero => intro q v w h; exact h.shape
  | succ m ih =>
    intro q v w h
    rcases h with h | ⟨h, g, cap, e, hE, hs⟩
    · exact .inl h
    · exact .inr ⟨h, g, cap, e, hE, fun w' s r hm hi => (hs w' s r hm hi).mono fun v' w'' hq => ⟨hq.1, ih hq.2⟩⟩
theorem CodeAt.moves {m : Nat} {q : Pr} {v : Value} {w w' : World} (h : CodeAt M m q v w) (k : Moves M.B M.LL w w') : CodeAt M m q v w' := by
  cases m with
  | zero => exact h
  | succ m =>
    rcases h with h | ⟨h, g, cap, e, hE, hs⟩
    · exact .inl h
    · exact .inr ⟨h, g, cap, e, hE, fun w2 s r hm hi => hs w2 s r (k.trans hm) hi⟩

/-- a task at block t, whose code does what q says; d steps were done. -/
structure TaskAt (M : Mc St Pr) (m : Nat) (q : Pr) (d : Nat) (t : Nat) (w : World) : Prop where
  at_ : ∃ v, Lies w t 89 #[v, .int .i64 d] ∧ CodeAt M m q v w
  out : t ∉ M.LL
  base : M.B ≤ t

theorem TaskAt.less {m : Nat} {q : Pr} {d t : Nat} {w : World} (h : TaskAt M (m + 1) q d t w) : TaskAt M m q d t w := by
  obtain ⟨v, h1, h2⟩ := h.at_
  exact ⟨⟨v, h1, h2.less⟩, h.out, h.base⟩
theorem TaskAt.is {m : Nat} {q : Pr} {d t : Nat} {w : World} (h : TaskAt M m q d t w) : IsTask M.B w t := by
  obtain ⟨v, h1, _⟩ := h.at_
  exact ⟨h.base, _, _, task_loose, h1⟩
theorem TaskAt.lt {m : Nat} {q : Pr} {d t : Nat} {w : World} (h : TaskAt M m q d t w) : t < w.heap.size := h.is.lt
theorem TaskAt.turns {m : Nat} {q : Pr} {d t : Nat} {w w' : World} {L' : List Nat} (h : TaskAt M m q d t w) (k : Turns L' w w') (g : Moves M.B M.LL w w') (ht : t ∉ L') : TaskAt M m q d t w' := by
  obtain ⟨v, h1, h2⟩ := h.at_
  exact ⟨⟨v, h1.turn k ht, h2.moves g⟩, h.out, h.base⟩

/-- behind a step, if there is one. -/
def stepQ (M : Mc St Pr) (q : Pr) (s : St) : Pr := if M.ended q then q else (M.step q s).1
def stepS (M : Mc St Pr) (q : Pr) (s : St) : St := if M.ended q then s else (M.step q s).2
def stepD (M : Mc St Pr) (q : Pr) (d : Nat) : Nat := if M.ended q then d else d + 1

theorem eqIn_nil (d : Nat) (W : World) : (Op.equalIn (d + 1) 38 .nilFunc .nilFunc).run Try.prog W = .ok true W := by
  simp [Op.equalIn, run_underlying Try.underlying38]
theorem eqIn_func (d : Nat) (fn : Fn) (a cap : Array Value) (W : World) : (Op.equalIn (d + 1) 38 (.func fn a cap) .nilFunc).run Try.prog W = .ok false W := by
  simp [Op.equalIn, run_underlying Try.underlying38]
theorem eqE_nil (W : World) : (Op.equal 38 .nilFunc .nilFunc).run Try.prog W = .ok true W := eqIn_nil 9999 W
theorem eqE_func (fn : Fn) (a cap : Array Value) (W : World) : (Op.equal 38 (.func fn a cap) .nilFunc).run Try.prog W = .ok false W := eqIn_func 9999 fn a cap W
theorem eqn_nil (W : World) : (binOp .eql 38 .nilFunc .nilFunc).run Try.prog W = .ok (.bool true) W := by
  simp only [binOp]
  simp [eqE_nil]
theorem eqn_func (fn : Fn) (a cap : Array Value) (W : World) : (binOp .eql 38 (.func fn a cap) .nilFunc).run Try.prog W = .ok (.bool false) W := by
  simp only [binOp]
  simp [eqE_func]

theorem ended_any {m : Nat} {q : Pr} {d t : Nat} {w : World} (h : TaskAt M m q d t w) :
    Calls Try.prog 25 #[.pointer (some ⟨t, 0, none⟩)] w fun e w' => e = .returned (.bool (M.ended q)) ∧ w' = w := by
  obtain ⟨v, h1, h2⟩ := h.at_
  have c0 := h1.cell 0
  simp at c0
  rcases h2.shape with ⟨hq, rfl⟩ | ⟨hq, g, cap, rfl⟩
  all_goals
    rw [hq]
    clear h h2 hq h1
    have e1 := eqn_nil
    have e2 := eqn_func
    go_enter Try.func25, Try.ntmps25
    go_wp2
    go_ret
    exact ⟨rfl, rfl⟩

theorem steps_any {m : Nat} {q : Pr} {d t : Nat} {w : World} (h : TaskAt M m q d t w) :
    Calls Try.prog 36 #[.pointer (some ⟨t, 0, none⟩)] w fun e w' => e = .returned (.int .i64 d) ∧ w' = w := by
  obtain ⟨v, h1, h2⟩ := h.at_
  have c0 := h1.cell 1
  simp at c0
  go_enter Try.func36, Try.ntmps36
  go_wp2
  go_ret
  exact ⟨rfl, rfl⟩

end

end Go.Proofs.Ythkklcmmbpffiaa

/- The makers of code. -/
namespace Go.Proofs.Ythkklcmmbpffiaa
open Go.RowKit

/-- a pointer to the first cell of a block. -/
abbrev ptr (b : Nat) : Value := .pointer (some ⟨b, 0, none⟩)

theorem mkload_any (a : Option Addr) (i : Int) (f : FuncId) (cap : Array Value) (w : World) :
    Calls Try.prog 48 #[.pointer a, .int .i64 i, .func (.func f) #[] cap] w fun e w' => e = .returned (.func (.func 74) #[] #[ptr (w.heap.size + 2), ptr w.heap.size, ptr (w.heap.size + 1)]) ∧
      ((w.alloc (.cells #[.pointer a] 24)).alloc (.cells #[.int .i64 i] 3)).alloc (.cells #[.func (.func f) #[] cap] 105) = w' := by
  have hmf : ∀ (fn : Fn) (first cap : Array Value) (w : World), (Instr.makeFunc fn first cap).run Try.prog w = .ok (.func fn first cap) w := fun _ _ _ _ => rfl
  go_enter Try.func48, Try.ntmps48
  go_wp2
  go_ret
  exact ⟨by simp, rfl⟩

theorem mkstore_any (a : Option Addr) (i x : Int) (f : FuncId) (cap : Array Value) (w : World) :
    Calls Try.prog 96 #[.pointer a, .int .i64 i, .int .u64 x, .func (.func f) #[] cap] w fun e w' => e = .returned (.func (.func 107) #[] #[ptr w.heap.size, ptr (w.heap.size + 1), ptr (w.heap.size + 2), ptr (w.heap.size + 3)]) ∧
      (((w.alloc (.cells #[.pointer a] 24)).alloc (.cells #[.int .i64 i] 3)).alloc (.cells #[.int .u64 x] 75)).alloc (.cells #[.func (.func f) #[] cap] 37) = w' := by
  have hmf : ∀ (fn : Fn) (first cap : Array Value) (w : World), (Instr.makeFunc fn first cap).run Try.prog w = .ok (.func fn first cap) w := fun _ _ _ _ => rfl
  go_enter Try.func96, Try.ntmps96
  go_wp2
  go_ret
  exact ⟨by simp, rfl⟩

theorem mkcas_any (a : Option Addr) (i o x : Int) (f : FuncId) (cap : Array Value) (w : World) :
    Calls Try.prog 103 #[.pointer a, .int .i64 i, .int .u64 o, .int .u64 x, .func (.func f) #[] cap] w fun e w' => e = .returned (.func (.func 110) #[] #[ptr (w.heap.size + 4), ptr w.heap.size, ptr (w.heap.size + 1), ptr (w.heap.size + 2), ptr (w.heap.size + 3)]) ∧
      ((((w.alloc (.cells #[.pointer a] 24)).alloc (.cells #[.int .i64 i] 3)).alloc (.cells #[.int .u64 o] 75)).alloc (.cells #[.int .u64 x] 75)).alloc (.cells #[.func (.func f) #[] cap] 103) = w' := by
  have hmf : ∀ (fn : Fn) (first cap : Array Value) (w : World), (Instr.makeFunc fn first cap).run Try.prog w = .ok (.func fn first cap) w := fun _ _ _ _ => rfl
  go_enter Try.func103, Try.ntmps103
  go_wp2
  go_ret
  exact ⟨by simp, rfl⟩

theorem mkidle_any (f : FuncId) (cap : Array Value) (w : World) :
    Calls Try.prog 56 #[.func (.func f) #[] cap] w fun e w' => e = .returned (.func (.func 88) #[] #[ptr w.heap.size]) ∧ w.alloc (.cells #[.func (.func f) #[] cap] 37) = w' := by
  have hmf : ∀ (fn : Fn) (first cap : Array Value) (w : World), (Instr.makeFunc fn first cap).run Try.prog w = .ok (.func fn first cap) w := fun _ _ _ _ => rfl
  go_enter Try.func56, Try.ntmps56
  go_wp2
  go_ret
  exact ⟨by simp, rfl⟩

theorem ent_of {f : FuncId} {fn : Func} (h : Try.prog.funcs[f]? = some fn) (h1 : (fn.name == "runtime.NumGoroutine") = false) (h2 : fn.body.isNone = false) : Ent f := fun args W => by
  have h1 : ¬ fn.name = "runtime.NumGoroutine" := by simpa using h1
  have h2 : ¬ fn.body = none := by
    intro e
    rw [e] at h2
    cases h2
  simp [callFunc, Sem.run_bind, h, h1, h2]

theorem ent_load1 : Ent 74 := ent_of Try.func74 (by kernel_rfl) (by kernel_rfl)

theorem ent_store1 : Ent 107 := ent_of Try.func107 (by kernel_rfl) (by kernel_rfl)

theorem ent_cas1 : Ent 110 := ent_of Try.func110 (by kernel_rfl) (by kernel_rfl)

theorem ent_idle1 : Ent 88 := ent_of Try.func88 (by kernel_rfl) (by kernel_rfl)

end Go.Proofs.Ythkklcmmbpffiaa

/- Worlds that part in some blocks, in the rows that some cells tell, and in tasks. -/
namespace Go.Proofs.Ythkklcmmbpffiaa
open Go.RowKit

/-- the blocks that the cells ws tell as slices. -/
def Rw (ws : List Addr) (w : World) (b : Nat) : Prop := ∃ a, a ∈ ws ∧ ∃ o n c, w.cell? a = some (.slice (some ⟨b, o, none⟩) n c)

/-- w' is w, but for blocks of L, for rows that ws tell, and for new ones; the rows are those of w, or new. -/
structure Fr (L : List Nat) (ws : List Addr) (w w' : World) : Prop where
  os : w'.os = w.os
  tape : w'.tape = w.tape
  output : w'.output = w.output
  size : w.heap.size ≤ w'.heap.size
  block : ∀ b, b < w.heap.size → b ∉ L → ¬ Rw ws w b → w'.heap[b]? = w.heap[b]?
  rows : ∀ b, b < w.heap.size → Rw ws w' b → Rw ws w b

/-- the same, and tasks from B on may have turned. -/
structure Mv (B : Nat) (L : List Nat) (ws : List Addr) (w w' : World) : Prop where
  os : w'.os = w.os
  tape : w'.tape = w.tape
  output : w'.output = w.output
  size : w.heap.size ≤ w'.heap.size
  block : ∀ b, b < w.heap.size → b ∉ L → ¬ Rw ws w b → w'.heap[b]? = w.heap[b]? ∨ IsTask B w b
  rows : ∀ b, b < w.heap.size → Rw ws w' b → Rw ws w b

section
variable {B : Nat} {L L' : List Nat} {ws : List Addr} {a w w' : World}
theorem Rw.same {b : Nat} (h : Rw ws w' b) (k : ∀ x, x ∈ ws → w'.cell? x = w.cell? x) : Rw ws w b := by
  obtain ⟨x, hx, o, n, c, e⟩ := h
  exact ⟨x, hx, o, n, c, (k x hx).symm.trans e⟩
theorem Fr.refl (L : List Nat) (ws : List Addr) (w : World) : Fr L ws w w := ⟨rfl, rfl, rfl, Nat.le_refl _, fun _ _ _ _ => rfl, fun _ _ h => h⟩
theorem Fr.trans (h : Fr L ws a w) (k : Fr L ws w w') : Fr L ws a w' :=
  ⟨k.os.trans h.os, k.tape.trans h.tape, k.output.trans h.output, Nat.le_trans h.size k.size,
   fun b hb hn hr => (k.block b (Nat.lt_of_lt_of_le hb h.size) hn (fun q => hr (h.rows b hb q))).trans (h.block b hb hn hr),
   fun b hb q => h.rows b hb (k.rows b (Nat.lt_of_lt_of_le hb h.size) q)⟩
theorem Fr.of_turns (h : Turns L' w w') (hs : ∀ b, b ∈ L' → b ∈ L ∨ w.heap.size ≤ b) (hc : ∀ x, x ∈ ws → x.block < w.heap.size ∧ x.block ∉ L') : Fr L ws w w' :=
  ⟨h.os, h.tape, h.output, h.size, fun b hb hn _ => h.block b hb (fun hm => by
    rcases hs b hm with h1 | h1
    · exact hn h1
    · omega), fun b _ q => q.same fun x hx => h.cell (hc x hx).1 (hc x hx).2⟩
theorem Fr.more (h : Fr L ws w w') (hs : ∀ b, b ∈ L → b ∈ L') : Fr L' ws w w' := ⟨h.os, h.tape, h.output, h.size, fun b hb hn hr => h.block b hb (fun q => hn (hs b q)) hr, h.rows⟩
theorem Fr.lies {b : Nat} {t : TypeId} {cs : Array Value} (h : Fr L ws w w') (k : Lies w b t cs) (hb : b ∉ L) (hr : ¬ Rw ws w b) : Lies w' b t cs := (h.block b k.lt hb hr).trans k
theorem Fr.row (h : Fr L ws w w') {b : Nat} (hb : b < w.heap.size) (hr : ¬ Rw ws w b) : ¬ Rw ws w' b := fun q => hr (h.rows b hb q)
theorem Fr.cell (h : Fr L ws w w') {p : Addr} (hp : p.block < w.heap.size) (hn : p.block ∉ L) (hr : ¬ Rw ws w p.block) : w'.cell? p = w.cell? p := World.cell?_of_block (w := w) (h.block p.block hp hn hr)
theorem Fr.below (h : Fr L ws w w') (hL : ∀ b, b ∈ L → B ≤ b) (hR : ∀ b, Rw ws w b → B ≤ b) (hB : B ≤ w.heap.size) : Below B w w' :=
  ⟨h.os, h.tape, h.output, h.size, fun i hi => h.block i (by omega) (fun hm => by have := hL i hm; omega) (fun hm => by have := hR i hm; omega)⟩

theorem Mv.refl (B : Nat) (L : List Nat) (ws : List Addr) (w : World) : Mv B L ws w w := ⟨rfl, rfl, rfl, Nat.le_refl _, fun _ _ _ _ => .inl rfl, fun _ _ h => h⟩
theorem Mv.trans (h : Mv B L ws a w) (k : Mv B L ws w w') : Mv B L ws a w' :=
  ⟨k.os.trans h.os, k.tape.trans h.tape, k.output.trans h.output, Nat.le_trans h.size k.size, fun b hb hn hr => by
    rcases h.block b hb hn hr with e | t1
    · rcases k.block b (Nat.lt_of_lt_of_le hb h.size) hn (fun q => hr (h.rows b hb q)) with e2 | t3
      · exact .inl (e2.trans e)
      · exact .inr (t3.of_same e.symm)
    · exact .inr t1, fun b hb q => h.rows b hb (k.rows b (Nat.lt_of_lt_of_le hb h.size) q)⟩
theorem Fr.mv {X : List Nat} (h : Fr L ws w w') : Mv B (L ++ X) ws w w' := ⟨h.os, h.tape, h.output, h.size, fun b hb hn hr => .inl (h.block b hb (fun q => hn (List.mem_append.2 (.inl q))) hr), h.rows⟩
theorem Mv.of_turns (h : Turns L' w w') (hs : ∀ b, b ∈ L' → b ∈ L ∨ w.heap.size ≤ b ∨ IsTask B w b) (hc : ∀ x, x ∈ ws → x.block < w.heap.size ∧ x.block ∉ L') : Mv B L ws w w' :=
  ⟨h.os, h.tape, h.output, h.size, fun b hb hn _ => by
    by_cases hm : b ∈ L'
    · rcases hs b hm with h1 | h1 | h1
      · exact absurd h1 hn
      · omega
      · exact .inr h1
    · exact .inl (h.block b hb hm), fun b _ q => q.same fun x hx => h.cell (hc x hx).1 (hc x hx).2⟩
theorem Mv.lies {b : Nat} {t : TypeId} {cs : Array Value} (h : Mv B L ws w w') (k : Lies w b t cs) (hb : b ∉ L) (hr : ¬ Rw ws w b) (ht : t ∉ loose) : Lies w' b t cs := by
  rcases h.block b k.lt hb hr with e | ⟨_, t', ds, hl, hd⟩
  · exact e.trans k
  · unfold Lies at k hd
    rw [k] at hd
    injection hd with hd
    injection hd with _ hd
    subst hd
    exact absurd hl ht
theorem Mv.row (h : Mv B L ws w w') {b : Nat} (hb : b < w.heap.size) (hr : ¬ Rw ws w b) : ¬ Rw ws w' b := fun q => hr (h.rows b hb q)
end

/-- a machine: what codes do, step by step, to a state that lies in memory. -/
structure Gm (St Pr : Type) where
  ended : Pr → Bool
  step : Pr → St → Pr × St
  /-- what is asked of the state when a step is begun. -/
  W : Pr → St → Prop
  /-- the state in memory, with room for so many steps more. -/
  I : Nat → St → World → Prop
  /-- the same within a step, behind its access. -/
  J : Nat → St → World → Prop
  /-- what lies below isn't its own. -/
  B : Nat
  /-- which blocks may be written. -/
  L : List Nat
  /-- which cells tell rows that may be written. -/
  ws : List Addr
  /-- blocks that others may write between steps, and no step does. -/
  X : List Nat

section
variable {St Pr : Type}
/-- a world in which the machine's blocks and rows lie. -/
structure Gm.OkW (M : Gm St Pr) (w : World) : Prop where
  lt : ∀ b, b ∈ M.L → b < w.heap.size
  ltX : ∀ b, b ∈ M.X → b < w.heap.size
  base : M.B ≤ w.heap.size
  row : ∀ b, Rw M.ws w b → M.B ≤ b ∧ b < w.heap.size

structure Gm.Ok (M : Gm St Pr) : Prop where
  less : ∀ r s w, M.I (r + 1) s w → M.I r s w
  task : ∀ r s w w', Mv M.B [] [] w w' → M.I r s w → M.I r s w'
  ji : ∀ r s w, M.J r s w → M.I r s w
  jtask : ∀ r s w w', Mv M.B [] [] w w' → M.J r s w → M.J r s w'
  idle : ∀ r s w, M.I (r + 1) s w → M.J r s w
  okw : ∀ r s w, M.I r s w → M.OkW w
  cells : ∀ a, a ∈ M.ws → a.block ∈ M.L

/-- a box: a block that nothing writes. -/
structure Gm.Bx (M : Gm St Pr) (w : World) (b : Nat) (t : TypeId) (cs : Array Value) : Prop where
  l : Lies w b t cs
  out : b ∉ M.L
  row : ¬ Rw M.ws w b
  ty : t ∉ loose
  outX : b ∉ M.X

variable {M : Gm St Pr}
theorem Gm.Bx.mv {w w' : World} {b : Nat} {t : TypeId} {cs : Array Value} (h : M.Bx w b t cs) (k : Mv M.B (M.L ++ M.X) M.ws w w') : M.Bx w' b t cs := ⟨k.lies h.l (fun q => (List.mem_append.1 q).elim h.out h.outX) h.row h.ty, h.out, k.row h.l.lt h.row, h.ty, h.outX⟩
theorem Gm.Bx.cell {w : World} {b : Nat} {t : TypeId} {v : Value} (h : M.Bx w b t #[v]) : w.cell? ⟨b, 0, none⟩ = some v := by have := h.l.cell 0; simpa using this
theorem Gm.Bx.lt {w : World} {b : Nat} {t : TypeId} {cs : Array Value} (h : M.Bx w b t cs) : b < w.heap.size := h.l.lt

theorem Gm.OkW.cells {w : World} (h : M.OkW w) (hM : M.Ok) : ∀ x, x ∈ M.ws → x.block < w.heap.size ∧ x.block ∉ ([] : List Nat) := fun x hx => ⟨h.lt _ (hM.cells x hx), by simp⟩
/-- behind blocks that were made alone. -/
theorem Gm.OkW.fr {w w' : World} (h : M.OkW w) (hM : M.Ok) (k : Turns [] w w') : Fr M.L M.ws w w' := Fr.of_turns k (by simp) (h.cells hM)
theorem Gm.OkW.mv {w w' : World} (h : M.OkW w) (hM : M.Ok) (k : Turns [] w w') : Mv M.B (M.L ++ M.X) M.ws w w' := (h.fr hM k).mv
theorem Gm.OkW.made {w w' : World} (h : M.OkW w) (hM : M.Ok) (k : Turns [] w w') : M.OkW w' :=
  ⟨fun b hb => Nat.lt_of_lt_of_le (h.lt b hb) k.size, fun b hb => Nat.lt_of_lt_of_le (h.ltX b hb) k.size, Nat.le_trans h.base k.size, fun b hb => by
    have := h.row b (hb.same fun x hx => k.cell (h.cells hM x hx).1 (by simp))
    exact ⟨this.1, Nat.lt_of_lt_of_le this.2 k.size⟩⟩
/-- a new block is a box. -/
theorem Gm.OkW.box {w w' : World} {b : Nat} {t : TypeId} {cs : Array Value} (h : M.OkW w) (hM : M.Ok) (k : Turns [] w w') (hb : w.heap.size ≤ b) (l : Lies w' b t cs) (ht : t ∉ loose) : M.Bx w' b t cs :=
  ⟨l, fun hm => by have := h.lt b hm; omega, fun q => by
    have := (h.row b (q.same fun x hx => k.cell (h.cells hM x hx).1 (by simp))).2
    omega, ht, fun hm => by have := h.ltX b hm; omega⟩
theorem Gm.Ok.made (hM : M.Ok) {r : Nat} {s : St} {w w' : World} (k : Turns [] w w') (h : M.I r s w) : M.I r s w' :=
  hM.task r s w w' ⟨k.os, k.tape, k.output, k.size, fun b hb _ _ => .inl (k.block b hb (by simp)), fun b _ q => by obtain ⟨x, hx, _⟩ := q; cases hx⟩ h

theorem Gm.Ok.jmade (hM : M.Ok) {r : Nat} {s : St} {w w' : World} (k : Turns [] w w') (h : M.J r s w) : M.J r s w' :=
  hM.jtask r s w w' ⟨k.os, k.tape, k.output, k.size, fun b hb _ _ => .inl (k.block b hb (by simp)), fun b _ q => by obtain ⟨x, hx, _⟩ := q; cases hx⟩ h
theorem Gm.Ok.okj (hM : M.Ok) {r : Nat} {s : St} {w : World} (h : M.J r s w) : M.OkW w := hM.okw _ _ _ (hM.ji _ _ _ h)

/-- f, called with these, tells a value of which Q holds; of what was there the machine's blocks and rows alone are written. -/
def Gm.Then (M : Gm St Pr) (f : FuncId) (args : Array Value) (w : World) (Q : Value → World → Prop) : Prop :=
  Calls Try.prog f args w fun e w' => ∃ v, e = .returned v ∧ Q v w' ∧ Fr M.L M.ws w w'
theorem Gm.Then.mono {f : FuncId} {args : Array Value} {w : World} {Q R : Value → World → Prop} (h : M.Then f args w Q) (hR : ∀ v w', Q v w' → R v w') : M.Then f args w R := by
  unfold Gm.Then at *
  refine h.mono ?_
  rintro e w' ⟨v, he, hq, ht⟩
  exact ⟨v, he, hR _ _ hq, ht⟩
/-- what was made ahead of a call. -/
theorem Gm.Then.behind {f : FuncId} {args : Array Value} {w w1 : World} {Q : Value → World → Prop} (k : Fr M.L M.ws w w1) (h : M.Then f args w1 Q) :
    Calls Try.prog f args w1 fun e w' => ∃ v, e = .returned v ∧ Q v w' ∧ Fr M.L M.ws w w' := by
  unfold Gm.Then at h
  refine h.mono ?_
  rintro e w' ⟨v, he, hq, ht⟩
  exact ⟨v, he, hq, k.trans ht⟩

variable (M)
/-- v is code that does what q says, for so many steps. -/
def Gm.Code : Nat → Pr → Value → World → Prop
  | 0, q, v, _ => (M.ended q = true ∧ v = .nilFunc) ∨ (M.ended q = false ∧ ∃ g cap, v = .func (.func g) #[] cap)
  | m + 1, q, v, w => (M.ended q = true ∧ v = .nilFunc) ∨ (M.ended q = false ∧ ∃ g cap, v = .func (.func g) #[] cap ∧ Ent g ∧
      ∀ w' s r, Mv M.B (M.L ++ M.X) M.ws w w' → M.I (r + 1) s w' → M.W q s → M.Then g cap w' fun v' w'' => M.I r (M.step q s).2 w'' ∧ Gm.Code m (M.step q s).1 v' w'')

variable {M}
theorem Gm.Code.shape {m : Nat} {q : Pr} {v : Value} {w : World} (h : M.Code m q v w) : (M.ended q = true ∧ v = .nilFunc) ∨ (M.ended q = false ∧ ∃ g cap, v = .func (.func g) #[] cap) := by
  cases m with
  | zero => exact h
  | succ m =>
    rcases h with h | ⟨h, g, cap, e, _⟩
    · exact .inl h
    · exact .inr ⟨h, g, cap, e⟩
theorem Gm.Code.less {m : Nat} : ∀ {q : Pr} {v : Value} {w : World}, M.Code (m + 1) q v w → M.Code m q v w := by
  induction m with
  | zero => intro q v w h; exact h.shape
  | succ m ih =>
    intro q v w h
    rcases h with h | ⟨h, g, cap, e, hE, hs⟩
    · exact .inl h
    · exact .inr ⟨h, g, cap, e, hE, fun w' s r hm hi hw => (hs w' s r hm hi hw).mono fun v' w'' hq => ⟨hq.1, ih hq.2⟩⟩
theorem Gm.Code.mv {m : Nat} {q : Pr} {v : Value} {w w' : World} (h : M.Code m q v w) (k : Mv M.B (M.L ++ M.X) M.ws w w') : M.Code m q v w' := by
  cases m with
  | zero => exact h
  | succ m =>
    rcases h with h | ⟨h, g, cap, e, hE, hs⟩
    · exact .inl h
    · exact .inr ⟨h, g, cap, e, hE, fun w2 s r hm hi => hs w2 s r (k.trans hm) hi⟩
theorem Gm.Code.code {m : Nat} {q : Pr} {v : Value} {w : World} (h : M.Code m q v w) : v = .nilFunc ∨ ∃ g cap, v = .func (.func g) #[] cap := by
  rcases h.shape with ⟨_, h⟩ | ⟨_, h⟩
  · exact .inl h
  · exact .inr h

variable (M)
/-- f with cap, called with an answer, turns the state and gives code as T tells, for fewer than m steps. -/
def Gm.Cont (m : Nat) (f : FuncId) (cap : Array Value) (w : World) {ι : Type} (D : ι → St → Prop) (args : ι → Array Value) (T : ι → St → Pr × St) : Prop :=
  ∀ n, n < m → ∀ x w' s r, Mv M.B (M.L ++ M.X) M.ws w w' → M.J r s w' → D x s → M.Then f (args x ++ cap) w' fun v w'' => M.I r (T x s).2 w'' ∧ M.Code n (T x s).1 v w''
/-- a call that makes code: it does what q says, for m steps; nothing is written. -/
def Gm.Makes (m : Nat) (q : Pr) (f : FuncId) (args : Array Value) (w : World) : Prop :=
  Calls Try.prog f args w fun e w' => ∃ v, e = .returned v ∧ M.Code m q v w' ∧ Turns [] w w'
variable {M}
theorem Gm.Cont.mv {m : Nat} {f : FuncId} {cap : Array Value} {w w1 : World} {ι : Type} {D : ι → St → Prop} {args : ι → Array Value} {T : ι → St → Pr × St} (h : M.Cont m f cap w D args T) (k : Mv M.B (M.L ++ M.X) M.ws w w1) : M.Cont m f cap w1 D args T :=
  fun n hn x w' s r hw hi hd => h n hn x w' s r (k.trans hw) hi hd
theorem Gm.Cont.less {m n : Nat} {f : FuncId} {cap : Array Value} {w : World} {ι : Type} {D : ι → St → Prop} {args : ι → Array Value} {T : ι → St → Pr × St} (h : M.Cont m f cap w D args T) (k : n ≤ m) : M.Cont n f cap w D args T :=
  fun n' hn x w' s r hw hi hd => h n' (by omega) x w' s r hw hi hd
/-- a maker, called where the state lies. -/
theorem Gm.Makes.then {m : Nat} {q : Pr} {f : FuncId} {args : Array Value} {w : World} {r : Nat} {s : St} (hM : M.Ok) (h : M.Makes m q f args w) (hj : M.J r s w) : M.Then f args w fun v w' => M.I r s w' ∧ M.Code m q v w' := by
  unfold Gm.Then Gm.Makes at *
  refine h.mono ?_
  rintro e w' ⟨v, he, hc, ht⟩
  exact ⟨v, he, ⟨hM.made ht (hM.ji _ _ _ hj), hc⟩, (hM.okj hj).fr hM ht⟩
end

end Go.Proofs.Ythkklcmmbpffiaa

/- The steps of layer 7 over any machine that has an arena. -/
namespace Go.Proofs.Ythkklcmmbpffiaa
open Go.RowKit

section
variable {St Pr : Type} (M : Gm St Pr)
/-- the machine's arena. -/
structure Gm.Ar (p c : Nat) where
  l : St → List Int
  k : St → Int
  put : St → List Int → Int → St
  hp : p ∈ M.L
  hc : c ∈ M.L
  sep : ∀ a, a ∈ M.ws → a.block ≠ p ∧ a.block ≠ c
  /-- what numbers there may be. -/
  ok : List Int → Prop
  okI : ∀ r s w, M.I r s w → ok (l s)
  ar : ∀ r s w, M.I r s w → Arena w p c (l s) (k s)
  room : ∀ r s w, M.I (r + 1) s w → k s < 9223372036854775807
  aft : ∀ r s w w' l' k', M.I (r + 1) s w → Aft w p c l' k' w' → ok l' → l'.length = (l s).length → k' ≤ k s + 1 → M.J r (put s l' k') w'

variable {M} {p c : Nat}
theorem Gm.Ar.fr (A : M.Ar p c) (hM : M.Ok) {r : Nat} {s : St} {w w' : World} {l' : List Int} {k' : Int} (hi : M.I r s w) (h : Aft w p c l' k' w') : Fr M.L M.ws w w' :=
  Fr.of_turns h.2 (fun b hb => .inl (by
    simp at hb
    rcases hb with rfl | rfl
    · exact A.hp
    · exact A.hc)) fun x hx => ⟨(hM.okw _ _ _ hi).lt _ (hM.cells x hx), by have := A.sep x hx; simp; exact this⟩
theorem moreA_up (l : List Int) (i k : Int) : moreA l i k ≤ k + 1 := by unfold moreA; split <;> omega
theorem casA_len (l : List Int) (i o v : Int) : (casA l i o v).length = l.length := by
  unfold casA
  split
  · exact setA_length _ _ _
  · rfl

variable {q : Pr} {m f b0 b1 b2 b3 b4 : Nat} {i x o : Int} {cap : Array Value} {w : World}
set_option maxRecDepth 100000 in
theorem load1_g (A : M.Ar p c) (hM : M.Ok) {V : Int → St → Prop} (hV : ∀ s, A.ok (A.l s) → M.W q s → V (getA (A.l s) i) (A.put s (A.l s) (moreA (A.l s) i (A.k s)))) {T : Int → St → Pr × St} (hE : Ent f) (x0 : M.Bx w b0 105 #[.func (.func f) #[] cap]) (x1 : M.Bx w b1 24 #[ptr p]) (x2 : M.Bx w b2 3 #[.int .i64 i])
    (hq : M.ended q = false) (hT : M.Cont m f cap w (fun x s => N64 x ∧ V x s) (fun x => #[.int .u64 x]) T) (hs : ∀ s, M.step q s = T (getA (A.l s) i) (A.put s (A.l s) (moreA (A.l s) i (A.k s)))) :
    M.Code m q (.func (.func 74) #[] #[ptr b0, ptr b1, ptr b2]) w := by
  cases m with
  | zero => exact .inr ⟨hq, _, _, rfl⟩
  | succ n =>
    refine .inr ⟨hq, _, _, rfl, ent_load1, fun w' s r hm hi hW => ?_⟩
    rw [hs]
    have x0 := x0.mv hm
    have x1 := x1.mv hm
    have x2 := x2.mv hm
    have ha := A.ar _ _ _ hi
    have hk := A.room _ _ _ hi
    have ht : ∀ W, Aft w' p c (A.l s) (moreA (A.l s) i (A.k s)) W → M.Then f (#[.int .u64 (getA (A.l s) i)] ++ cap) W fun v' w'' => M.I r (T (getA (A.l s) i) (A.put s (A.l s) (moreA (A.l s) i (A.k s)))).2 w'' ∧ M.Code n (T (getA (A.l s) i) (A.put s (A.l s) (moreA (A.l s) i (A.k s)))).1 v' w'' := fun W hA =>
      hT n (by omega) _ W _ r (hm.trans (A.fr hM hi hA).mv) (A.aft _ _ _ _ _ _ hi hA (A.okI _ _ _ hi) rfl (moreA_up _ _ _)) ⟨ha.fitA i, hV _ (A.okI _ _ _ hi) hW⟩
    have hfr : ∀ W, Aft w' p c (A.l s) (moreA (A.l s) i (A.k s)) W → Fr M.L M.ws w' W := fun W hW => A.fr hM hi hW
    clear hT hs hi hm
    generalize T (getA (A.l s) i) (A.put s (A.l s) (moreA (A.l s) i (A.k s))) = R at *
    generalize A.l s = l at *
    generalize A.k s = k at *
    have c0 := x0.cell
    have c1 := x1.cell
    have c2 := x2.cell
    have g0 := x0.lt
    have g1 := x1.lt
    have g2 := x2.lt
    have o0 := x0.out
    have o1 := x1.out
    have o2 := x2.out
    have q0 := x0.row
    have q1 := x1.row
    have q2 := x2.row
    clear x0 x1 x2
    unfold Gm.Then Ent at *
    go_enter Try.func74, Try.ntmps74
    go_wp2_with fail
    go_region_held3 (fun W' => W'.cell? ⟨b0, 0, none⟩ = some (.func (.func f) #[] cap) ∧ W'.cell? ⟨b1, 0, none⟩ = some (ptr p) ∧ W'.cell? ⟨b2, 0, none⟩ = some (.int .i64 i))
      (first | exact ⟨c0, c1, c2⟩ | exact ⟨d0, d1, d2⟩ | exact ⟨u0, u1, u2⟩)
      (first
        | (go_at_call 75
           refine (load_any i ha.drew hk).mono ?_
           rintro e w1 ⟨rfl, a1⟩
           have a1 := a1.undrew
           have t1 := hfr _ a1
           have d0 := (t1.cell (p := ⟨b0, 0, none⟩) g0 o0 q0).trans c0
           have d1 := (t1.cell (p := ⟨b1, 0, none⟩) g1 o1 q1).trans c1
           have d2 := (t1.cell (p := ⟨b2, 0, none⟩) g2 o2 q2).trans c2)
        | (refine (ht _ a1).mono ?_
           rintro e w2 ⟨v, rfl, hq, t2⟩
           have t3 := t1.trans t2
           have u0 := (t3.cell (p := ⟨b0, 0, none⟩) g0 o0 q0).trans c0
           have u1 := (t3.cell (p := ⟨b1, 0, none⟩) g1 o1 q1).trans c1
           have u2 := (t3.cell (p := ⟨b2, 0, none⟩) g2 o2 q2).trans c2))
    go_wp2
    go_ret
    exact ⟨v, rfl, hq, t3⟩

set_option maxRecDepth 100000 in
theorem store1_g (A : M.Ar p c) (hM : M.Ok) (hO : ∀ l, A.ok l → A.ok (setA l i x)) {D : St → Prop} (hD : ∀ s, A.ok (A.l s) → M.W q s → D (A.put s (setA (A.l s) i x) (moreA (A.l s) i (A.k s)))) {T : Unit → St → Pr × St} (hE : Ent f) (x0 : M.Bx w b0 24 #[ptr p]) (x1 : M.Bx w b1 3 #[.int .i64 i]) (x2 : M.Bx w b2 75 #[.int .u64 x]) (x3 : M.Bx w b3 37 #[.func (.func f) #[] cap])
    (hx : N64 x) (hq : M.ended q = false) (hT : M.Cont m f cap w (fun _ => D) (fun _ => #[]) T) (hs : ∀ s, M.step q s = T () (A.put s (setA (A.l s) i x) (moreA (A.l s) i (A.k s)))) :
    M.Code m q (.func (.func 107) #[] #[ptr b0, ptr b1, ptr b2, ptr b3]) w := by
  cases m with
  | zero => exact .inr ⟨hq, _, _, rfl⟩
  | succ n =>
    refine .inr ⟨hq, _, _, rfl, ent_store1, fun w' s r hm hi hW => ?_⟩
    rw [hs]
    have x0 := x0.mv hm
    have x1 := x1.mv hm
    have x2 := x2.mv hm
    have x3 := x3.mv hm
    have ha := A.ar _ _ _ hi
    have hk := A.room _ _ _ hi
    have ht : ∀ W, Aft w' p c (setA (A.l s) i x) (moreA (A.l s) i (A.k s)) W → M.Then f (#[] ++ cap) W fun v' w'' => M.I r (T () (A.put s (setA (A.l s) i x) (moreA (A.l s) i (A.k s)))).2 w'' ∧ M.Code n (T () (A.put s (setA (A.l s) i x) (moreA (A.l s) i (A.k s)))).1 v' w'' := fun W hA =>
      hT n (by omega) () W _ r (hm.trans (A.fr hM hi hA).mv) (A.aft _ _ _ _ _ _ hi hA (hO _ (A.okI _ _ _ hi)) (setA_length _ _ _) (moreA_up _ _ _)) (hD _ (A.okI _ _ _ hi) hW)
    have hfr : ∀ W, Aft w' p c (setA (A.l s) i x) (moreA (A.l s) i (A.k s)) W → Fr M.L M.ws w' W := fun W hW => A.fr hM hi hW
    clear hT hs hi hm
    generalize T () (A.put s (setA (A.l s) i x) (moreA (A.l s) i (A.k s))) = R at *
    generalize A.l s = l at *
    generalize A.k s = k at *
    have c0 := x0.cell
    have c1 := x1.cell
    have c2 := x2.cell
    have c3 := x3.cell
    have g3 := x3.lt
    have o3 := x3.out
    have q3 := x3.row
    clear x0 x1 x2 x3
    simp only [Array.empty_append] at ht
    unfold Gm.Then Ent at *
    go_enter Try.func107, Try.ntmps107
    go_wp2_with fail
    refine (store_any i x hx ha hk).mono ?_
    rintro e w1 ⟨rfl, a1⟩
    have t1 := hfr _ a1
    have d3 := (t1.cell (p := ⟨b3, 0, none⟩) g3 o3 q3).trans c3
    go_wp2_with fail
    refine (ht _ a1).mono ?_
    rintro e w2 ⟨v, rfl, hq, t2⟩
    go_wp2
    go_ret
    exact ⟨v, rfl, hq, t1.trans t2⟩

set_option maxRecDepth 100000 in
theorem cas1_g (A : M.Ar p c) (hM : M.Ok) (hO : ∀ l, A.ok l → A.ok (casA l i o x)) {D : Bool → St → Prop} (hD : ∀ s, A.ok (A.l s) → M.W q s → D (casB (A.l s) i o) (A.put s (casA (A.l s) i o x) (moreA (A.l s) i (A.k s)))) {T : Bool → St → Pr × St} (hE : Ent f) (x0 : M.Bx w b0 103 #[.func (.func f) #[] cap]) (x1 : M.Bx w b1 24 #[ptr p]) (x2 : M.Bx w b2 3 #[.int .i64 i]) (x3 : M.Bx w b3 75 #[.int .u64 o]) (x4 : M.Bx w b4 75 #[.int .u64 x])
    (hx : N64 x) (hq : M.ended q = false) (hT : M.Cont m f cap w D (fun b => #[.bool b]) T) (hs : ∀ s, M.step q s = T (casB (A.l s) i o) (A.put s (casA (A.l s) i o x) (moreA (A.l s) i (A.k s)))) :
    M.Code m q (.func (.func 110) #[] #[ptr b0, ptr b1, ptr b2, ptr b3, ptr b4]) w := by
  cases m with
  | zero => exact .inr ⟨hq, _, _, rfl⟩
  | succ n =>
    refine .inr ⟨hq, _, _, rfl, ent_cas1, fun w' s r hm hi hW => ?_⟩
    rw [hs]
    have x0 := x0.mv hm
    have x1 := x1.mv hm
    have x2 := x2.mv hm
    have x3 := x3.mv hm
    have x4 := x4.mv hm
    have ha := A.ar _ _ _ hi
    have hk := A.room _ _ _ hi
    have ht : ∀ W, Aft w' p c (casA (A.l s) i o x) (moreA (A.l s) i (A.k s)) W → M.Then f (#[.bool (casB (A.l s) i o)] ++ cap) W fun v' w'' => M.I r (T (casB (A.l s) i o) (A.put s (casA (A.l s) i o x) (moreA (A.l s) i (A.k s)))).2 w'' ∧ M.Code n (T (casB (A.l s) i o) (A.put s (casA (A.l s) i o x) (moreA (A.l s) i (A.k s)))).1 v' w'' := fun W hA =>
      hT n (by omega) _ W _ r (hm.trans (A.fr hM hi hA).mv) (A.aft _ _ _ _ _ _ hi hA (hO _ (A.okI _ _ _ hi)) (casA_len _ _ _ _) (moreA_up _ _ _)) (hD _ (A.okI _ _ _ hi) hW)
    have hfr : ∀ W, Aft w' p c (casA (A.l s) i o x) (moreA (A.l s) i (A.k s)) W → Fr M.L M.ws w' W := fun W hW => A.fr hM hi hW
    clear hT hs hi hm
    generalize T (casB (A.l s) i o) (A.put s (casA (A.l s) i o x) (moreA (A.l s) i (A.k s))) = R at *
    generalize A.l s = l at *
    generalize A.k s = k at *
    have c0 := x0.cell
    have c1 := x1.cell
    have c2 := x2.cell
    have c3 := x3.cell
    have c4 := x4.cell
    have g0 := x0.lt
    have g1 := x1.lt
    have g2 := x2.lt
    have g3 := x3.lt
    have g4 := x4.lt
    have o0 := x0.out
    have o1 := x1.out
    have o2 := x2.out
    have o3 := x3.out
    have o4 := x4.out
    have q0 := x0.row
    have q1 := x1.row
    have q2 := x2.row
    have q3 := x3.row
    have q4 := x4.row
    clear x0 x1 x2 x3 x4
    unfold Gm.Then Ent at *
    go_enter Try.func110, Try.ntmps110
    go_wp2_with fail
    go_region_held3 (fun W' => W'.cell? ⟨b0, 0, none⟩ = some (.func (.func f) #[] cap) ∧ W'.cell? ⟨b1, 0, none⟩ = some (ptr p) ∧ W'.cell? ⟨b2, 0, none⟩ = some (.int .i64 i) ∧ W'.cell? ⟨b3, 0, none⟩ = some (.int .u64 o) ∧ W'.cell? ⟨b4, 0, none⟩ = some (.int .u64 x))
      (first | exact ⟨c0, c1, c2, c3, c4⟩ | exact ⟨d0, d1, d2, d3, d4⟩ | exact ⟨u0, u1, u2, u3, u4⟩)
      (first
        | (go_at_call 111
           refine (cas_any i o x hx ha.drew hk).mono ?_
           rintro e w1 ⟨rfl, a1⟩
           have a1 := a1.undrew
           have t1 := hfr _ a1
           have d0 := (t1.cell (p := ⟨b0, 0, none⟩) g0 o0 q0).trans c0; have d1 := (t1.cell (p := ⟨b1, 0, none⟩) g1 o1 q1).trans c1; have d2 := (t1.cell (p := ⟨b2, 0, none⟩) g2 o2 q2).trans c2; have d3 := (t1.cell (p := ⟨b3, 0, none⟩) g3 o3 q3).trans c3; have d4 := (t1.cell (p := ⟨b4, 0, none⟩) g4 o4 q4).trans c4)
        | (refine (ht _ a1).mono ?_
           rintro e w2 ⟨v, rfl, hq, t2⟩
           have t3 := t1.trans t2
           have u0 := (t3.cell (p := ⟨b0, 0, none⟩) g0 o0 q0).trans c0; have u1 := (t3.cell (p := ⟨b1, 0, none⟩) g1 o1 q1).trans c1; have u2 := (t3.cell (p := ⟨b2, 0, none⟩) g2 o2 q2).trans c2; have u3 := (t3.cell (p := ⟨b3, 0, none⟩) g3 o3 q3).trans c3; have u4 := (t3.cell (p := ⟨b4, 0, none⟩) g4 o4 q4).trans c4))
    go_wp2
    go_ret
    exact ⟨v, rfl, hq, t3⟩

theorem idle1_g (hM : M.Ok) {D : St → Prop} (hD : ∀ s, M.W q s → D s) {T : Unit → St → Pr × St} (hE : Ent f) (x0 : M.Bx w b0 37 #[.func (.func f) #[] cap]) (hq : M.ended q = false) (hT : M.Cont m f cap w (fun _ => D) (fun _ => #[]) T) (hs : ∀ s, M.step q s = T () s) :
    M.Code m q (.func (.func 88) #[] #[ptr b0]) w := by
  cases m with
  | zero => exact .inr ⟨hq, _, _, rfl⟩
  | succ n =>
    refine .inr ⟨hq, _, _, rfl, ent_idle1, fun w' s r hm hi hW => ?_⟩
    rw [hs]
    have ht := hT n (by omega) () w' s r hm (hM.idle _ _ _ hi) (hD s hW)
    have c0 := (x0.mv hm).cell
    simp only [Array.empty_append] at ht
    unfold Gm.Then Ent at *
    go_enter Try.func88, Try.ntmps88
    go_wp2_with fail
    refine ht.mono ?_
    rintro e w2 ⟨v, rfl, hq, t2⟩
    go_wp2
    go_ret
    exact ⟨v, rfl, hq, t2⟩

/-! the makers. -/
theorem Lies.new_of {w : World} {b : Nat} (t : TypeId) (cs : Array Value) (h : w.heap.size = b) : Lies (w.alloc (.cells cs t)) b t cs := h ▸ Lies.new w t cs

theorem load_g (A : M.Ar p c) (hM : M.Ok) {V : Int → St → Prop} (hV : ∀ s, A.ok (A.l s) → M.W q s → V (getA (A.l s) i) (A.put s (A.l s) (moreA (A.l s) i (A.k s)))) {T : Int → St → Pr × St} (hE : Ent f) (hw : M.OkW w) (hq : M.ended q = false) (hT : M.Cont m f cap w (fun x s => N64 x ∧ V x s) (fun x => #[.int .u64 x]) T) (hs : ∀ s, M.step q s = T (getA (A.l s) i) (A.put s (A.l s) (moreA (A.l s) i (A.k s)))) :
    M.Makes m q 48 #[ptr p, .int .i64 i, .func (.func f) #[] cap] w := by
  unfold Gm.Makes
  refine (mkload_any _ _ _ _ w).mono ?_
  rintro e w' ⟨rfl, rfl⟩
  have k : Turns [] w (((w.alloc (.cells #[ptr p] 24)).alloc (.cells #[.int .i64 i] 3)).alloc (.cells #[.func (.func f) #[] cap] 105)) := (((Turns.refl _ _).alloc _).alloc _).alloc _
  refine ⟨_, rfl, load1_g A hM hV hE (hw.box hM k (by omega) (Lies.new_of _ _ (by simp)) (by decide)) (hw.box hM k (by omega) (((Lies.new _ _ _).alloc _).alloc _) (by decide)) (hw.box hM k (by omega) ((Lies.new_of _ _ (by simp)).alloc _) (by decide)) hq (hT.mv (hw.mv hM k)) hs, k⟩
theorem store_g (A : M.Ar p c) (hM : M.Ok) (hO : ∀ l, A.ok l → A.ok (setA l i x)) {D : St → Prop} (hD : ∀ s, A.ok (A.l s) → M.W q s → D (A.put s (setA (A.l s) i x) (moreA (A.l s) i (A.k s)))) {T : Unit → St → Pr × St} (hE : Ent f) (hw : M.OkW w) (hx : N64 x) (hq : M.ended q = false) (hT : M.Cont m f cap w (fun _ => D) (fun _ => #[]) T) (hs : ∀ s, M.step q s = T () (A.put s (setA (A.l s) i x) (moreA (A.l s) i (A.k s)))) :
    M.Makes m q 96 #[ptr p, .int .i64 i, .int .u64 x, .func (.func f) #[] cap] w := by
  unfold Gm.Makes
  refine (mkstore_any _ _ _ _ _ w).mono ?_
  rintro e w' ⟨rfl, rfl⟩
  have k : Turns [] w ((((w.alloc (.cells #[ptr p] 24)).alloc (.cells #[.int .i64 i] 3)).alloc (.cells #[.int .u64 x] 75)).alloc (.cells #[.func (.func f) #[] cap] 37)) := ((((Turns.refl _ _).alloc _).alloc _).alloc _).alloc _
  refine ⟨_, rfl, store1_g A hM hO hD hE (hw.box hM k (by omega) ((((Lies.new _ _ _).alloc _).alloc _).alloc _) (by decide)) (hw.box hM k (by omega) (((Lies.new_of _ _ (by simp)).alloc _).alloc _) (by decide)) (hw.box hM k (by omega) ((Lies.new_of _ _ (by simp)).alloc _) (by decide)) (hw.box hM k (by omega) (Lies.new_of _ _ (by simp)) (by decide)) hx hq (hT.mv (hw.mv hM k)) hs, k⟩
theorem cas_g (A : M.Ar p c) (hM : M.Ok) (hO : ∀ l, A.ok l → A.ok (casA l i o x)) {D : Bool → St → Prop} (hD : ∀ s, A.ok (A.l s) → M.W q s → D (casB (A.l s) i o) (A.put s (casA (A.l s) i o x) (moreA (A.l s) i (A.k s)))) {T : Bool → St → Pr × St} (hE : Ent f) (hw : M.OkW w) (hx : N64 x) (hq : M.ended q = false) (hT : M.Cont m f cap w D (fun b => #[.bool b]) T) (hs : ∀ s, M.step q s = T (casB (A.l s) i o) (A.put s (casA (A.l s) i o x) (moreA (A.l s) i (A.k s)))) :
    M.Makes m q 103 #[ptr p, .int .i64 i, .int .u64 o, .int .u64 x, .func (.func f) #[] cap] w := by
  unfold Gm.Makes
  refine (mkcas_any _ _ _ _ _ _ w).mono ?_
  rintro e w' ⟨rfl, rfl⟩
  have k : Turns [] w (((((w.alloc (.cells #[ptr p] 24)).alloc (.cells #[.int .i64 i] 3)).alloc (.cells #[.int .u64 o] 75)).alloc (.cells #[.int .u64 x] 75)).alloc (.cells #[.func (.func f) #[] cap] 103)) := (((((Turns.refl _ _).alloc _).alloc _).alloc _).alloc _).alloc _
  refine ⟨_, rfl, cas1_g A hM hO hD hE (hw.box hM k (by omega) (Lies.new_of _ _ (by simp)) (by decide)) (hw.box hM k (by omega) (((((Lies.new _ _ _).alloc _).alloc _).alloc _).alloc _) (by decide)) (hw.box hM k (by omega) ((((Lies.new_of _ _ (by simp)).alloc _).alloc _).alloc _) (by decide)) (hw.box hM k (by omega) (((Lies.new_of _ _ (by simp)).alloc _).alloc _) (by decide)) (hw.box hM k (by omega) ((Lies.new_of _ _ (by simp)).alloc _) (by decide)) hx hq (hT.mv (hw.mv hM k)) hs, k⟩
theorem idle_g (hM : M.Ok) {D : St → Prop} (hD : ∀ s, M.W q s → D s) {T : Unit → St → Pr × St} (hE : Ent f) (hw : M.OkW w) (hq : M.ended q = false) (hT : M.Cont m f cap w (fun _ => D) (fun _ => #[]) T) (hs : ∀ s, M.step q s = T () s) :
    M.Makes m q 56 #[.func (.func f) #[] cap] w := by
  unfold Gm.Makes
  refine (mkidle_any _ _ w).mono ?_
  rintro e w' ⟨rfl, rfl⟩
  have k : Turns [] w (w.alloc (.cells #[.func (.func f) #[] cap] 37)) := (Turns.refl _ _).alloc _
  exact ⟨_, rfl, idle1_g hM hD hE (hw.box hM k (by omega) (Lies.new _ _ _) (by decide)) hq (hT.mv (hw.mv hM k)) hs, k⟩
end

end Go.Proofs.Ythkklcmmbpffiaa

/- Plain facts on parts of words of 64 bits, as integers: nothing of the program is in it. -/
namespace Go.Proofs.Ythkklcmmbpffiaa

/-- 2 to the power of n (1 below 0). -/
def pw (n : Int) : Int := 2 ^ n.toNat

theorem pw_nat (n : Nat) : pw n = 2 ^ n := by simp [pw]
theorem pw_zero : pw 0 = 1 := by simp [pw]
theorem pw_succ (n : Int) (h : 0 ≤ n) : pw (n + 1) = pw n * 2 := by
  have e : (n + 1).toNat = n.toNat + 1 := by omega
  simp only [pw, e, Int.pow_succ]
theorem pw_pos (n : Int) : 1 ≤ pw n := by
  have : (0 : Int) < 2 ^ n.toNat := Int.pow_pos (by decide)
  simp only [pw]; omega
theorem pw_add (a b : Int) (ha : 0 ≤ a) (hb : 0 ≤ b) : pw (a + b) = pw a * pw b := by
  have e : (a + b).toNat = a.toNat + b.toNat := by omega
  simp only [pw, e, Int.pow_add]
theorem pw_mono (a b : Int) (ha : 0 ≤ a) (h : a ≤ b) : pw a ≤ pw b := by
  have e : b = a + (b - a) := by omega
  rw [e, pw_add a (b - a) ha (by omega)]
  have h1 := pw_pos (b - a)
  have h2 := pw_pos a
  calc pw a = pw a * 1 := by omega
    _ ≤ pw a * pw (b - a) := Int.mul_le_mul_of_nonneg_left h1 (by omega)
theorem pw_64 : pw 64 = 18446744073709551616 := by decide
theorem pw_63 : pw 63 = 9223372036854775808 := by decide
theorem pw_le_63 (n : Int) (h0 : 0 ≤ n) (h : n ≤ 63) : pw n ≤ 9223372036854775808 := by
  have := pw_mono n 63 h0 h; rw [pw_63] at this; exact this
theorem pw_le_64 (n : Int) (h0 : 0 ≤ n) (h : n ≤ 64) : pw n ≤ 18446744073709551616 := by
  have := pw_mono n 64 h0 h; rw [pw_64] at this; exact this

/-- Is there such a part? -/
def partB (s t : Int) : Bool := decide (0 ≤ s ∧ 1 ≤ t ∧ s + t ≤ 64)
theorem partB_yes {s t : Int} (h : partB s t = true) : 0 ≤ s ∧ 1 ≤ t ∧ s + t ≤ 64 := of_decide_eq_true h
theorem partB_mk {s t : Int} (h : 0 ≤ s ∧ 1 ≤ t ∧ s + t ≤ 64) : partB s t = true := decide_eq_true h
theorem partB_no {s t : Int} (h : partB s t = false) : ¬ (0 ≤ s ∧ 1 ≤ t ∧ s + t ≤ 64) := of_decide_eq_false h

/-- A part of a word. -/
def getW (w s t : Int) : Int := if partB s t = true then w / pw s % pw t else 0

/-- A word with a part put, and the error's number. -/
def putW (w s t v : Int) : Int := if partB s t = true then (if v < pw t then w - w / pw s % pw t * pw s + v * pw s else 0) else 0
def putE (s t v : Int) : Int := if partB s t = true then (if v < pw t then 0 else 2) else 1

theorem div_le_of (w d m : Int) (hd : 1 ≤ d) (h0 : 0 ≤ w) (h : w < m * d) : 0 ≤ w / d ∧ w / d < m := by
  refine ⟨Int.ediv_nonneg h0 (by omega), ?_⟩
  exact Int.ediv_lt_of_lt_mul (by omega) h

/-- the part that is put out, and what is put in: within the word. -/
theorem put_fits (w s t v : Int) (hp : partB s t = true) (hw0 : 0 ≤ w) (hw : w < 18446744073709551616) (hv0 : 0 ≤ v) (hv : v < pw t) :
    0 ≤ w / pw s % pw t ∧ w / pw s % pw t * pw s ≤ w ∧ 0 ≤ v * pw s ∧ v * pw s < 18446744073709551616 ∧ 0 ≤ w - w / pw s % pw t * pw s ∧
    w - w / pw s % pw t * pw s + v * pw s < 18446744073709551616 ∧ w / pw s % pw t * pw s < 18446744073709551616 := by
  obtain ⟨h0, h1, h2⟩ := partB_yes hp
  have ps := pw_pos s
  have pt := pw_pos t
  have hst : pw t * pw s ≤ 18446744073709551616 := by
    rw [← pw_add t s (by omega) h0]; exact pw_le_64 _ (by omega) (by omega)
  -- w = (q * pw t + m) * pw s + r
  have e1 : pw s * (w / pw s) + w % pw s = w := Int.mul_ediv_add_emod w (pw s)
  have r0 : 0 ≤ w % pw s := Int.emod_nonneg _ (by omega)
  have r1 : w % pw s < pw s := Int.emod_lt_of_pos _ (by omega)
  have e2 : pw t * (w / pw s / pw t) + w / pw s % pw t = w / pw s := Int.mul_ediv_add_emod (w / pw s) (pw t)
  have m0 : 0 ≤ w / pw s % pw t := Int.emod_nonneg _ (by omega)
  have m1 : w / pw s % pw t < pw t := Int.emod_lt_of_pos _ (by omega)
  have q0 : 0 ≤ w / pw s := Int.ediv_nonneg hw0 (by omega)
  have u0 : 0 ≤ w / pw s / pw t := Int.ediv_nonneg q0 (by omega)
  generalize w / pw s % pw t = m at *
  generalize w / pw s / pw t = u at *
  generalize w % pw s = r at *
  rw [← e2] at e1
  -- the highest part: u * (pw t * pw s)
  have hmS : 0 ≤ m * pw s := Int.mul_nonneg m0 (by omega)
  have huS : 0 ≤ u * (pw t * pw s) := Int.mul_nonneg u0 (Int.mul_nonneg (by omega) (by omega))
  have hvS : 0 ≤ v * pw s := Int.mul_nonneg hv0 (by omega)
  have hvT : (v + 1) * pw s ≤ pw t * pw s := Int.mul_le_mul_of_nonneg_right (by omega) (by omega)
  have hmT : (m + 1) * pw s ≤ pw t * pw s := Int.mul_le_mul_of_nonneg_right (by omega) (by omega)
  have e3 : pw s * (pw t * u + m) = u * (pw t * pw s) + m * pw s := by
    rw [Int.mul_add, Int.mul_comm (pw s) m, ← Int.mul_assoc, Int.mul_comm (pw s) (pw t), Int.mul_comm (pw t * pw s) u]
  have e4 : (v + 1) * pw s = v * pw s + pw s := by rw [Int.add_mul]; omega
  have e5 : (m + 1) * pw s = m * pw s + pw s := by rw [Int.add_mul]; omega
  -- (u + 1) * (pw t * pw s) <= 2^64, as pw t * pw s divides 2^64
  have hu : (u + 1) * (pw t * pw s) ≤ 18446744073709551616 := by
    have e6 : pw (64 - (s + t)) * (pw t * pw s) = 18446744073709551616 := by
      rw [← pw_add t s (by omega) h0, ← pw_add _ _ (by omega) (by omega)]
      have : 64 - (s + t) + (t + s) = 64 := by omega
      rw [this, pw_64]
    have hlt : u < pw (64 - (s + t)) := by
      have pts : 0 < pw t * pw s := Int.mul_pos (by omega) (by omega)
      refine Int.lt_of_mul_lt_mul_right (a := pw t * pw s) ?_ (by omega)
      rw [e6]; omega
    have : (u + 1) * (pw t * pw s) ≤ pw (64 - (s + t)) * (pw t * pw s) :=
      Int.mul_le_mul_of_nonneg_right (by omega) (Int.mul_nonneg (by omega) (by omega))
    omega
  have e7 : (u + 1) * (pw t * pw s) = u * (pw t * pw s) + pw t * pw s := by rw [Int.add_mul]; omega
  rw [e3] at e1
  refine ⟨m0, ?_, hvS, ?_, ?_, ?_, ?_⟩ <;> omega

theorem greatest_eq (t : Int) (h0 : 1 ≤ t) (h1 : t ≤ 64) : 18446744073709551615 / 2 ^ (64 - t).toNat = pw t - 1 := by
  show 18446744073709551615 / pw (64 - t) = pw t - 1
  have e : pw (64 - t) * pw t = 18446744073709551616 := by
    rw [← pw_add _ _ (by omega) (by omega), show 64 - t + t = 64 by omega, pw_64]
  have p := pw_pos (64 - t)
  have e2 : (18446744073709551615 : Int) = (pw (64 - t) - 1) + pw (64 - t) * (pw t - 1) := by
    rw [Int.mul_sub, e]; omega
  rw [e2, Int.add_mul_ediv_left _ _ (by omega), Int.ediv_eq_zero_of_lt (by omega) (by omega)]; omega

theorem nat_cut (w s t : Nat) : w = 2 ^ s * (2 ^ t * (w / 2 ^ s / 2 ^ t) + w / 2 ^ s % 2 ^ t) + w % 2 ^ s := by
  rw [Nat.div_add_mod, Nat.div_add_mod]

theorem nat_andNot (w s t : Nat) (hst : s + t ≤ 64) (hw : w < 2 ^ 64) :
    w &&& (2 ^ 64 - 1 - (2 ^ t - 1) * 2 ^ s) = 2 ^ s * (2 ^ t * (w / 2 ^ s / 2 ^ t) + 0) + w % 2 ^ s := by
  have hlo : w % 2 ^ s < 2 ^ s := Nat.mod_lt _ (Nat.two_pow_pos _)
  have hm : w / 2 ^ s % 2 ^ t < 2 ^ t := Nat.mod_lt _ (Nat.two_pow_pos _)
  have hM : (2 ^ t - 1) * 2 ^ s < 2 ^ 64 := by
    have h1 : (2 ^ t - 1) * 2 ^ s < 2 ^ t * 2 ^ s := Nat.mul_lt_mul_of_pos_right (by have := Nat.two_pow_pos t; omega) (Nat.two_pow_pos _)
    have h2 : 2 ^ t * 2 ^ s ≤ 2 ^ 64 := by rw [← Nat.pow_add]; exact Nat.pow_le_pow_right (by decide) (by omega)
    omega
  apply Nat.eq_of_testBit_eq
  intro j
  have eM : (2 ^ t - 1) * 2 ^ s = 2 ^ s * (2 ^ t - 1) + 0 := by rw [Nat.mul_comm]; rfl
  have hw2 := nat_cut w s t
  rw [Nat.testBit_and, show 2 ^ 64 - 1 - (2 ^ t - 1) * 2 ^ s = 2 ^ 64 - ((2 ^ t - 1) * 2 ^ s + 1) by omega, Nat.testBit_two_pow_sub_succ hM, eM,
    Nat.testBit_two_pow_mul_add _ (Nat.two_pow_pos _), Nat.testBit_two_pow_mul_add _ hlo, Nat.testBit_two_pow_mul_add _ (Nat.two_pow_pos _), Nat.testBit_two_pow_sub_one]
  by_cases hj : j < 64
  · conv => lhs; arg 1; rw [hw2, Nat.testBit_two_pow_mul_add _ hlo, Nat.testBit_two_pow_mul_add _ hm]
    by_cases h1 : j < s
    · simp [h1, hj]
    · by_cases h2 : j - s < t <;> simp [h1, h2, hj]
  · have hf : w.testBit j = false := Nat.testBit_lt_two_pow (Nat.lt_of_lt_of_le hw (Nat.pow_le_pow_right (by decide) (by omega)))
    rw [hf, Bool.false_and]
    rw [hw2, Nat.testBit_two_pow_mul_add _ hlo, Nat.testBit_two_pow_mul_add _ hm] at hf
    by_cases h1 : j < s
    · omega
    · by_cases h2 : j - s < t
      · omega
      · simp [h1, h2] at hf ⊢; exact hf

theorem nat_or (hi lo s t v : Nat) (hv : v < 2 ^ t) (hlo : lo < 2 ^ s) :
    (2 ^ s * (2 ^ t * hi + 0) + lo) ||| v * 2 ^ s = 2 ^ s * (2 ^ t * hi + v) + lo := by
  apply Nat.eq_of_testBit_eq
  intro j
  have ev : v * 2 ^ s = 2 ^ s * v + 0 := by rw [Nat.mul_comm]; rfl
  rw [Nat.testBit_or, ev, Nat.testBit_two_pow_mul_add _ hlo, Nat.testBit_two_pow_mul_add _ hlo, Nat.testBit_two_pow_mul_add _ (Nat.two_pow_pos _), Nat.testBit_two_pow_mul_add _ hv, Nat.testBit_two_pow_mul_add _ (Nat.two_pow_pos _)]
  by_cases h1 : j < s
  · simp [h1]
  · by_cases h2 : j - s < t
    · simp [h1, h2]
    · have hf : v.testBit (j - s) = false := Nat.testBit_lt_two_pow (Nat.lt_of_lt_of_le hv (Nat.pow_le_pow_right (by decide) (by omega)))
      simp [h1, h2, hf]

theorem nat_sub (w s t : Nat) : 2 ^ s * (2 ^ t * (w / 2 ^ s / 2 ^ t) + 0) + w % 2 ^ s = w - w / 2 ^ s % 2 ^ t * 2 ^ s := by
  have h := nat_cut w s t
  rw [Nat.mul_add, Nat.mul_comm (2 ^ s) (w / 2 ^ s % 2 ^ t)] at h
  simp only [Nat.add_zero]
  omega

end Go.Proofs.Ythkklcmmbpffiaa

/- What the machine's and, and-not and or come to at parts of words: by dividing and multiplying. -/
namespace Go.Proofs.Ythkklcmmbpffiaa

theorem pw_toNat (t : Int) : (pw t).toNat = 2 ^ t.toNat := by
  have : pw t = ((2 ^ t.toNat : Nat) : Int) := by simp [pw]
  rw [this, Int.toNat_natCast]

theorem and_mask (x t : Int) (h0 : 0 ≤ x) (h1 : x < 18446744073709551616) (t0 : 1 ≤ t) (t1 : t ≤ 64) :
    bits .and .u64 x (pw t - 1) = x % pw t := by
  have p0 := pw_pos t
  have p1 := pw_le_64 t (by omega) t1
  rw [u64_and x _ h0 h1 (by omega) (by omega)]
  have e : (pw t - 1).toNat = 2 ^ t.toNat - 1 := by have := pw_toNat t; omega
  rw [e, Nat.and_two_pow_sub_one_eq_mod]
  obtain ⟨X, rfl⟩ := Int.eq_ofNat_of_zero_le h0
  simp [pw]

theorem get_bits (v s t : Int) (hp : partB s t = true) (h0 : 0 ≤ v) (hv : v < 18446744073709551616) :
    bits .and .u64 (v / 2 ^ s.toNat) (pw t - 1) = getW v s t := by
  obtain ⟨q0, q1, q2⟩ := partB_yes hp
  have p0 := pw_pos s
  have d0 : 0 ≤ v / pw s := Int.ediv_nonneg h0 (by omega)
  have d1 : v / pw s ≤ v := Int.ediv_le_self _ h0
  show bits .and .u64 (v / pw s) (pw t - 1) = _
  rw [and_mask _ t d0 (by omega) q1 (by omega)]
  simp [getW, hp]

theorem wrap_u64_fit (x : Int) (h0 : 0 ≤ x) (h : x < 18446744073709551616) : IntKind.u64.wrap x = x := by
  rw [IntKind.wrap_u64]; omega

theorem mask_fits (s t : Int) (hp : partB s t = true) : 0 ≤ (pw t - 1) * pw s ∧ (pw t - 1) * pw s < 18446744073709551616 := by
  obtain ⟨q0, q1, q2⟩ := partB_yes hp
  have p0 := pw_pos s
  have p1 := pw_pos t
  have h : pw t * pw s ≤ 18446744073709551616 := by
    rw [← pw_add t s (by omega) q0]; exact pw_le_64 _ (by omega) (by omega)
  have e : (pw t - 1) * pw s = pw t * pw s - pw s := by rw [Int.sub_mul]; omega
  have n : 0 ≤ (pw t - 1) * pw s := Int.mul_nonneg (by omega) (by omega)
  omega

theorem put_bits (v s t u : Int) (hp : partB s t = true) (h0 : 0 ≤ v) (hv : v < 18446744073709551616) (u0 : 0 ≤ u) (hu : u < pw t) :
    bits .or .u64 (bits .andNot .u64 v (IntKind.u64.wrap ((pw t - 1) * 2 ^ s.toNat))) (IntKind.u64.wrap (u * 2 ^ s.toNat)) = putW v s t u := by
  obtain ⟨q0, q1, q2⟩ := partB_yes hp
  obtain ⟨m0, m1⟩ := mask_fits s t hp
  obtain ⟨_, f2, f3, f4, f5, _, _⟩ := put_fits v s t u hp h0 hv u0 hu
  show bits .or .u64 (bits .andNot .u64 v (IntKind.u64.wrap ((pw t - 1) * pw s))) (IntKind.u64.wrap (u * pw s)) = _
  rw [wrap_u64_fit _ m0 m1, wrap_u64_fit _ f3 f4, u64_andNot v _ h0 hv m0 m1]
  obtain ⟨V, rfl⟩ := Int.eq_ofNat_of_zero_le h0
  obtain ⟨U, rfl⟩ := Int.eq_ofNat_of_zero_le u0
  obtain ⟨S, rfl⟩ := Int.eq_ofNat_of_zero_le q0
  obtain ⟨T, rfl⟩ := Int.eq_ofNat_of_zero_le (show 0 ≤ t by omega)
  have eM : ((pw T - 1) * pw S).toNat = (2 ^ T - 1) * 2 ^ S := by
    have a : pw (T : Int) - 1 = ((2 ^ T - 1 : Nat) : Int) := by
      have := Nat.two_pow_pos T
      rw [pw_nat]; push_cast [Int.natCast_sub (show 1 ≤ 2 ^ T by omega)]; rfl
    rw [a, pw_nat]
    have b : ((2 ^ T - 1 : Nat) : Int) * 2 ^ S = (((2 ^ T - 1) * 2 ^ S : Nat) : Int) := by push_cast; rfl
    rw [b, Int.toNat_natCast]
  have hV : V < 2 ^ 64 := by omega
  have hU : U < 2 ^ T := by rw [pw_nat] at hu; exact_mod_cast hu
  have hST : S + T ≤ 64 := by omega
  rw [eM, Int.toNat_natCast, show (18446744073709551615 : Nat) = 2 ^ 64 - 1 by rfl, nat_andNot V S T hST hV]
  have hlo : V % 2 ^ S < 2 ^ S := Nat.mod_lt _ (Nat.two_pow_pos _)
  have hsub := nat_sub V S T
  have hle : 2 ^ S * (2 ^ T * (V / 2 ^ S / 2 ^ T) + 0) + V % 2 ^ S < 18446744073709551616 := by rw [hsub]; omega
  rw [u64_or _ _ (by omega) (by omega) f3 f4]
  have eU : ((U : Int) * pw S).toNat = U * 2 ^ S := by
    have b : (U : Int) * pw S = ((U * 2 ^ S : Nat) : Int) := by rw [pw_nat]; push_cast; rfl
    rw [b, Int.toNat_natCast]
  rw [eU, Int.toNat_natCast, nat_or _ _ S T U hU hlo]
  simp only [putW, hp, if_true]
  have hu' : (U : Int) < pw T := hu
  rw [if_pos hu', pw_nat, pw_nat]
  have h1 : 2 ^ S * (2 ^ T * (V / 2 ^ S / 2 ^ T) + U) + V % 2 ^ S = (V - V / 2 ^ S % 2 ^ T * 2 ^ S) + U * 2 ^ S := by
    rw [← hsub, Nat.mul_add, Nat.mul_add, Nat.mul_comm (2 ^ S) U]; omega
  rw [h1]
  have h2 : V / 2 ^ S % 2 ^ T * 2 ^ S ≤ V := by
    have := nat_cut V S T
    rw [Nat.mul_add, Nat.mul_comm (2 ^ S) (V / 2 ^ S % 2 ^ T)] at this; omega
  push_cast [Int.natCast_sub h2]
  rfl

end Go.Proofs.Ythkklcmmbpffiaa

/- Contracts of the small functions of layer 1 and of the document's own: powers, parts, what is lowest. -/
namespace Go.Proofs.Ythkklcmmbpffiaa
open Go.RowKit

theorem isPart_any (s t : Int) (w : World) (ht : t ≤ 9223372036854775807) :
    Calls Try.prog 112 #[.int .i64 s, .int .i64 t] w fun e w' => e = .returned (.bool (partB s t)) ∧ w = w' := by
  go_enter Try.func112, Try.ntmps112
  go_wp2
  all_goals go_ret
  all_goals refine ⟨ret_bool ?_, rfl⟩
  all_goals (rw [Bool.eq_iff_iff]; simp [partB]; omega)

theorem greatest_any (t : Int) (w : World) (h0 : 1 ≤ t) (h1 : t ≤ 64) :
    Calls Try.prog 113 #[.int .i64 t] w fun e w' => e = .returned (.int .u64 (pw t - 1)) ∧ w' = w := by
  go_enter Try.func113, Try.ntmps113
  go_wp2
  go_ret
  exact ⟨ret_int (greatest_eq t h0 h1), rfl⟩

/-- Get, where there is such a part. -/
theorem get_part (v s t : Int) (w : World) (h0 : 0 ≤ v) (hv : v < 18446744073709551616) (hp : partB s t = true) :
    Calls Try.prog 108 #[.int .u64 v, .int .i64 s, .int .i64 t] w fun e w' => e = .returned (.int .u64 (getW v s t)) ∧ ∃ n, w' = w.drewN n := by
  obtain ⟨q0, q1, q2⟩ := partB_yes hp
  have Hget := Lib.hid (get_bits v s t hp h0 hv)
  go_enter Try.func108, Try.ntmps108
  go_wp2_with fail
  refine (isPart_any _ _ _ (by omega)).mono ?_
  rintro e w' ⟨rfl, rfl⟩
  rw [hp]
  clear hp
  go_wp2_with fail
  go_quiet ((go_at_call 113; exact Calls.quiet_of_same (greatest_any _ _ (by omega) (by omega))))
  go_wp2
  go_ret
  exact ⟨ret_int Hget.out, _, rfl⟩

theorem get_any (v s t : Int) (w : World) (h0 : 0 ≤ v) (hv : v < 18446744073709551616) (ht : t ≤ 9223372036854775807) :
    Calls Try.prog 108 #[.int .u64 v, .int .i64 s, .int .i64 t] w fun e w' => e = .returned (.int .u64 (getW v s t)) ∧ ∃ n, w' = w.drewN n := by
  by_cases hp : partB s t = true
  · exact get_part v s t w h0 hv hp
  · have hget : 0 = getW v s t := by simp [getW, hp]
    have Hget := Lib.hid hget
    clear hget
    have hp' : partB s t = false := by simpa using hp
    clear hp
    go_enter Try.func108, Try.ntmps108
    go_wp2_with fail
    refine (isPart_any _ _ _ (by omega)).mono ?_
    rintro e w' ⟨rfl, rfl⟩
    rw [hp']
    clear hp'
    go_wp2
    go_ret
    exact ⟨ret_int Hget.out, 0, rfl⟩

/-- Put: the word, and the error. -/
theorem put_any (v s t u : Int) (w : World) (h0 : 0 ≤ v) (hv : v < 18446744073709551616) (ht : t ≤ 9223372036854775807) (u0 : 0 ≤ u) (_hu : u < 18446744073709551616) :
    Calls Try.prog 114 #[.int .u64 v, .int .i64 s, .int .i64 t, .int .u64 u] w fun e w' => e = .returned (.tuple #[.int .u64 (putW v s t u), .int .i64 (putE s t u)]) ∧ ∃ n, w' = w.drewN n := by
  by_cases hp : partB s t = true
  · obtain ⟨q0, q1, q2⟩ := partB_yes hp
    have p0 := pw_pos t
    have p1 := pw_le_64 t (by omega) (by omega)
    by_cases hl : u < pw t
    · have Hput := Lib.hid (put_bits v s t u hp h0 hv u0 hl)
      have he : 0 = putE s t u := by simp [putE, hp, hl]
      have He := Lib.hid he
      clear he
      go_enter Try.func114, Try.ntmps114
      go_wp2_with fail
      refine (isPart_any _ _ _ (by omega)).mono ?_
      rintro e w' ⟨rfl, rfl⟩
      rw [hp]
      clear hp
      go_wp2_with fail
      refine (greatest_any _ _ (by omega) (by omega)).mono ?_
      rintro e w' ⟨rfl, rfl⟩
      go_wp2_with fail
      go_quiet ((go_at_call 113; exact Calls.quiet_of_same (greatest_any _ _ (by omega) (by omega))))
      go_wp2
      go_ret2
      exact ⟨ret_two Hput.out He.out, _, rfl⟩
    · have hput : 0 = putW v s t u := by simp [putW, hp, hl]
      have he : 2 = putE s t u := by simp [putE, hp, hl]
      have He := Lib.hid he
      have Hput := Lib.hid hput
      clear he hput
      have hl' : ¬ u ≤ pw t - 1 := by omega
      go_enter Try.func114, Try.ntmps114
      go_wp2_with fail
      refine (isPart_any _ _ _ (by omega)).mono ?_
      rintro e w' ⟨rfl, rfl⟩
      rw [hp]
      clear hp
      go_wp2_with fail
      refine (greatest_any _ _ (by omega) (by omega)).mono ?_
      rintro e w' ⟨rfl, rfl⟩
      go_wp2
      go_ret2
      exact ⟨ret_two Hput.out He.out, 0, rfl⟩
  · have hp' : partB s t = false := by simpa using hp
    have hput : 0 = putW v s t u := by simp [putW, hp']
    have he : 1 = putE s t u := by simp [putE, hp']
    have He := Lib.hid he
    have Hput := Lib.hid hput
    clear he hput hp
    go_enter Try.func114, Try.ntmps114
    go_wp2_with fail
    refine (isPart_any _ _ _ (by omega)).mono ?_
    rintro e w' ⟨rfl, rfl⟩
    rw [hp']
    clear hp'
    go_wp2
    go_ret2
    exact ⟨ret_two Hput.out He.out, 0, rfl⟩

end Go.Proofs.Ythkklcmmbpffiaa

/- Several numbers in one word: plain facts. -/
namespace Go.Proofs.Ythkklcmmbpffiaa

/-- what the first k numbers make, the highest first. -/
def packTo (ls ws : List Int) : Nat → Int
  | 0 => 0
  | k + 1 => packTo ls ws k * pw (ws.getD k 0) + ls.getD k 0
/-- how many bits the first k have. -/
def sumTo (ws : List Int) : Nat → Int
  | 0 => 0
  | k + 1 => sumTo ws k + ws.getD k 0
def okTo (ls ws : List Int) (k : Nat) : Prop := ∀ i, i < k → 0 ≤ ls.getD i 0 ∧ ls.getD i 0 < pw (ws.getD i 0)
def okB (ls ws : List Int) (k : Nat) : Bool := (List.range k).all fun i => decide (0 ≤ ls.getD i 0 ∧ ls.getD i 0 < pw (ws.getD i 0))
theorem okB_iff (ls ws : List Int) (k : Nat) : okB ls ws k = true ↔ okTo ls ws k := by simp [okB, okTo]
/-- the widths are those of one word. -/
structure Wide (ws : List Int) : Prop where
  part : ∀ i, i < ws.length → 1 ≤ ws.getD i 0 ∧ ws.getD i 0 ≤ 62
  all : sumTo ws ws.length = 64

def packW (ls ws : List Int) : Int := if okB ls ws ws.length = true then packTo ls ws ws.length else 0
def packE (ls ws : List Int) : Int := if okB ls ws ws.length = true then 0 else 2
theorem packW_ok {ls ws : List Int} (h : okTo ls ws ws.length) : packW ls ws = packTo ls ws ws.length := if_pos ((okB_iff _ _ _).2 h)
theorem packE_ok {ls ws : List Int} (h : okTo ls ws ws.length) : packE ls ws = 0 := if_pos ((okB_iff _ _ _).2 h)
theorem packW_no {ls ws : List Int} (h : ¬ okTo ls ws ws.length) : packW ls ws = 0 := if_neg (fun g => h ((okB_iff _ _ _).1 g))
theorem packE_no {ls ws : List Int} (h : ¬ okTo ls ws ws.length) : packE ls ws = 2 := if_neg (fun g => h ((okB_iff _ _ _).1 g))

theorem sumTo_nonneg {ws : List Int} (h : Wide ws) (k : Nat) (hk : k ≤ ws.length) : 0 ≤ sumTo ws k := by
  induction k with
  | zero => simp [sumTo]
  | succ k ih => have := h.part k (by omega); have := ih (by omega); simp only [sumTo]; omega

theorem sumTo_mono {ws : List Int} (h : Wide ws) (j k : Nat) (hk : j + k ≤ ws.length) : sumTo ws j ≤ sumTo ws (j + k) := by
  induction k with
  | zero => simp
  | succ k ih => have := h.part (j + k) (by omega); have := ih (by omega); rw [← Nat.add_assoc]; simp only [sumTo]; omega

theorem sumTo_le {ws : List Int} (h : Wide ws) (k : Nat) (hk : k ≤ ws.length) : sumTo ws k ≤ 64 := by
  have := sumTo_mono h k (ws.length - k) (by omega)
  rw [show k + (ws.length - k) = ws.length by omega, h.all] at this
  exact this

theorem okTo_succ {ls ws : List Int} {k : Nat} (h : okTo ls ws k) (g : 0 ≤ ls.getD k 0 ∧ ls.getD k 0 < pw (ws.getD k 0)) : okTo ls ws (k + 1) := by
  intro i hi
  by_cases e : i = k
  · subst e; exact g
  · exact h i (by omega)

theorem okTo_not {ls ws : List Int} {k n : Nat} (hk : k < n) (g : ¬ (0 ≤ ls.getD k 0 ∧ ls.getD k 0 < pw (ws.getD k 0))) : ¬ okTo ls ws n := fun h => g (h k hk)

theorem packTo_bd {ls ws : List Int} (h : Wide ws) (k : Nat) (hk : k ≤ ws.length) (ok : okTo ls ws k) : 0 ≤ packTo ls ws k ∧ packTo ls ws k < pw (sumTo ws k) := by
  induction k with
  | zero => simp [packTo, sumTo, pw_zero]
  | succ k ih =>
    obtain ⟨i0, i1⟩ := ih (by omega) (fun i hi => ok i (by omega))
    obtain ⟨o0, o1⟩ := ok k (by omega)
    have hp := h.part k (by omega)
    have s0 := sumTo_nonneg h k (by omega)
    simp only [packTo, sumTo]
    rw [pw_add _ _ s0 (by omega)]
    have p := pw_pos (ws.getD k 0)
    have m0 : 0 ≤ packTo ls ws k * pw (ws.getD k 0) := Int.mul_nonneg i0 (by omega)
    have m1 : (packTo ls ws k + 1) * pw (ws.getD k 0) ≤ pw (sumTo ws k) * pw (ws.getD k 0) := Int.mul_le_mul_of_nonneg_right (by omega) (by omega)
    rw [Int.add_mul] at m1
    omega

/-- where a number is put under those ahead. -/
theorem put_pack (P s t x : Int) (hp : partB s t = true) (hx : x < pw t) : putW (P * pw (s + t)) s t x = (P * pw t + x) * pw s := by
  obtain ⟨q0, q1, q2⟩ := partB_yes hp
  have p0 := pw_pos s
  have p1 := pw_pos t
  simp only [putW, hp, hx, if_true]
  have e : P * pw (s + t) = (P * pw t) * pw s := by rw [pw_add s t q0 (by omega), Int.mul_comm (pw s), Int.mul_assoc]
  rw [e, Int.mul_ediv_cancel _ (by omega), Int.mul_emod_left, Int.add_mul]
  omega

theorem word_bd {ls ws : List Int} (h : Wide ws) (k : Nat) (hk : k ≤ ws.length) (ok : okTo ls ws k) :
    0 ≤ packTo ls ws k * pw (64 - sumTo ws k) ∧ packTo ls ws k * pw (64 - sumTo ws k) < 18446744073709551616 := by
  obtain ⟨b0, b1⟩ := packTo_bd h k hk ok
  have s0 := sumTo_nonneg h k hk
  have s1 := sumTo_le h k hk
  have p0 := pw_pos (64 - sumTo ws k)
  have e : pw (sumTo ws k) * pw (64 - sumTo ws k) = 18446744073709551616 := by
    rw [← pw_add _ _ s0 (by omega), show sumTo ws k + (64 - sumTo ws k) = 64 by omega, pw_64]
  refine ⟨Int.mul_nonneg b0 (by omega), ?_⟩
  rw [← e]
  exact Int.mul_lt_mul_of_pos_right b1 (by omega)

/-- one number more. -/
theorem pack_step {ls ws : List Int} (h : Wide ws) (k : Nat) (hk : k < ws.length) (g : 0 ≤ ls.getD k 0 ∧ ls.getD k 0 < pw (ws.getD k 0)) :
    putW (packTo ls ws k * pw (64 - sumTo ws k)) (64 - sumTo ws k - ws.getD k 0) (ws.getD k 0) (ls.getD k 0) = packTo ls ws (k + 1) * pw (64 - sumTo ws (k + 1)) := by
  have hp := h.part k hk
  have s1 := sumTo_le h (k + 1) hk
  have s0 := sumTo_nonneg h k (by omega)
  simp only [sumTo] at s1
  have pb : partB (64 - sumTo ws k - ws.getD k 0) (ws.getD k 0) = true := partB_mk (by omega)
  have e := put_pack (packTo ls ws k) (64 - sumTo ws k - ws.getD k 0) (ws.getD k 0) (ls.getD k 0) pb g.2
  rw [show 64 - sumTo ws k - ws.getD k 0 + ws.getD k 0 = 64 - sumTo ws k by omega] at e
  rw [e]
  simp only [packTo, sumTo]
  rw [show 64 - sumTo ws k - ws.getD k 0 = 64 - (sumTo ws k + ws.getD k 0) by omega]

theorem pack_all {ls ws : List Int} (h : Wide ws) : packTo ls ws ws.length * pw (64 - sumTo ws ws.length) = packTo ls ws ws.length := by
  rw [h.all]; simp [pw]

end Go.Proofs.Ythkklcmmbpffiaa

/- Contracts: several numbers laid in one word (lay, the document's Word). -/
namespace Go.Proofs.Ythkklcmmbpffiaa
open Go.RowKit

theorem val_int {k : IntKind} {a b : Int} (h : a = b) : Value.int k a = .int k b := by rw [h]

/-- a slice that reads as these numbers. -/
def IsInts (w : World) (b : Nat) (ws : List Int) : Prop := b < w.heap.size ∧ ∀ i, i < ws.length → w.cell? ⟨b, i, none⟩ = some (.int .i64 (ws.getD i 0))

set_option maxHeartbeats 1000000 in
theorem lay_any (a0 a1 a2 a3 : Int) (ws : List Int) (b cap : Nat) (w : World) (hw : Wide ws) (hlen : ws.length ≤ 4) (hws : IsInts w b ws)
    (ha : ∀ i, i < 4 → -9223372036854775808 ≤ [a0, a1, a2, a3].getD i 0 ∧ [a0, a1, a2, a3].getD i 0 ≤ 9223372036854775807) :
    Calls Try.prog 109 #[.agg #[.int .i64 a0, .int .i64 a1, .int .i64 a2, .int .i64 a3], .slice (some ⟨b, 0, none⟩) ws.length cap] w
      fun e w' => e = .returned (.tuple #[.int .u64 (packW [a0, a1, a2, a3] ws), .int .i64 (packE [a0, a1, a2, a3] ws)]) ∧ Below w.heap.size w w' := by
  obtain ⟨hb, hc⟩ := hws
  have HC := Lib.hid hc
  have HA := Lib.hid ha
  clear hc ha
  go_enter Try.func109, Try.ntmps109
  go_wp2_with fail
  go_loopw [6, 7, 14] (fun v s i W => ∃ k : Nat, k ≤ ws.length ∧ okTo [a0, a1, a2, a3] ws k ∧ i = .int .i64 k ∧ v = .int .u64 (packTo [a0, a1, a2, a3] ws k * pw (64 - sumTo ws k)) ∧ s = .int .i64 (64 - sumTo ws k) ∧
     ∃ n, W = (w.alloc (.cells #[.int .i64 a0, .int .i64 a1, .int .i64 a2, .int .i64 a3] 139)).drewN n) (fun _ _ i _ => ws.length - (intOf i).toNat)
  case atStart => exact ⟨0, Nat.zero_le _, fun i hi => by omega, rfl, val_int (by simp [packTo]), val_int (by simp [sumTo]), 0, rfl⟩
  case round =>
    obtain ⟨k, hk, hok, rfl, rfl, rfl, n, rfl⟩ := hrel
    by_cases hlt : k < ws.length
    · obtain ⟨t0, t1⟩ := hw.part k hlt
      obtain ⟨x0, x1⟩ := HA.out k (by omega)
      have hck := HC.out k hlt
      have hbk : (#[.int .i64 a0, .int .i64 a1, .int .i64 a2, .int .i64 a3] : Array Value)[k]? = some (.int .i64 ([a0, a1, a2, a3].getD k 0)) := by
        rcases k with _ | _ | _ | _ | k
        · rfl
        · rfl
        · rfl
        · rfl
        · omega
      have s0 := sumTo_nonneg hw k hk
      have s1 := sumTo_le hw (k + 1) hlt
      have e1 : sumTo ws (k + 1) = sumTo ws k + ws.getD k 0 := rfl
      rw [e1] at s1
      obtain ⟨b0, b1⟩ := word_bd hw k hk hok
      have Hst := Lib.hid (fun g => pack_step (ls := [a0, a1, a2, a3]) hw k hlt g)
      have Hok := Lib.hid hok
      have E1 := Lib.hid e1
      clear hok e1
      generalize hx : [a0, a1, a2, a3].getD k 0 = x at *
      generalize ht : ws.getD k 0 = t at *
      generalize hP : packTo [a0, a1, a2, a3] ws k * pw (64 - sumTo ws k) = P at *
      generalize hS : sumTo ws k = S at *
      have HX := Lib.hid hx
      have HT := Lib.hid ht
      have HP := Lib.hid hP
      have HS := Lib.hid hS
      clear hx ht hP hS
      have pp := pw_le_63 t (by omega) (by omega)
      have hpart : partB (64 - S - t) t = true := partB_mk (by omega)
      have HPt := Lib.hid hpart
      clear hpart
      by_cases hg : 0 ≤ x ∧ x < pw t
      · have hput := Hst.out hg

        have HPut := Lib.hid hput
        have he0 : putE (64 - S - t) t x = 0 := by simp [putE, HPt.out, hg.2]
        have HE := Lib.hid he0
        clear hput he0
        obtain ⟨g0, g1⟩ := hg
        go_wp2_with fail
        refine (put_any _ _ _ _ _ (by omega) (by omega) (by omega) (by omega) (by omega)).mono ?_
        rintro e w' ⟨rfl, m, rfl⟩
        rw [HPut.out, HE.out]
        go_wp2
        go_roundw
        case rel =>
          refine ⟨k + 1, by omega, okTo_succ Hok.out ?_, by go_num, rfl, val_int ?_, _, rfl⟩
          · rw [HX.out, HT.out]; exact ⟨g0, g1⟩
          · rw [E1.out]; omega
        case measure => simp [intOf]; omega
      · have hpu : pw t ≤ IntKind.u64.wrap x ∧ 0 ≤ IntKind.u64.wrap x ∧ IntKind.u64.wrap x < 18446744073709551616 := by
          rw [IntKind.wrap_u64]; omega
        have he0 : putE (64 - S - t) t (IntKind.u64.wrap x) = 2 := by simp [putE, HPt.out]; omega
        have HE := Lib.hid he0
        have hno : ¬ okTo [a0, a1, a2, a3] ws ws.length := okTo_not hlt (by rw [HX.out, HT.out]; exact hg)
        have HW := Lib.hid (packW_no hno)
        have HEE := Lib.hid (packE_no hno)
        clear he0 hno hg
        go_wp2_with fail
        refine (put_any _ _ _ _ _ (by omega) (by omega) (by omega) (by omega) (by omega)).mono ?_
        rintro e w' ⟨rfl, m, rfl⟩
        rw [HE.out]
        go_wp2
        go_ret2
        exact ⟨ret_two HW.out.symm HEE.out.symm, below_drewN ((Below.refl _ _).alloc (Nat.le_refl _) _) _⟩
    · obtain rfl : ws.length = k := by omega
      have HW := Lib.hid (packW_ok hok)
      have HEE := Lib.hid (packE_ok hok)
      have HP := Lib.hid (pack_all (ls := [a0, a1, a2, a3]) hw)
      clear hok
      go_wp2
      go_ret2
      exact ⟨ret_two (HP.out.trans HW.out.symm) HEE.out.symm, below_drewN ((Below.refl _ _).alloc (Nat.le_refl _) _) _⟩

end Go.Proofs.Ythkklcmmbpffiaa

/- Contracts: the five kinds of words, laid. -/
namespace Go.Proofs.Ythkklcmmbpffiaa
open Go.RowKit

abbrev I64 (n : Int) : Prop := -9223372036854775808 ≤ n ∧ n ≤ 9223372036854775807

theorem lay_n (a0 a1 a2 a3 : Int) (ws : List Int) (n b cap : Nat) (w : World) (hn : n = ws.length) (hw : Wide ws) (hlen : ws.length ≤ 4) (hws : IsInts w b ws)
    (h0 : I64 a0) (h1 : I64 a1) (h2 : I64 a2) (h3 : I64 a3) :
    Calls Try.prog 109 #[.agg #[.int .i64 a0, .int .i64 a1, .int .i64 a2, .int .i64 a3], .slice (some ⟨b, 0, none⟩) n cap] w
      fun e w' => e = .returned (.tuple #[.int .u64 (packW [a0, a1, a2, a3] ws), .int .i64 (packE [a0, a1, a2, a3] ws)]) ∧ Below w.heap.size w w' := by
  subst hn
  refine lay_any a0 a1 a2 a3 ws b cap w hw hlen hws ?_
  intro i hi
  rcases i with _ | _ | _ | _ | i
  · exact h0
  · exact h1
  · exact h2
  · exact h3
  · omega

def stateWs : List Int := [32, 30, 2]
def homeWs : List Int := [32, 16, 16]
def headWs : List Int := [32, 32]
def connWs : List Int := [26, 5, 3, 30]
theorem wide_of {ws : List Int} (h : ∀ x ∈ ws, 1 ≤ x ∧ x ≤ 62) (g : sumTo ws ws.length = 64) : Wide ws :=
  ⟨fun i hi => by rw [List.getD_eq_getElem?_getD, List.getElem?_eq_getElem hi]; exact h _ (List.getElem_mem hi), g⟩
theorem wide_state : Wide stateWs := wide_of (by simp [stateWs]) (by simp [stateWs, sumTo])
theorem wide_home : Wide homeWs := wide_of (by simp [homeWs]) (by simp [homeWs, sumTo])
theorem wide_head : Wide headWs := wide_of (by simp [headWs]) (by simp [headWs, sumTo])
theorem wide_conn : Wide connWs := wide_of (by simp [connWs]) (by simp [connWs, sumTo])

theorem isInts_two (w : World) (o : Obj) (cs : Array Value) (T : TypeId) (ws : List Int) (h : ∀ i, i < ws.length → cs[i]? = some (.int .i64 (ws.getD i 0))) :
    IsInts ((w.alloc o).alloc (.cells cs T)) (w.heap.size + 1) ws := by
  refine ⟨by simp, fun i hi => ?_⟩
  have e := World.cell?_alloc_new (w.alloc o) cs T i
  rw [show (w.alloc o).heap.size = w.heap.size + 1 by simp] at e
  rw [e, h i hi]

theorem below_two (w : World) (o p : Obj) (w' : World) (h : Below ((w.alloc o).alloc p).heap.size ((w.alloc o).alloc p) w') : Below w.heap.size w w' :=
  (((Below.refl _ _).alloc (Nat.le_refl _) o).alloc (by simp) p).trans (h.mono (by simp; omega))

theorem pair3 (x0 x1 x2 : Int) : ∀ i, i < [x0, x1, x2].length → (#[Value.int .i64 x0, .int .i64 x1, .int .i64 x2])[i]? = some (.int .i64 ([x0, x1, x2].getD i 0)) := by
  intro i hi
  rcases i with _ | _ | _ | i
  · rfl
  · rfl
  · rfl
  · simp at hi; omega
theorem pair2 (x0 x1 : Int) : ∀ i, i < [x0, x1].length → (#[Value.int .i64 x0, .int .i64 x1])[i]? = some (.int .i64 ([x0, x1].getD i 0)) := by
  intro i hi
  rcases i with _ | _ | i
  · rfl
  · rfl
  · simp at hi; omega
theorem pair4 (x0 x1 x2 x3 : Int) : ∀ i, i < [x0, x1, x2, x3].length → (#[Value.int .i64 x0, .int .i64 x1, .int .i64 x2, .int .i64 x3])[i]? = some (.int .i64 ([x0, x1, x2, x3].getD i 0)) := by
  intro i hi
  rcases i with _ | _ | _ | _ | i
  · rfl
  · rfl
  · rfl
  · rfl
  · simp at hi; omega

theorem wrap64_bd (n : Int) : I64 (wrap64 n) := by
  unfold wrap64 I64; omega

theorem head_word (a b : Int) (w : World) (ha : I64 a) :
    Calls Try.prog 102 #[.agg #[.int .i64 a, .int .i64 b]] w
      fun e w' => e = .returned (.tuple #[.int .u64 (packW [a, wrap64 (b + 1), 0, 0] headWs), .int .i64 (packE [a, wrap64 (b + 1), 0, 0] headWs)]) ∧ Below w.heap.size w w' := by
  go_enter Try.func102, Try.ntmps102
  go_wp2_with fail
  refine (lay_n _ _ _ _ headWs _ _ _ _ rfl wide_head (by decide) (isInts_two _ _ _ _ _ (pair2 _ _)) ha (wrap64_bd _) ⟨by omega, by omega⟩ ⟨by omega, by omega⟩).mono ?_
  rintro e w' ⟨rfl, hbel⟩
  have hbel2 := Lib.hid (below_two _ _ _ _ hbel)
  clear hbel
  go_wp2
  go_ret2
  exact ⟨rfl, hbel2.out⟩

end Go.Proofs.Ythkklcmmbpffiaa

/- Contracts: the example of the document; the law on parts. -/
namespace Go.Proofs.Ythkklcmmbpffiaa
open Go.RowKit

theorem ex_ok : okTo [1, 2, 1, 0] stateWs 3 := by
  intro i hi
  rcases i with _ | _ | _ | i
  · simp [stateWs, pw]
  · simp [stateWs, pw]
  · simp [stateWs, pw]
  · omega
theorem ex_word : packW [1, 2, 1, 0] stateWs = 4294967305 := by
  rw [packW_ok ex_ok]
  simp [stateWs, packTo, pw]
theorem ex_err : packE [1, 2, 1, 0] stateWs = 0 := packE_ok ex_ok

abbrev U64 (n : Int) : Prop := 0 ≤ n ∧ n < 18446744073709551616

theorem below_drewn {w W : World} {n : Nat} (h : Below (w.drewN n).heap.size (w.drewN n) W) : Below w.heap.size w W :=
  (below_drewN (Below.refl w.heap.size w) n).trans h

end Go.Proofs.Ythkklcmmbpffiaa

/- Contracts: the document's words (Word, Widths). -/
namespace Go.Proofs.Ythkklcmmbpffiaa
open Go.RowKit

/-- the first n cells of a block are these numbers. -/
def HasInts (w : World) (b n : Nat) (ls : List Int) : Prop := ∀ i, i < n → w.cell? ⟨b, i, none⟩ = some (.int .i64 (ls.getD i 0))

theorem pack_lt {ls ws : List Int} (h : Wide ws) (k : Nat) (hk : k < ws.length) (ok : okTo ls ws k) :
    0 ≤ packTo ls ws k * pw (ws.getD k 0) ∧ packTo ls ws k * pw (ws.getD k 0) + (pw (ws.getD k 0) - 1) < 18446744073709551616 := by
  obtain ⟨b0, b1⟩ := packTo_bd h k (by omega) ok
  have hp := h.part k hk
  have s0 := sumTo_nonneg h k (by omega)
  have s1 := sumTo_le h (k + 1) hk
  simp only [sumTo] at s1
  have p0 := pw_pos (ws.getD k 0)
  have e : pw (sumTo ws k) * pw (ws.getD k 0) ≤ 18446744073709551616 := by
    rw [← pw_add _ _ s0 (by omega)]; exact pw_le_64 _ (by omega) s1
  have m : (packTo ls ws k + 1) * pw (ws.getD k 0) ≤ pw (sumTo ws k) * pw (ws.getD k 0) := Int.mul_le_mul_of_nonneg_right (by omega) (by omega)
  rw [Int.add_mul] at m
  refine ⟨Int.mul_nonneg b0 (by omega), by omega⟩

/-- a world that has drawn, and no more. -/
def Dr (w W : World) : Prop := ∃ m, W = w.drewN m
theorem Dr.refl (w : World) : Dr w w := ⟨0, rfl⟩
theorem Dr.next {w W : World} (h : Dr w W) (n : Nat) : Dr w (W.drewN n) := by
  obtain ⟨m, rfl⟩ := h
  exact ⟨m + n, World.drewN_drewN ..⟩
theorem Dr.cell {w W : World} (h : Dr w W) (a : Addr) : W.cell? a = w.cell? a := by
  obtain ⟨m, rfl⟩ := h; rfl
theorem Dr.below {B : Nat} {w W : World} (h : Dr w W) : Below B w W := by
  obtain ⟨m, rfl⟩ := h; exact below_drewN (Below.refl _ _) _

end Go.Proofs.Ythkklcmmbpffiaa

/- Plain facts: a part that is put stands there, and the rest is as it was. -/
namespace Go.Proofs.Ythkklcmmbpffiaa

theorem cut3 (A N q m lo : Int) (hA : 1 ≤ A) (hN : 1 ≤ N) (l0 : 0 ≤ lo) (l1 : lo < A) (m0 : 0 ≤ m) (m1 : m < N) :
    (A * (N * q + m) + lo) / A = N * q + m ∧ (A * (N * q + m) + lo) % A = lo ∧ (A * (N * q + m) + lo) / A / N = q ∧ (A * (N * q + m) + lo) / A % N = m := by
  have h1 : (A * (N * q + m) + lo) / A = N * q + m := by
    rw [Int.add_comm, Int.add_mul_ediv_left _ _ (by omega), Int.ediv_eq_zero_of_lt l0 l1]; omega
  refine ⟨h1, ?_, ?_, ?_⟩
  · rw [Int.add_comm, Int.add_mul_emod_self_left]; exact Int.emod_eq_of_lt l0 l1
  · rw [h1, Int.add_comm, Int.add_mul_ediv_left _ _ (by omega), Int.ediv_eq_zero_of_lt m0 m1]; omega
  · rw [h1, Int.add_comm, Int.add_mul_emod_self_left]; exact Int.emod_eq_of_lt m0 m1

theorem putW_eq (w s t v : Int) (hp : partB s t = true) (hv : v < pw t) :
    putW w s t v = pw s * (pw t * (w / pw s / pw t) + v) + w % pw s := by
  simp only [putW, hp, hv, if_true]
  have e1 : pw s * (w / pw s) + w % pw s = w := Int.mul_ediv_add_emod w (pw s)
  have e2 : pw t * (w / pw s / pw t) + w / pw s % pw t = w / pw s := Int.mul_ediv_add_emod (w / pw s) (pw t)
  generalize w / pw s / pw t = q at *
  generalize w / pw s % pw t = m at *
  generalize w % pw s = r at *
  rw [← e2] at e1
  rw [Int.mul_add] at e1 ⊢
  rw [Int.mul_comm m (pw s), Int.mul_comm v (pw s)]
  omega

theorem part0 {t : Int} (h : 1 ≤ t) (g : t ≤ 64) : partB 0 t = true := partB_mk (by omega)
theorem getW_low (w t : Int) (h : 1 ≤ t) (g : t ≤ 64) : getW w 0 t = w % pw t := by
  simp [getW, part0 h g, pw_zero]
theorem getW_at (w s t : Int) (hp : partB s t = true) : getW w s t = w / pw s % pw t := by simp [getW, hp]

theorem low_bd (v t : Int) : 0 ≤ v % pw t ∧ v % pw t < pw t := by
  have p := pw_pos t
  exact ⟨Int.emod_nonneg _ (by omega), Int.emod_lt_of_pos _ (by omega)⟩

theorem putW_bd (w s t v : Int) (hp : partB s t = true) (h0 : 0 ≤ w) (h1 : w < 18446744073709551616) (v0 : 0 ≤ v) (hv : v < pw t) :
    0 ≤ putW w s t v ∧ putW w s t v < 18446744073709551616 := by
  obtain ⟨_, _, f3, _, f5, f6, _⟩ := put_fits w s t v hp h0 h1 v0 hv
  simp only [putW, hp, hv, if_true]
  omega

theorem put_get (w s t v : Int) (hp : partB s t = true) (v0 : 0 ≤ v) (hv : v < pw t) : getW (putW w s t v) s t = v := by
  rw [getW_at _ _ _ hp, putW_eq w s t v hp hv]
  obtain ⟨l0, l1⟩ := low_bd w s
  exact (cut3 _ _ _ _ _ (pw_pos s) (pw_pos t) l0 l1 v0 hv).2.2.2
theorem put_low (w s t v : Int) (hp : partB s t = true) (v0 : 0 ≤ v) (hv : v < pw t) (h : 1 ≤ s) (g : s ≤ 64) : getW (putW w s t v) 0 s = getW w 0 s := by
  rw [getW_low _ _ h g, getW_low _ _ h g, putW_eq w s t v hp hv]
  obtain ⟨l0, l1⟩ := low_bd w s
  exact (cut3 _ _ _ _ _ (pw_pos s) (pw_pos t) l0 l1 v0 hv).2.1
theorem put_high (w s t v : Int) (hp : partB s t = true) (v0 : 0 ≤ v) (hv : v < pw t) (r : Int) (hr : partB (s + t) r = true) : getW (putW w s t v) (s + t) r = getW w (s + t) r := by
  obtain ⟨q0, q1, q2⟩ := partB_yes hp
  rw [getW_at _ _ _ hr, getW_at _ _ _ hr, pw_add s t q0 (by omega), putW_eq w s t v hp hv]
  obtain ⟨l0, l1⟩ := low_bd w s
  have p0 := pw_pos s
  rw [← Int.ediv_ediv_of_nonneg (by omega), ← Int.ediv_ediv_of_nonneg (by omega)]
  rw [(cut3 _ _ _ _ _ (pw_pos s) (pw_pos t) l0 l1 v0 hv).2.2.1]
theorem put_swap (w s t v : Int) (hp : partB s t = true) (v0 : 0 ≤ v) (hv : v < pw t) (u : Int) (h : 1 ≤ s) (g : s ≤ 64) (u0 : 0 ≤ u) (hu : u < pw s) : putW (putW w s t v) 0 s u = putW (putW w 0 s u) s t v := by
  have p0 := pw_pos s
  have p1 := pw_pos t
  obtain ⟨l0, l1⟩ := low_bd w s
  have c := cut3 (pw s) (pw t) (w / pw s / pw t) v (w % pw s) p0 p1 l0 l1 v0 hv
  rw [putW_eq _ 0 s u (part0 h g) hu, putW_eq w s t v hp hv]
  rw [pw_zero, Int.ediv_one, Int.emod_one, c.1]
  rw [putW_eq _ s t v hp hv, putW_eq w 0 s u (part0 h g) hu, pw_zero, Int.ediv_one, Int.emod_one]
  have h1 : (pw s * (w / pw s) + u) / pw s = w / pw s := by
    rw [Int.add_comm, Int.add_mul_ediv_left _ _ (by omega), Int.ediv_eq_zero_of_lt u0 hu]; omega
  have h2 : (pw s * (w / pw s) + u) % pw s = u := by
    rw [Int.add_comm, Int.add_mul_emod_self_left]; exact Int.emod_eq_of_lt u0 hu
  rw [show 1 * (pw s * (w / pw s) + u) + 0 = pw s * (w / pw s) + u by omega, h1, h2]
  omega

theorem get_all (w : Int) (h0 : 0 ≤ w) (h1 : w < 18446744073709551616) : getW w 0 64 = w := by
  rw [getW_low w 64 (by omega) (by omega), pw_64]; omega

theorem putE_ok (s t v : Int) (hp : partB s t = true) (hv : v < pw t) : putE s t v = 0 := by simp [putE, hp, hv]

end Go.Proofs.Ythkklcmmbpffiaa

/- Contracts: words taken apart (cut, StateOf and its fellows). -/
namespace Go.Proofs.Ythkklcmmbpffiaa
open Go.RowKit

theorem getW_bd (v s t : Int) (m : Int) (hm : pw t = m) : 0 ≤ getW v s t ∧ getW v s t < m := by
  subst hm
  unfold getW
  have p := pw_pos t
  split
  · exact low_bd _ _
  · omega

set_option maxHeartbeats 1000000 in
theorem cut_state (v : Int) (b : Nat) (w : World) (hv : U64 v) (hb : b < w.heap.size) (c0 : w.cell? ⟨b, 0, none⟩ = some (.int .i64 32)) (c1 : w.cell? ⟨b, 1, none⟩ = some (.int .i64 30)) (c2 : w.cell? ⟨b, 2, none⟩ = some (.int .i64 2)) :
    Calls Try.prog 100 #[.int .u64 v, .slice (some ⟨b, 0, none⟩) 3 3] w
      fun e w' => e = .returned (.agg #[.int .i64 (getW v 32 32), .int .i64 (getW v 2 30), .int .i64 (getW v 0 2), .int .i64 0]) ∧ Below w.heap.size w w' := by
  obtain ⟨hv0, hv1⟩ := hv
  obtain ⟨g0, g1⟩ := getW_bd v 32 32 4294967296 (by simp [pw])
  obtain ⟨g2, g3⟩ := getW_bd v 2 30 1073741824 (by simp [pw])
  obtain ⟨g4, g5⟩ := getW_bd v 0 2 4 (by simp [pw])
  go_enter Try.func100, Try.ntmps100
  go_wp2_with fail
  refine wp_loop_rounds 4 ?_
  rw [rounds_succ]
  go_wp2_with fail
  refine (get_any _ _ _ _ (by omega) (by omega) (by omega)).mono ?_
  rintro e w2 ⟨rfl, m, rfl⟩
  go_wp2_with fail
  rw [rounds_succ]
  go_wp2_with fail
  refine (get_any _ _ _ _ (by omega) (by omega) (by omega)).mono ?_
  rintro e w2 ⟨rfl, m, rfl⟩
  go_wp2_with fail
  rw [rounds_succ]
  go_wp2_with fail
  refine (get_any _ _ _ _ (by omega) (by omega) (by omega)).mono ?_
  rintro e w2 ⟨rfl, m, rfl⟩
  go_wp2_with fail
  rw [rounds_succ]
  go_wp2
  refine bodyPost_ret (v := .agg #[.int .i64 (getW v 32 32), .int .i64 (getW v 2 30), .int .i64 (getW v 0 2), .int .i64 0]) (by simp [results, Try.results100, go_sem]) rfl ⟨rfl, ?_⟩
  repeat' (with_reducible first | exact Below.refl _ _ | refine below_drewN ?_ _ | refine Below.setCell ?_ ?_ _ | refine Below.alloc ?_ ?_ _)
  all_goals simp

set_option maxHeartbeats 1000000 in
theorem cut_home (v : Int) (b : Nat) (w : World) (hv : U64 v) (hb : b < w.heap.size) (c0 : w.cell? ⟨b, 0, none⟩ = some (.int .i64 32)) (c1 : w.cell? ⟨b, 1, none⟩ = some (.int .i64 16)) (c2 : w.cell? ⟨b, 2, none⟩ = some (.int .i64 16)) :
    Calls Try.prog 100 #[.int .u64 v, .slice (some ⟨b, 0, none⟩) 3 3] w
      fun e w' => e = .returned (.agg #[.int .i64 (getW v 32 32), .int .i64 (getW v 16 16), .int .i64 (getW v 0 16), .int .i64 0]) ∧ Below w.heap.size w w' := by
  obtain ⟨hv0, hv1⟩ := hv
  obtain ⟨g0, g1⟩ := getW_bd v 32 32 4294967296 (by simp [pw])
  obtain ⟨g2, g3⟩ := getW_bd v 16 16 65536 (by simp [pw])
  obtain ⟨g4, g5⟩ := getW_bd v 0 16 65536 (by simp [pw])
  go_enter Try.func100, Try.ntmps100
  go_wp2_with fail
  refine wp_loop_rounds 4 ?_
  rw [rounds_succ]
  go_wp2_with fail
  refine (get_any _ _ _ _ (by omega) (by omega) (by omega)).mono ?_
  rintro e w2 ⟨rfl, m, rfl⟩
  go_wp2_with fail
  rw [rounds_succ]
  go_wp2_with fail
  refine (get_any _ _ _ _ (by omega) (by omega) (by omega)).mono ?_
  rintro e w2 ⟨rfl, m, rfl⟩
  go_wp2_with fail
  rw [rounds_succ]
  go_wp2_with fail
  refine (get_any _ _ _ _ (by omega) (by omega) (by omega)).mono ?_
  rintro e w2 ⟨rfl, m, rfl⟩
  go_wp2_with fail
  rw [rounds_succ]
  go_wp2
  refine bodyPost_ret (v := .agg #[.int .i64 (getW v 32 32), .int .i64 (getW v 16 16), .int .i64 (getW v 0 16), .int .i64 0]) (by simp [results, Try.results100, go_sem]) rfl ⟨rfl, ?_⟩
  repeat' (with_reducible first | exact Below.refl _ _ | refine below_drewN ?_ _ | refine Below.setCell ?_ ?_ _ | refine Below.alloc ?_ ?_ _)
  all_goals simp

set_option maxHeartbeats 1000000 in
theorem cut_head (v : Int) (b : Nat) (w : World) (hv : U64 v) (hb : b < w.heap.size) (c0 : w.cell? ⟨b, 0, none⟩ = some (.int .i64 32)) (c1 : w.cell? ⟨b, 1, none⟩ = some (.int .i64 32)) :
    Calls Try.prog 100 #[.int .u64 v, .slice (some ⟨b, 0, none⟩) 2 2] w
      fun e w' => e = .returned (.agg #[.int .i64 (getW v 32 32), .int .i64 (getW v 0 32), .int .i64 0, .int .i64 0]) ∧ Below w.heap.size w w' := by
  obtain ⟨hv0, hv1⟩ := hv
  obtain ⟨g0, g1⟩ := getW_bd v 32 32 4294967296 (by simp [pw])
  obtain ⟨g2, g3⟩ := getW_bd v 0 32 4294967296 (by simp [pw])
  go_enter Try.func100, Try.ntmps100
  go_wp2_with fail
  refine wp_loop_rounds 3 ?_
  rw [rounds_succ]
  go_wp2_with fail
  refine (get_any _ _ _ _ (by omega) (by omega) (by omega)).mono ?_
  rintro e w2 ⟨rfl, m, rfl⟩
  go_wp2_with fail
  rw [rounds_succ]
  go_wp2_with fail
  refine (get_any _ _ _ _ (by omega) (by omega) (by omega)).mono ?_
  rintro e w2 ⟨rfl, m, rfl⟩
  go_wp2_with fail
  rw [rounds_succ]
  go_wp2
  refine bodyPost_ret (v := .agg #[.int .i64 (getW v 32 32), .int .i64 (getW v 0 32), .int .i64 0, .int .i64 0]) (by simp [results, Try.results100, go_sem]) rfl ⟨rfl, ?_⟩
  repeat' (with_reducible first | exact Below.refl _ _ | refine below_drewN ?_ _ | refine Below.setCell ?_ ?_ _ | refine Below.alloc ?_ ?_ _)
  all_goals simp

set_option maxHeartbeats 1000000 in
theorem cut_conn (v : Int) (b : Nat) (w : World) (hv : U64 v) (hb : b < w.heap.size) (c0 : w.cell? ⟨b, 0, none⟩ = some (.int .i64 26)) (c1 : w.cell? ⟨b, 1, none⟩ = some (.int .i64 5)) (c2 : w.cell? ⟨b, 2, none⟩ = some (.int .i64 3)) (c3 : w.cell? ⟨b, 3, none⟩ = some (.int .i64 30)) :
    Calls Try.prog 100 #[.int .u64 v, .slice (some ⟨b, 0, none⟩) 4 4] w
      fun e w' => e = .returned (.agg #[.int .i64 (getW v 38 26), .int .i64 (getW v 33 5), .int .i64 (getW v 30 3), .int .i64 (getW v 0 30)]) ∧ Below w.heap.size w w' := by
  obtain ⟨hv0, hv1⟩ := hv
  obtain ⟨g0, g1⟩ := getW_bd v 38 26 67108864 (by simp [pw])
  obtain ⟨g2, g3⟩ := getW_bd v 33 5 32 (by simp [pw])
  obtain ⟨g4, g5⟩ := getW_bd v 30 3 8 (by simp [pw])
  obtain ⟨g6, g7⟩ := getW_bd v 0 30 1073741824 (by simp [pw])
  go_enter Try.func100, Try.ntmps100
  go_wp2_with fail
  refine wp_loop_rounds 5 ?_
  rw [rounds_succ]
  go_wp2_with fail
  refine (get_any _ _ _ _ (by omega) (by omega) (by omega)).mono ?_
  rintro e w2 ⟨rfl, m, rfl⟩
  go_wp2_with fail
  rw [rounds_succ]
  go_wp2_with fail
  refine (get_any _ _ _ _ (by omega) (by omega) (by omega)).mono ?_
  rintro e w2 ⟨rfl, m, rfl⟩
  go_wp2_with fail
  rw [rounds_succ]
  go_wp2_with fail
  refine (get_any _ _ _ _ (by omega) (by omega) (by omega)).mono ?_
  rintro e w2 ⟨rfl, m, rfl⟩
  go_wp2_with fail
  rw [rounds_succ]
  go_wp2_with fail
  refine (get_any _ _ _ _ (by omega) (by omega) (by omega)).mono ?_
  rintro e w2 ⟨rfl, m, rfl⟩
  go_wp2_with fail
  rw [rounds_succ]
  go_wp2
  refine bodyPost_ret (v := .agg #[.int .i64 (getW v 38 26), .int .i64 (getW v 33 5), .int .i64 (getW v 30 3), .int .i64 (getW v 0 30)]) (by simp [results, Try.results100, go_sem]) rfl ⟨rfl, ?_⟩
  repeat' (with_reducible first | exact Below.refl _ _ | refine below_drewN ?_ _ | refine Below.setCell ?_ ?_ _ | refine Below.alloc ?_ ?_ _)
  all_goals simp

/-- the result's own block, behind a call: as it was laid. -/
theorem res_kept {w w2 : World} {cs : Array Value} {T : TypeId} {o : Obj} (h : Below ((w.alloc (.cells cs T)).alloc o).heap.size ((w.alloc (.cells cs T)).alloc o) w2) :
    (∀ i, w2.cell? ⟨w.heap.size, i, none⟩ = cs[i]?) ∧ (∀ i, w2.frozen? ⟨w.heap.size, i, none⟩ = false) ∧ w.heap.size + 2 ≤ w2.heap.size ∧ Below w.heap.size w w2 := by
  refine ⟨fun i => ?_, fun i => ?_, ?_, below_two _ _ _ _ h⟩
  · rw [h.cell (by simp; omega)]; simp
  · rw [h.frozen (by simp; omega)]; simp
  · have := h.size; simpa using this

set_option maxHeartbeats 1000000 in
theorem head_of (v : Int) (w : World) (hv : U64 v) :
    Calls Try.prog 71 #[.int .u64 v] w
      fun e w' => e = .returned (.agg #[.int .i64 (getW v 32 32), .int .i64 (getW v 0 32 - 1)]) ∧ Below w.heap.size w w' := by
  obtain ⟨g0, g1⟩ := getW_bd v 32 32 4294967296 (by simp [pw])
  obtain ⟨g2, g3⟩ := getW_bd v 0 32 4294967296 (by simp [pw])
  go_enter Try.func71, Try.ntmps71
  go_wp2_with fail
  refine (cut_head _ _ _ hv (by simp) (by simp) (by simp)).mono ?_
  rintro e w2 ⟨rfl, hbel⟩
  obtain ⟨hc, hf, hz, hb⟩ := res_kept hbel
  have hlt : w.heap.size < w2.heap.size := by omega
  have hc0 := hc 0
  have hf0 := hf 0
  have hc1 := hc 1
  have hf1 := hf 1
  clear hc hf
  have HB := Lib.hid hb
  clear hbel hb
  go_wp2
  refine bodyPost_ret (v := .agg #[.int .i64 (getW v 32 32), .int .i64 (getW v 0 32 - 1)]) (by simp [results, Try.results71, go_sem, hlt, hc0, hc1]) rfl ⟨rfl, ?_⟩
  repeat' (with_reducible first | exact HB.out | refine below_drewN ?_ _ | refine Below.setCell ?_ ?_ _ | refine Below.alloc ?_ ?_ _)
  all_goals (simp; try omega)

end Go.Proofs.Ythkklcmmbpffiaa
