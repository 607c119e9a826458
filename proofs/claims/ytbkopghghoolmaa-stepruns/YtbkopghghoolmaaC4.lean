/- Contracts of the accesses over any number of a cell; New. -/
import Derived.Test.YtbkopghghoolmaaC3
import Derived.Laws.MakeOwn
namespace Go.Proofs.Ytbkopghghoolmaa
open Go.RowKit

/-- behind an access: the arena has the numbers l and k accesses; nothing else has turned. -/
def Aft (w : World) (p c : Nat) (l : List Int) (k : Int) (w' : World) : Prop := Arena w' p c l k ∧ Turns [p, c] w w'

/-- does a Cas write? -/
def casB (l : List Int) (i o : Int) : Bool := hasA l i && decide (getA l i = o)

/-- the numbers behind a Cas. -/
def casA (l : List Int) (i o v : Int) : List Int := if casB l i o = true then setA l i v else l

section
variable {p c : Nat} {l : List Int} {k : Int} {w : World}

theorem Aft.same (h : Arena w p c l k) : Aft w p c l k w := ⟨h, Turns.refl _ _⟩

theorem Aft.one (h : Arena w p c l k) : Aft w p c l (k + 1) (w.setCell ⟨p, 1, none⟩ (.int .i64 (k + 1))) :=
  ⟨h.count (k + 1) (by have := h.k0; omega), (Turns.refl _ _).setCell (.inl (by simp)) _⟩

theorem Aft.two (h : Arena w p c l k) (i : Nat) (v : Int) (hv : N64 v) : Aft w p c (l.set i v) (k + 1) ((w.setCell ⟨p, 1, none⟩ (.int .i64 (k + 1))).setCell ⟨c, i, none⟩ (.int .u64 v)) :=
  ⟨(Aft.one h).1.put i v hv, (Aft.one h).2.setCell (.inl (by simp)) _⟩

theorem load_any (i : Int) (h : Arena w p c l k) (hk : k < 9223372036854775807) :
    Calls Try.prog 22 #[.pointer (some ⟨p, 0, none⟩), .int .i64 i] w fun e w' => e = .returned (.int .u64 (getA l i)) ∧ Aft w p c l (moreA l i k) w' := by
  rcases hasA_cases l i with hi | ⟨n, rfl, hi⟩
  · rw [getA_out hi, moreA_out hi]
    exact (load_out i h hi).mono fun e w' ⟨he, hw⟩ => ⟨he, hw ▸ Aft.same h⟩
  · rw [moreA_nat hi]
    exact (load_in n h hi hk).mono fun e w' ⟨he, hw⟩ => ⟨he, hw ▸ Aft.one h⟩

theorem store_any (i v : Int) (hv : N64 v) (h : Arena w p c l k) (hk : k < 9223372036854775807) :
    Calls Try.prog 36 #[.pointer (some ⟨p, 0, none⟩), .int .i64 i, .int .u64 v] w fun e w' => e = .returned (.bool (hasA l i)) ∧ Aft w p c (setA l i v) (moreA l i k) w' := by
  rcases hasA_cases l i with hi | ⟨n, rfl, hi⟩
  · rw [setA_out hi, moreA_out hi, hi]
    exact (store_out i v h hi).mono fun e w' ⟨he, hw⟩ => ⟨he, hw ▸ Aft.same h⟩
  · rw [moreA_nat hi, setA_nat hi, hasA_yes hi]
    exact (store_in n v h hi hk).mono fun e w' ⟨he, hw⟩ => ⟨he, hw ▸ Aft.two h n v hv⟩

theorem swap_any (i v : Int) (hv : N64 v) (h : Arena w p c l k) (hk : k < 9223372036854775807) :
    Calls Try.prog 39 #[.pointer (some ⟨p, 0, none⟩), .int .i64 i, .int .u64 v] w fun e w' => e = .returned (.int .u64 (getA l i)) ∧ Aft w p c (setA l i v) (moreA l i k) w' := by
  rcases hasA_cases l i with hi | ⟨n, rfl, hi⟩
  · rw [setA_out hi, moreA_out hi, getA_out hi]
    exact (swap_out i v h hi).mono fun e w' ⟨he, hw⟩ => ⟨he, hw ▸ Aft.same h⟩
  · rw [moreA_nat hi, setA_nat hi]
    exact (swap_in n v h hi hk).mono fun e w' ⟨he, hw⟩ => ⟨he, hw ▸ Aft.two h n v hv⟩

theorem cas_any (i o v : Int) (hv : N64 v) (h : Arena w p c l k) (hk : k < 9223372036854775807) :
    Calls Try.prog 41 #[.pointer (some ⟨p, 0, none⟩), .int .i64 i, .int .u64 o, .int .u64 v] w fun e w' => e = .returned (.bool (casB l i o)) ∧ Aft w p c (casA l i o v) (moreA l i k) w' := by
  rcases hasA_cases l i with hi | ⟨n, rfl, hi⟩
  · have hb : casB l i o = false := by simp [casB, hi]
    rw [casA, moreA_out hi, hb]
    exact (cas_out i o v h hi).mono fun e w' ⟨he, hw⟩ => ⟨he, hw ▸ Aft.same h⟩
  · by_cases ho : getA l n = o
    · subst ho
      have hb : casB l n (getA l n) = true := by simp [casB, hasA_yes hi]
      rw [casA, hb, if_pos rfl, moreA_nat hi, setA_nat hi]
      exact (cas_hit n v h hi hk).mono fun e w' ⟨he, hw⟩ => ⟨he, hw ▸ Aft.two h n v hv⟩
    · have hb : casB l n o = false := by simp [casB, ho]
      rw [casA, moreA_nat hi, hb]
      exact (cas_miss n o v h hi hk ho).mono fun e w' ⟨he, hw⟩ => ⟨he, hw ▸ Aft.one h⟩

end

theorem info_parts {P : Program} {t : TypeId} {z : Value} {s b : Nat} (h : (P.info? t).map (fun i => (i.zero, i.size, i.bytes)) = some (some z, s, b)) :
    ∃ i, P.info? t = some i ∧ i.zero = some z ∧ i.size = s ∧ i.bytes = b := by
  obtain ⟨i, h1, h2⟩ := Option.map_eq_some_iff.1 h
  injection h2 with h3 h4
  injection h4 with h5 h6
  exact ⟨i, h1, h3, h5, h6⟩

theorem made_zero (n : Nat) : madeCells #[.int .u64 0] n = nums (List.replicate n 0) := by
  apply Array.ext
  · simp [madeCells, nums]
  · intro i h1 h2
    simp [madeCells, nums, Nat.mod_one]

theorem make_arena (n : Nat) (hn : n ≤ 1048576) (W : World) :
    (Instr.makeSlice 58 (.int .i64 (n : Int)) (.int .i64 (n : Int))).run Try.prog W = .ok (.slice (some ⟨W.heap.size, 0, none⟩) n n) (W.alloc (.cells (nums (List.replicate n 0)) 78)) := by
  obtain ⟨i, hi, hz, hs, hb⟩ := info_parts (P := Try.prog) (t := 78) (z := .agg #[.int .u64 0]) (s := 1) (b := 8) (by kernel_rfl)
  have hr := run_make (P := Try.prog) W 58 78 i _ Try.underlying58 hi hz .i64 .i64 n n (by omega) (by omega) (by rw [hb]; omega) (by omega)
  simp only [Int.toNat_natCast, hs, Nat.mul_one] at hr
  rw [hr, ← made_zero]
  rfl

theorem new_in (n : Nat) (w : World) (h1 : 1 ≤ n) (h2 : n ≤ 1048576) :
    Calls Try.prog 6 #[.int .i64 n] w
      fun e w' => e = .returned (.tuple #[.pointer (some ⟨w.heap.size + 1, 0, none⟩), .int .i64 0]) ∧ (w.alloc (.cells (nums (List.replicate n 0)) 78)).alloc (.cells #[.slice (some ⟨w.heap.size, 0, none⟩) n n, .int .i64 0] 65) = w' := by
  have hm := make_arena n h2
  go_enter Try.func6, Try.ntmps6
  go_wp2
  go_ret2
  exact ⟨by simp, rfl⟩

theorem new_out (n : Int) (w : World) (h : n < 1 ∨ 1 ≤ n ∧ 1048576 < n) :
    Calls Try.prog 6 #[.int .i64 n] w fun e w' => e = .returned (.tuple #[.pointer none, .int .i64 1]) ∧ w = w' := by
  rcases h with h | ⟨h0, h⟩
  · go_enter Try.func6, Try.ntmps6
    go_wp2
    go_ret2
    exact ⟨rfl, rfl⟩
  · have hn : ¬ n < 1 := by omega
    go_enter Try.func6, Try.ntmps6
    go_wp2
    go_ret2
    exact ⟨rfl, rfl⟩

/-- behind New: there is an arena, in new memory. -/
def Made (w : World) (n : Nat) (w' : World) : Prop := Arena w' (w.heap.size + 1) w.heap.size (List.replicate n 0) 0 ∧ Below w.heap.size w w' ∧ w'.heap.size = w.heap.size + 2

theorem new_any (n : Nat) (w : World) (h1 : 1 ≤ n) (h2 : n ≤ 1048576) :
    Calls Try.prog 6 #[.int .i64 n] w fun e w' => e = .returned (.tuple #[.pointer (some ⟨w.heap.size + 1, 0, none⟩), .int .i64 0]) ∧ Made w n w' := by
  refine (new_in n w h1 h2).mono ?_
  rintro e w' ⟨he, rfl⟩
  refine ⟨he, ⟨?_, ?_, by simpa using h1, by simpa using h2, ?_, by omega⟩, ?_, ?_⟩
  · have := Lies.new (w.alloc (.cells (nums (List.replicate n 0)) 78)) 65 #[.slice (some ⟨w.heap.size, 0, none⟩) n n, .int .i64 0]
    simpa using this
  · exact (Lies.new w _ _).alloc _
  · intro x hx
    rw [List.eq_of_mem_replicate hx]
    simp [N64]
  · exact ((Below.refl _ _).alloc (Nat.le_refl _) _).alloc (by simp) _
  · simp

end Go.Proofs.Ytbkopghghoolmaa
