/- Contracts of the five accesses, of Len and of Count. -/
import Derived.Test.YtbkopghghoolmaaC2
namespace Go.Proofs.Ytbkopghghoolmaa
open Go.RowKit

theorem getA_out {l : List Int} {i : Int} (h : hasA l i = false) : getA l i = 0 := by simp [getA, h]

theorem setA_out {l : List Int} {i : Int} (h : hasA l i = false) (v : Int) : setA l i v = l := by simp [setA, h]

theorem moreA_out {l : List Int} {i : Int} (h : hasA l i = false) (k : Int) : moreA l i k = k := by simp [moreA, h]

theorem moreA_nat {l : List Int} {i : Nat} (h : i < l.length) (k : Int) : moreA l i k = k + 1 := by simp [moreA, hasA_yes h]

theorem hasA_cases (l : List Int) (i : Int) : hasA l i = false ∨ ∃ n : Nat, i = n ∧ n < l.length := by
  by_cases h : hasA l i = true
  · rw [hasA_iff] at h
    exact .inr ⟨i.toNat, by omega, by omega⟩
  · exact .inl (by simpa using h)

theorem sum64_fit (x y : Int) : N64 (sum64 x y) := by
  rw [sum64_eq]
  exact ⟨Int.emod_nonneg _ (by omega), Int.emod_lt_of_pos _ (by omega)⟩

theorem sum64_back {x y : Int} (hx : N64 x) : (sum64 x y - y) % 18446744073709551616 = x := by
  obtain ⟨h0, h1⟩ := hx
  rw [sum64_eq]; omega

section
variable {p c : Nat} {l : List Int} {k : Int} {w : World}

theorem load_in (i : Nat) (h : Arena w p c l k) (hi : i < l.length) (hk : k < 9223372036854775807) :
    Calls Try.prog 22 #[.pointer (some ⟨p, 0, none⟩), .int .i64 i] w fun e w' => e = .returned (.int .u64 (getA l i)) ∧ w.setCell ⟨p, 1, none⟩ (.int .i64 (k + 1)) = w' := by
  have a1 := h.count (k + 1) (by have := h.k0; omega)
  have h0 := a1.head.cell 0
  have h1 := a1.body.cell i
  rw [nums_at hi] at h1
  simp at h0
  go_enter Try.func22, Try.ntmps22
  go_wp2_with fail
  refine (reach_in _ _ _ _ _ _ h hi hk).mono ?_
  rintro e w' ⟨rfl, rfl⟩
  go_wp2_with fail
  refine (aload _ _ _ _ (by simpa using h1)).mono ?_
  rintro e w' ⟨rfl, rfl⟩
  go_wp2
  go_ret
  exact ⟨rfl, rfl⟩

theorem store_in (i : Nat) (v : Int) (h : Arena w p c l k) (hi : i < l.length) (hk : k < 9223372036854775807) :
    Calls Try.prog 36 #[.pointer (some ⟨p, 0, none⟩), .int .i64 i, .int .u64 v] w fun e w' => e = .returned (.bool true) ∧ (w.setCell ⟨p, 1, none⟩ (.int .i64 (k + 1))).setCell ⟨c, i, none⟩ (.int .u64 v) = w' := by
  have a1 := h.count (k + 1) (by have := h.k0; omega)
  have h0 := a1.head.cell 0
  have h1 := a1.body.cell i
  have f1 := a1.body.frozen i
  rw [nums_at hi] at h1
  simp at h0
  go_enter Try.func36, Try.ntmps36
  go_wp2_with fail
  refine (reach_in _ _ _ _ _ _ h hi hk).mono ?_
  rintro e w' ⟨rfl, rfl⟩
  go_wp2_with fail
  refine (astore _ _ _ _ _ (by simpa using h1) (by simpa using f1)).mono ?_
  rintro e w' ⟨rfl, rfl⟩
  go_wp2
  go_ret
  exact ⟨rfl, rfl⟩

theorem swap_in (i : Nat) (v : Int) (h : Arena w p c l k) (hi : i < l.length) (hk : k < 9223372036854775807) :
    Calls Try.prog 39 #[.pointer (some ⟨p, 0, none⟩), .int .i64 i, .int .u64 v] w fun e w' => e = .returned (.int .u64 (getA l i)) ∧ (w.setCell ⟨p, 1, none⟩ (.int .i64 (k + 1))).setCell ⟨c, i, none⟩ (.int .u64 v) = w' := by
  have a1 := h.count (k + 1) (by have := h.k0; omega)
  have h0 := a1.head.cell 0
  have h1 := a1.body.cell i
  have f1 := a1.body.frozen i
  rw [nums_at hi] at h1
  simp at h0
  go_enter Try.func39, Try.ntmps39
  go_wp2_with fail
  refine (reach_in _ _ _ _ _ _ h hi hk).mono ?_
  rintro e w' ⟨rfl, rfl⟩
  go_wp2_with fail
  refine (aswap _ _ _ _ _ (by simpa using h1) (by simpa using f1)).mono ?_
  rintro e w' ⟨rfl, rfl⟩
  go_wp2
  go_ret
  exact ⟨rfl, rfl⟩

theorem cas_hit (i : Nat) (v : Int) (h : Arena w p c l k) (hi : i < l.length) (hk : k < 9223372036854775807) :
    Calls Try.prog 41 #[.pointer (some ⟨p, 0, none⟩), .int .i64 i, .int .u64 (getA l i), .int .u64 v] w fun e w' => e = .returned (.bool true) ∧ (w.setCell ⟨p, 1, none⟩ (.int .i64 (k + 1))).setCell ⟨c, i, none⟩ (.int .u64 v) = w' := by
  have a1 := h.count (k + 1) (by have := h.k0; omega)
  have h0 := a1.head.cell 0
  have h1 := a1.body.cell i
  have f1 := a1.body.frozen i
  rw [nums_at hi] at h1
  simp at h0
  go_enter Try.func41, Try.ntmps41
  go_wp2_with fail
  refine (reach_in _ _ _ _ _ _ h hi hk).mono ?_
  rintro e w' ⟨rfl, rfl⟩
  go_wp2_with fail
  refine (acas_hit _ _ _ _ _ (by simpa using h1) (by simpa using f1)).mono ?_
  rintro e w' ⟨rfl, rfl⟩
  go_wp2
  go_ret
  exact ⟨rfl, rfl⟩

theorem cas_miss (i : Nat) (o v : Int) (h : Arena w p c l k) (hi : i < l.length) (hk : k < 9223372036854775807) (hne : ¬ getA l i = o) :
    Calls Try.prog 41 #[.pointer (some ⟨p, 0, none⟩), .int .i64 i, .int .u64 o, .int .u64 v] w fun e w' => e = .returned (.bool false) ∧ w.setCell ⟨p, 1, none⟩ (.int .i64 (k + 1)) = w' := by
  have a1 := h.count (k + 1) (by have := h.k0; omega)
  have h0 := a1.head.cell 0
  have h1 := a1.body.cell i
  have f1 := a1.body.frozen i
  rw [nums_at hi] at h1
  simp at h0
  go_enter Try.func41, Try.ntmps41
  go_wp2_with fail
  refine (reach_in _ _ _ _ _ _ h hi hk).mono ?_
  rintro e w' ⟨rfl, rfl⟩
  go_wp2_with fail
  refine (acas_miss _ _ (getA l i) _ _ _ hne (by simpa using h1) (by simpa using f1)).mono ?_
  rintro e w' ⟨rfl, rfl⟩
  go_wp2
  go_ret
  exact ⟨rfl, rfl⟩

theorem load_out (i : Int) (h : Arena w p c l k) (hi : hasA l i = false) :
    Calls Try.prog 22 #[.pointer (some ⟨p, 0, none⟩), .int .i64 i] w fun e w' => e = .returned (.int .u64 0) ∧ w = w' := by
  have HI := Lib.hid hi
  clear hi
  go_enter Try.func22, Try.ntmps22
  go_wp2_with fail
  refine (reach_out _ _ _ _ _ _ h HI.out).mono ?_
  rintro e w' ⟨rfl, rfl⟩
  go_wp2
  go_ret
  exact ⟨rfl, rfl⟩

theorem store_out (i : Int) (v : Int) (h : Arena w p c l k) (hi : hasA l i = false) :
    Calls Try.prog 36 #[.pointer (some ⟨p, 0, none⟩), .int .i64 i, .int .u64 v] w fun e w' => e = .returned (.bool false) ∧ w = w' := by
  have HI := Lib.hid hi
  clear hi
  go_enter Try.func36, Try.ntmps36
  go_wp2_with fail
  refine (reach_out _ _ _ _ _ _ h HI.out).mono ?_
  rintro e w' ⟨rfl, rfl⟩
  go_wp2
  go_ret
  exact ⟨rfl, rfl⟩

theorem swap_out (i : Int) (v : Int) (h : Arena w p c l k) (hi : hasA l i = false) :
    Calls Try.prog 39 #[.pointer (some ⟨p, 0, none⟩), .int .i64 i, .int .u64 v] w fun e w' => e = .returned (.int .u64 0) ∧ w = w' := by
  have HI := Lib.hid hi
  clear hi
  go_enter Try.func39, Try.ntmps39
  go_wp2_with fail
  refine (reach_out _ _ _ _ _ _ h HI.out).mono ?_
  rintro e w' ⟨rfl, rfl⟩
  go_wp2
  go_ret
  exact ⟨rfl, rfl⟩

theorem cas_out (i : Int) (o v : Int) (h : Arena w p c l k) (hi : hasA l i = false) :
    Calls Try.prog 41 #[.pointer (some ⟨p, 0, none⟩), .int .i64 i, .int .u64 o, .int .u64 v] w fun e w' => e = .returned (.bool false) ∧ w = w' := by
  have HI := Lib.hid hi
  clear hi
  go_enter Try.func41, Try.ntmps41
  go_wp2_with fail
  refine (reach_out _ _ _ _ _ _ h HI.out).mono ?_
  rintro e w' ⟨rfl, rfl⟩
  go_wp2
  go_ret
  exact ⟨rfl, rfl⟩

theorem count_any (h : Arena w p c l k) :
    Calls Try.prog 10 #[.pointer (some ⟨p, 0, none⟩)] w fun e w' => e = .returned (.int .i64 k) ∧ w = w' := by
  have h1 := h.head.cell 1
  simp at h1
  go_enter Try.func10, Try.ntmps10
  go_wp2_with fail
  refine (iload _ _ k _ (by simpa using h1)).mono ?_
  rintro e w' ⟨rfl, rfl⟩
  go_wp2
  go_ret
  exact ⟨rfl, rfl⟩
end

end Go.Proofs.Ytbkopghghoolmaa
