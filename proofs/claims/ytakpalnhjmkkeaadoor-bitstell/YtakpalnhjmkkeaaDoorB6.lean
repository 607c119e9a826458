/- Of, and the example. -/
import Derived.Test.YtakpalnhjmkkeaaDoorB5
import Derived.Test.YtakpalnhjmkkeaaDoorArgR
import Derived.Test.YtakpalnhjmkkeaaDoorIRow
namespace Go.Proofs.YtakpalnhjmkkeaaDoor
open Go.RowKit

/-- all that lay in the world's memory lies there still. -/
def Keeps (a w : World) : Prop := Below a.heap.size a w
theorem Keeps.refl (a : World) : Keeps a a := Below.refl _ _
theorem Keeps.trans {a b c : World} (h : Keeps a b) (k : Keeps b c) : Keeps a c := Below.trans h (k.mono h.size)
theorem Keeps.drewN {a w : World} (h : Keeps a w) (n : Nat) : Keeps a (w.drewN n) := ⟨h.os, h.tape, h.output, h.size, h.block⟩
theorem Tab.keep {w w' : World} (h : Tab w) (k : Keeps w w') : Tab w' :=
  ⟨Nat.lt_of_lt_of_le h.size k.size, fun j hj => (k.cell (p := ⟨0, j, none⟩) h.size).trans (h.cell j hj)⟩

/-- the set of the first numbers of a list. -/
def ofTo (xs : List Int) (m : Nat) : Nat := (xs.take m).foldl wi 0
theorem ofTo_succ (xs : List Int) (m : Nat) (h : m < xs.length) : ofTo xs (m + 1) = wi (ofTo xs m) (xs.getD m 0) := by
  unfold ofTo
  rw [List.take_succ_eq_append_getElem h, List.foldl_append]
  simp [List.getD, h]
theorem fold_lt : ∀ (xs : List Int) (s : Nat), s < 18446744073709551616 → xs.foldl wi s < 18446744073709551616
  | [], _, h => h
  | x :: xs, _, h => fold_lt xs _ (wi_lt h x)
theorem ofTo_lt (xs : List Int) (m : Nat) : ofTo xs m < 18446744073709551616 := fold_lt _ _ (by decide)

theorem of_any (A : Option Addr) (n cp : Nat) (xs : List Int) (w : World) (hr : Row w .i64 A n xs) :
    Calls Tryd.prog 22 #[.slice A n cp] w fun e w' => e = .returned (.int .u64 (ofTo xs n : Nat)) ∧ w' = w := by
  have hmx := hr.most
  unfold maxLen at hmx
  have hln := hr.len
  go_enter Tryd.func22, Tryd.ntmps22
  go_wp2_with fail
  go_loop [3, 8] (fun s i => ∃ m : Nat, m ≤ n ∧ i = .int .i64 m ∧ s = .int .u64 (ofTo xs m : Nat)) (fun _ i => n - (intOf i).toNat)
  case atStart => exact ⟨0, by omega, rfl, rfl⟩
  case round =>
    obtain ⟨m, hmn, rfl, rfl⟩ := hrel
    by_cases hlt : m < n
    · obtain ⟨a, rfl, hab, hcell⟩ := hr.at_ (by omega)
      have hc := hcell m hlt
      have HS := Lib.hid (ofTo_succ xs m (by omega))
      have c1 := fun v => with_any (ofTo_lt xs m) (xs.getD m 0) v
      clear hcell
      generalize xs.getD m 0 = y at *
      generalize ofTo xs m = s at *
      generalize wi s y = z at *
      go_wp2_with fail
      refine (c1 _).mono ?_
      rintro e w1 ⟨rfl, rfl⟩
      go_wp2
      go_round
      case rel => exact ⟨m + 1, by omega, by go_num, by rw [HS.out]⟩
      case measure => simp [intOf]; omega
    · obtain rfl : m = n := by omega
      go_wp2
      go_ret
      exact ⟨rfl, rfl⟩

theorem speaks6_any (w : World) (hT : Tab w) :
    Calls Tryd.prog 4 #[] w fun e w' => e = .returned (.bool true) ∧ Keeps w w' := by
  have c2 := fun v hv => next_any (s := 40) (by decide) 4 v hv
  rw [show nx 40 4 = 5 by decide] at c2
  go_enter Tryd.func4, Tryd.ntmps4
  go_wp2_with fail
  have hk : Keeps w (w.alloc (.cells #[.int .i64 3, .int .i64 5, .int .i64 70] 3)) := (Below.refl _ _).alloc (Nat.le_refl _) _
  have hL := IRow.lit w (B := w.heap.size) [3, 5, 70] #[.int .i64 3, .int .i64 5, .int .i64 70] rfl (Nat.le_refl _) (Ints.cons (by decide) (Ints.cons (by decide) (Ints.one (by decide)))) (by simp)
  obtain ⟨A, cp, e, hr⟩ := hL.row
  injection e with e1 e2 e3
  subst e1
  have hr : Row (w.alloc (.cells #[.int .i64 3, .int .i64 5, .int .i64 70] 3)) .i64 (some ⟨w.heap.size, 0, none⟩) 3 [3, 5, 70] := hr
  have c1 := fun cp => of_any _ 3 cp _ _ hr
  generalize w.alloc (.cells #[.int .i64 3, .int .i64 5, .int .i64 70] 3) = w1 at *
  rw [show ofTo [3, 5, 70] 3 = 40 by decide] at c1
  refine (c1 _).mono ?_
  rintro e w1 ⟨rfl, rfl⟩
  go_wp2_with fail
  refine (c2 _ (hT.keep hk)).mono ?_
  rintro e w1 ⟨rfl, rfl⟩
  go_wp2
  go_ret
  exact ⟨rfl, hk⟩

end Go.Proofs.YtakpalnhjmkkeaaDoor
