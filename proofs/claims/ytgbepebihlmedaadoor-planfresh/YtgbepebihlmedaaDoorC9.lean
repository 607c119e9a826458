/- Contracts: Of. -/
import Derived.Test.YtgbepebihlmedaaDoorC8
namespace Go.Proofs.YtgbepebihlmedaaDoor
open Go.RowKit

theorem of_out (A : Option Addr) (cp : Nat) (w : World) :
    Calls Tryd.prog 55 #[.slice A 0 cp] w fun e w' => e = .returned (.tuple #[.pointer none, .int .i64 1]) ∧ w = w' := by
  go_enter Tryd.func55, Tryd.ntmps55
  go_wp2_with fail
  refine (new_out _ _ (.inl (by omega))).mono ?_
  rintro e w' ⟨rfl, rfl⟩
  go_wp2
  go_ret2
  exact ⟨rfl, rfl⟩

/-- in the midst of laying numbers: the first m are laid. -/
def LaidAt (w : World) (xs : List Int) (m : Nat) (W : World) : Prop := Arena W (w.heap.size + 1) w.heap.size (front xs m) 0 ∧ Below w.heap.size w W

set_option maxHeartbeats 1000000 in
theorem of_in (A : Option Addr) (n cp : Nat) (xs : List Int) (w : World) (hr : Row w .u64 A n xs) (h1 : 1 ≤ n) (h2 : n ≤ 1048576) :
    Calls Tryd.prog 55 #[.slice A n cp] w fun e w' => e = .returned (.tuple #[.pointer (some ⟨w.heap.size + 1, 0, none⟩), .int .i64 0]) ∧ LaidAt w xs n w' := by
  obtain ⟨a, rfl, hab, hcell⟩ := hr.at_ (by omega)
  go_enter Tryd.func55, Tryd.ntmps55
  go_wp2_with fail
  refine (new_any n _ h1 h2).mono ?_
  rintro e w1 ⟨rfl, hm⟩
  have hat : LaidAt w xs 0 w1 := ⟨by rw [front_zero, hr.len]; exact hm.1, hm.2.1⟩
  clear hm
  go_wp2_with fail
  go_loopw [19] (fun i W => ∃ m : Nat, m ≤ n ∧ i = .int .i64 m ∧ LaidAt w xs m W) (fun i _ => n - (intOf i).toNat)
  case atStart => exact ⟨0, by omega, rfl, hat⟩
  case round =>
    clear hat
    obtain ⟨m, hmn, rfl, har, hb⟩ := hrel
    by_cases hlt : m < n
    · have hc := hcell m hlt
      rw [← hb.cell (by rw [add_block]; exact hab)] at hc
      have hfl := front_length xs m
      rw [hr.len] at hfl
      have h0 := har.head.cell 0
      have h3 := har.body.cell m
      have f3 := har.body.frozen m
      rw [nums_at (by omega)] at h3
      simp at h0
      rw [hfl] at h0
      have hx := hr.fit m
      have HX := Lib.hid (hr.getA m hlt)
      have HFL := Lib.hid hfl
      clear hfl
      generalize xs.getD m 0 = x at *
      go_wp2_with fail
      refine (astore _ _ _ _ _ (by simpa using h3) (by simpa using f3)).mono ?_
      rintro e w2 ⟨rfl, rfl⟩
      go_wp2
      go_roundw
      case rel =>
        refine ⟨m + 1, by omega, by go_num, ?_, ?_⟩
        · rw [← front_set xs m, ← HX.out]; exact har.put m x hx
        · exact hb.setCell (by simp) _
      case measure => simp [intOf]; omega
    · obtain rfl : m = n := by omega
      go_wp2
      go_ret2
      exact ⟨rfl, har, hb⟩

/-- behind Of: an arena of these numbers, in new memory. -/
def Given (w : World) (xs : List Int) (w' : World) : Prop := Arena w' (w.heap.size + 1) w.heap.size xs 0 ∧ Below w.heap.size w w'

theorem of_any (A : Option Addr) (n cp : Nat) (xs : List Int) (w : World) (hr : Row w .u64 A n xs) (h1 : 1 ≤ n) (h2 : n ≤ 1048576) :
    Calls Tryd.prog 55 #[.slice A n cp] w fun e w' => e = .returned (.tuple #[.pointer (some ⟨w.heap.size + 1, 0, none⟩), .int .i64 0]) ∧ Given w xs w' :=
  (of_in A n cp xs w hr h1 h2).mono fun e w' ⟨he, hl⟩ => ⟨he, by
    have := hl.1
    rw [← hr.len, front_all] at this
    exact ⟨this, hl.2⟩⟩

end Go.Proofs.YtgbepebihlmedaaDoor
