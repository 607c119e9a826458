/- The library's count of bits. -/
import Derived.Test.YtakpalnhjmkkeaaDoorB4
namespace Go.Proofs.YtakpalnhjmkkeaaDoor
open Go.RowKit

theorem mk_low {c n : Nat} : mk c n < 18446744073709551616 ∨ 8 < n ∨ 255 < c := by
  by_cases h : 8 < n
  · exact .inr (.inl h)
  · by_cases h2 : 255 < c
    · exact .inr (.inr h2)
    · left
      have : ∀ n, mk c n + 1 ≤ 256 ^ n := by
        intro n
        induction n with
        | zero => simp [mk]
        | succ n ih => rw [mk_succ, Nat.pow_succ]; omega
      have h3 : 256 ^ n ≤ 256 ^ 8 := Nat.pow_le_pow_right (by decide) (by omega)
      have h4 : (256 : Nat) ^ 8 = 18446744073709551616 := by decide
      have := this n
      omega
theorem wrap_and2 {x y m : Nat} (hx : x < 18446744073709551616) (hy : y < 18446744073709551616) (hm : m < 18446744073709551616) (h : (y &&& m) + (x &&& m) < 18446744073709551616) :
    IntKind.u64.wrap (bits .and .u64 (y : Int) (m : Int) + bits .and .u64 (x : Int) (m : Int)) = (((y &&& m) + (x &&& m) : Nat) : Int) := by
  rw [and_nat hy hm, and_nat hx hm, ← Int.natCast_add, wrap_nat h]
theorem e1 {x : Nat} (hx : x < 18446744073709551616) : IntKind.u64.wrap (bits .and .u64 ((x : Int) / 2) 6148914691236517205 + bits .and .u64 (x : Int) 6148914691236517205) = (F1 8 x : Nat) ∧ F1 8 x < 18446744073709551616 := by
  have h := F1_le 8 x
  have h2 : mk 255 8 = 18446744073709551615 := by decide
  have h3 : mk 85 8 = 6148914691236517205 := by decide
  rw [h2] at h
  refine ⟨?_, by omega⟩
  unfold F1 at h ⊢
  rw [h3] at h ⊢
  exact wrap_and2 (y := x / 2) (m := 6148914691236517205) hx (by omega) (by decide) (Nat.lt_of_le_of_lt h (by decide))
theorem e2 {x y : Nat} (hy : y < 18446744073709551616) (e : F1 8 x = y) : IntKind.u64.wrap (bits .and .u64 ((y : Int) / 4) 3689348814741910323 + bits .and .u64 (y : Int) 3689348814741910323) = (F12 8 x : Nat) ∧ F12 8 x ≤ 4919131752989213764 := by
  have h := F12_le 8 x
  have h2 : mk 68 8 = 4919131752989213764 := by decide
  have h3 : mk 51 8 = 3689348814741910323 := by decide
  rw [h2] at h
  refine ⟨?_, h⟩
  unfold F12 F2 at h ⊢
  rw [h3, e] at h ⊢
  exact wrap_and2 (y := y / 4) (m := 3689348814741910323) hy (by omega) (by decide) (Nat.lt_of_le_of_lt h (by decide))
theorem e3 {x y : Nat} (hy : y ≤ 4919131752989213764) (e : F12 8 x = y) : bits .and .u64 ((y : Int) / 16 + (y : Int)) 1085102592571150095 = (F123 8 x : Nat) ∧ F123 8 x < 18446744073709551616 := by
  have h3 : mk 15 8 = 1085102592571150095 := by decide
  unfold F123 F3
  rw [h3, e]
  have e1 : (y : Int) / 16 + (y : Int) = ((y / 16 + y : Nat) : Int) := by omega
  rw [e1]
  exact ⟨and_nat (by omega) (by decide), and_lt (by omega) _⟩

theorem low7 {c : Nat} (h : c < 9223372036854775808) : bits .and .i64 (c : Int) 127 = ((c % 128 : Nat) : Int) := by
  show IntKind.i64.wrap ((BitVec.ofInt 64 (c : Int) &&& BitVec.ofInt 64 ((127 : Nat) : Int)).toNat : Int) = _
  rw [BitVec.toNat_and, ofInt_u64 c (by omega), ofInt_u64 127 (by decide), IntKind.wrap_i64]
  have : c &&& 127 = c % 128 := Nat.and_two_pow_sub_one_eq_mod c 7
  rw [this]
  omega
set_option maxHeartbeats 1000000 in
theorem ones_any {x : Nat} (hx : x < 18446744073709551616) (w : World) :
    Calls Tryd.prog 28 #[.int .u64 x] w fun e w' => e = .returned (.int .i64 (cnt x : Nat)) ∧ w' = w := by
  obtain ⟨q1, l1⟩ := e1 hx
  obtain ⟨q2, l2⟩ := e2 l1 rfl
  obtain ⟨q3, l3⟩ := e3 l2 rfl
  obtain ⟨a, b, c, ha, la, hb, lb, hc, lc, hcnt⟩ := ones_is x
  generalize F1 8 x = x1 at *
  generalize F12 8 x = x2 at *
  generalize F123 8 x = x3 at *
  generalize cnt x = n at *
  have Q1 := Lib.hid q1
  have Q2 := Lib.hid q2
  have Q3 := Lib.hid q3
  have Q4 := Lib.hid (show IntKind.u64.wrap ((x3 : Int) + (x3 : Int) / 256) = (a : Nat) by rw [IntKind.wrap_u64]; omega)
  have Q5 := Lib.hid (show IntKind.u64.wrap ((a : Int) + (a : Int) / 65536) = (b : Nat) by rw [IntKind.wrap_u64]; omega)
  have Q6 := Lib.hid (show IntKind.u64.wrap ((b : Int) + (b : Int) / 4294967296) = (c : Nat) by rw [IntKind.wrap_u64]; omega)
  clear q1 q2 q3 ha hb hc
  go_enter Tryd.func28, Tryd.ntmps28
  go_upto_region 2 with (fail)
  rw [Q1.out]
  go_upto_region 3 with (fail)
  rw [Q2.out]
  go_upto_region 4 with (fail)
  rw [Q3.out]
  go_upto_region 5 with (fail)
  rw [Q4.out]
  go_upto_region 6 with (fail)
  rw [Q5.out]
  go_upto_region 7 with (fail)
  rw [Q6.out]
  go_wp2
  go_ret
  exact ⟨ret_int (by rw [low7 lc, hcnt]), rfl⟩

theorem count_any {s : Nat} (hs : s < 18446744073709551616) (w : World) :
    Calls Tryd.prog 18 #[.int .u64 s] w fun e w' => e = .returned (.int .i64 (cnt s : Nat)) ∧ w' = w := by
  have c1 := fun v => ones_any hs v
  generalize cnt s = n at *
  go_enter Tryd.func18, Tryd.ntmps18
  go_wp2_with fail
  refine (c1 _).mono ?_
  rintro e w1 ⟨rfl, rfl⟩
  go_wp2
  go_ret
  exact ⟨rfl, rfl⟩

end Go.Proofs.YtakpalnhjmkkeaaDoor
