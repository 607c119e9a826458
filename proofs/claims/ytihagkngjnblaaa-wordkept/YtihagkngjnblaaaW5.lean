/- The law: a part that is put stands there, and no other bit is turned. -/
import Derived.Test.YtihagkngjnblaaaW4
import Derived.Test.YtihagkngjnblaaaKept
namespace Go.Proofs.Ytihagkngjnblaaa
open Go.RowKit

set_option maxRecDepth 100000 in
set_option maxHeartbeats 1000000 in
theorem kept_law (v a b u x : Int) (w : World) (hv : U64 v) (ha : 0 ≤ a ∧ a ≤ 255) (hb : 0 ≤ b ∧ b ≤ 255) (hu : U64 u) (hx : U64 x) :
    Calls Try.prog 6 #[.int .u64 v, .int .u8 a, .int .u8 b, .int .u64 u, .int .u64 x] w fun e w' => e = .returned (.bool true) ∧ Below w.heap.size w w' := by
  obtain ⟨hv0, hv1⟩ := hv
  obtain ⟨hu0, hu1⟩ := hu
  obtain ⟨hx0, hx1⟩ := hx
  obtain ⟨ha0, ha1⟩ := ha
  obtain ⟨hb0, hb1⟩ := hb
  have s0 : 0 ≤ a % 64 := by omega
  have s1 : a % 64 ≤ 63 := by omega
  have n0 : 0 ≤ b % (64 - a % 64) := Int.emod_nonneg _ (by omega)
  have n1 : b % (64 - a % 64) < 64 - a % 64 := Int.emod_lt_of_pos _ (by omega)
  go_enter Try.func6, Try.ntmps6
  go_wp2_with fail
  refine (speaks_any _).mono ?_
  rintro e w1 ⟨rfl, hbel⟩
  have HB := Lib.hid hbel
  clear hbel
  go_wp2_with fail
  have q0 : 1 ≤ 1 + b % (64 - a % 64) := by omega
  have q1 : a % 64 + (1 + b % (64 - a % 64)) ≤ 64 := by omega
  clear n0 n1
  generalize 1 + b % (64 - a % 64) = n at *
  generalize a % 64 = s at *
  have hp : partB s n = true := partB_mk (by omega)
  have lV := getW_low u n (by omega) (by omega)
  obtain ⟨V0, V1⟩ := low_bd u n
  rw [← lV] at V0 V1
  clear lV
  have HE := Lib.hid (putE_ok s n (getW u 0 n) hp V1)
  obtain ⟨X0, X1⟩ := putW_bd v s n (getW u 0 n) hp hv0 hv1 V0 V1
  have F1 := Lib.hid (put_get v s n (getW u 0 n) hp V0 V1)
  have F2 := Lib.hid (get_all (putW v s n (getW u 0 n)) X0 X1)
  have F3 := Lib.hid (fun h g => put_low v s n (getW u 0 n) hp V0 V1 h g)
  have F4 := Lib.hid (fun r hr => put_high v s n (getW u 0 n) hp V0 V1 r hr)
  have F5 := Lib.hid (fun h g h0 h1 => put_swap v s n (getW u 0 n) hp V0 V1 (getW x 0 s) h g h0 h1)
  have pn := pw_le_64 n (by omega) (by omega)
  have HP := Lib.hid hp
  clear hp
  generalize hX : putW v s n (getW u 0 n) = X at *
  have HX := Lib.hid hX
  clear hX
  generalize hV : getW u 0 n = V at *
  have HV := Lib.hid hV
  clear hV
  rcases (by omega : s = 0 ∨ 1 ≤ s) with rfl | hs
  · clear F3 F5
    by_cases h64 : n < 64
    · have F4' := F4.out (64 - n) (partB_mk (by omega))
      rw [Int.zero_add] at F4'
      have F4' := Lib.hid F4'
      clear F4
      go_wp2_with fail
      refine (get_any _ _ _ _ (by omega) (by omega) (by omega)).mono ?_
      rintro e w2 ⟨rfl, m, rfl⟩
      rw [HV.out]
      go_wp2_with fail
      refine (put_any _ _ _ _ _ (by omega) (by omega) (by omega) (by omega) (by omega)).mono ?_
      rintro e w2 ⟨rfl, m, rfl⟩
      rw [HX.out, HE.out]
      go_wp2_with fail
      refine (get_any _ _ _ _ (by omega) (by omega) (by omega)).mono ?_
      rintro e w2 ⟨rfl, m, rfl⟩
      rw [F1.out]
      go_wp2_with fail
      refine (get_any _ _ _ _ (by omega) (by omega) (by omega)).mono ?_
      rintro e w2 ⟨rfl, m, rfl⟩
      rw [HV.out]
      go_wp2_with fail
      refine (get_any _ _ _ _ (by omega) (by omega) (by omega)).mono ?_
      rintro e w2 ⟨rfl, m, rfl⟩
      rw [F2.out]
      go_wp2_with fail
      refine (get_any _ _ _ _ (by omega) (by omega) (by omega)).mono ?_
      rintro e w2 ⟨rfl, m, rfl⟩
      rw [F4'.out]
      go_wp2_with fail
      refine (get_any _ _ _ _ (by omega) (by omega) (by omega)).mono ?_
      rintro e w2 ⟨rfl, m, rfl⟩
      go_wp2
      go_ret
      exact ⟨rfl, below_drewN HB.out _⟩
    · clear F4
      go_wp2_with fail
      refine (get_any _ _ _ _ (by omega) (by omega) (by omega)).mono ?_
      rintro e w2 ⟨rfl, m, rfl⟩
      rw [HV.out]
      go_wp2_with fail
      refine (put_any _ _ _ _ _ (by omega) (by omega) (by omega) (by omega) (by omega)).mono ?_
      rintro e w2 ⟨rfl, m, rfl⟩
      rw [HX.out, HE.out]
      go_wp2_with fail
      refine (get_any _ _ _ _ (by omega) (by omega) (by omega)).mono ?_
      rintro e w2 ⟨rfl, m, rfl⟩
      rw [F1.out]
      go_wp2_with fail
      refine (get_any _ _ _ _ (by omega) (by omega) (by omega)).mono ?_
      rintro e w2 ⟨rfl, m, rfl⟩
      rw [HV.out]
      go_wp2_with fail
      refine (get_any _ _ _ _ (by omega) (by omega) (by omega)).mono ?_
      rintro e w2 ⟨rfl, m, rfl⟩
      rw [F2.out]
      go_wp2
      go_ret
      exact ⟨rfl, below_drewN HB.out _⟩
  · obtain ⟨U0, U1⟩ := low_bd x s
    have lU := getW_low x s (by omega) (by omega)
    rw [← lU] at U0 U1
    clear lU
    have ps := pw_le_64 s (by omega) (by omega)
    have F3' := Lib.hid (F3.out hs (by omega))
    have F5' := Lib.hid (F5.out hs (by omega) U0 U1)
    have HF := Lib.hid (putE_ok 0 s (getW x 0 s) (part0 hs (by omega)) U1)
    obtain ⟨Z0, Z1⟩ := putW_bd v 0 s (getW x 0 s) (part0 hs (by omega)) hv0 hv1 U0 U1
    clear F3 F5
    generalize hZ : putW v 0 s (getW x 0 s) = Z at *
    have HZ := Lib.hid hZ
    clear hZ
    generalize hU : getW x 0 s = U at *
    have HU := Lib.hid hU
    clear hU
    have hs' : 0 < s := by omega
    have hsb : (s == 0) = false := beq_eq_false_iff_ne.2 (by omega)
    by_cases h64 : s + n < 64
    · have F4' := Lib.hid (F4.out (64 - s - n) (partB_mk (by omega)))
      clear F4
      go_wp2_with fail
      refine (get_any _ _ _ _ (by omega) (by omega) (by omega)).mono ?_
      rintro e w2 ⟨rfl, m, rfl⟩
      rw [HV.out]
      go_wp2_with fail
      refine (put_any _ _ _ _ _ (by omega) (by omega) (by omega) (by omega) (by omega)).mono ?_
      rintro e w2 ⟨rfl, m, rfl⟩
      rw [HX.out, HE.out]
      go_wp2_with fail
      refine (get_any _ _ _ _ (by omega) (by omega) (by omega)).mono ?_
      rintro e w2 ⟨rfl, m, rfl⟩
      rw [F1.out]
      go_wp2_with fail
      refine (get_any _ _ _ _ (by omega) (by omega) (by omega)).mono ?_
      rintro e w2 ⟨rfl, m, rfl⟩
      rw [HV.out]
      go_wp2_with fail
      refine (get_any _ _ _ _ (by omega) (by omega) (by omega)).mono ?_
      rintro e w2 ⟨rfl, m, rfl⟩
      rw [F2.out]
      go_wp2_with fail
      refine (get_any _ _ _ _ (by omega) (by omega) (by omega)).mono ?_
      rintro e w2 ⟨rfl, m, rfl⟩
      rw [F3'.out]
      go_wp2_with fail
      refine (get_any _ _ _ _ (by omega) (by omega) (by omega)).mono ?_
      rintro e w2 ⟨rfl, m, rfl⟩
      go_wp2_with fail
      refine (get_any _ _ _ _ (by omega) (by omega) (by omega)).mono ?_
      rintro e w2 ⟨rfl, m, rfl⟩
      rw [F4'.out]
      go_wp2_with fail
      refine (get_any _ _ _ _ (by omega) (by omega) (by omega)).mono ?_
      rintro e w2 ⟨rfl, m, rfl⟩
      go_wp2_with fail
      refine (get_any _ _ _ _ (by omega) (by omega) (by omega)).mono ?_
      rintro e w2 ⟨rfl, m, rfl⟩
      rw [HU.out]
      go_wp2_with fail
      refine (put_any _ _ _ _ _ (by omega) (by omega) (by omega) (by omega) (by omega)).mono ?_
      rintro e w2 ⟨rfl, m, rfl⟩
      rw [F5'.out, HF.out]
      go_wp2_with fail
      refine (get_any _ _ _ _ (by omega) (by omega) (by omega)).mono ?_
      rintro e w2 ⟨rfl, m, rfl⟩
      rw [HU.out]
      go_wp2_with fail
      refine (put_any _ _ _ _ _ (by omega) (by omega) (by omega) (by omega) (by omega)).mono ?_
      rintro e w2 ⟨rfl, m, rfl⟩
      rw [HZ.out, HF.out]
      go_wp2_with fail
      refine (get_any _ _ _ _ (by omega) (by omega) (by omega)).mono ?_
      rintro e w2 ⟨rfl, m, rfl⟩
      rw [HV.out]
      go_wp2_with fail
      refine (put_any _ _ _ _ _ (by omega) (by omega) (by omega) (by omega) (by omega)).mono ?_
      rintro e w2 ⟨rfl, m, rfl⟩
      rw [HE.out]
      go_wp2
      go_ret
      exact ⟨rfl, below_drewN HB.out _⟩
    · clear F4
      go_wp2_with fail
      refine (get_any _ _ _ _ (by omega) (by omega) (by omega)).mono ?_
      rintro e w2 ⟨rfl, m, rfl⟩
      rw [HV.out]
      go_wp2_with fail
      refine (put_any _ _ _ _ _ (by omega) (by omega) (by omega) (by omega) (by omega)).mono ?_
      rintro e w2 ⟨rfl, m, rfl⟩
      rw [HX.out, HE.out]
      go_wp2_with fail
      refine (get_any _ _ _ _ (by omega) (by omega) (by omega)).mono ?_
      rintro e w2 ⟨rfl, m, rfl⟩
      rw [F1.out]
      go_wp2_with fail
      refine (get_any _ _ _ _ (by omega) (by omega) (by omega)).mono ?_
      rintro e w2 ⟨rfl, m, rfl⟩
      rw [HV.out]
      go_wp2_with fail
      refine (get_any _ _ _ _ (by omega) (by omega) (by omega)).mono ?_
      rintro e w2 ⟨rfl, m, rfl⟩
      rw [F2.out]
      go_wp2_with fail
      refine (get_any _ _ _ _ (by omega) (by omega) (by omega)).mono ?_
      rintro e w2 ⟨rfl, m, rfl⟩
      rw [F3'.out]
      go_wp2_with fail
      refine (get_any _ _ _ _ (by omega) (by omega) (by omega)).mono ?_
      rintro e w2 ⟨rfl, m, rfl⟩
      go_wp2_with fail
      refine (get_any _ _ _ _ (by omega) (by omega) (by omega)).mono ?_
      rintro e w2 ⟨rfl, m, rfl⟩
      rw [HU.out]
      go_wp2_with fail
      refine (put_any _ _ _ _ _ (by omega) (by omega) (by omega) (by omega) (by omega)).mono ?_
      rintro e w2 ⟨rfl, m, rfl⟩
      rw [F5'.out, HF.out]
      go_wp2_with fail
      refine (get_any _ _ _ _ (by omega) (by omega) (by omega)).mono ?_
      rintro e w2 ⟨rfl, m, rfl⟩
      rw [HU.out]
      go_wp2_with fail
      refine (put_any _ _ _ _ _ (by omega) (by omega) (by omega) (by omega) (by omega)).mono ?_
      rintro e w2 ⟨rfl, m, rfl⟩
      rw [HZ.out, HF.out]
      go_wp2_with fail
      refine (get_any _ _ _ _ (by omega) (by omega) (by omega)).mono ?_
      rintro e w2 ⟨rfl, m, rfl⟩
      rw [HV.out]
      go_wp2_with fail
      refine (put_any _ _ _ _ _ (by omega) (by omega) (by omega) (by omega) (by omega)).mono ?_
      rintro e w2 ⟨rfl, m, rfl⟩
      rw [HE.out]
      go_wp2
      go_ret
      exact ⟨rfl, below_drewN HB.out _⟩

end Go.Proofs.Ytihagkngjnblaaa
