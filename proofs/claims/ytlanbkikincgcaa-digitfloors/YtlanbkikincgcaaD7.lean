/- The walk of the law: a time is made of its digits. -/
import Derived.Test.YtlanbkikincgcaaD6
namespace Go.Proofs.Ytlanbkikincgcaa
open Go.RowKit

set_option maxHeartbeats 2000000 in
theorem floors_law (t l b : Int) (w : World) (ht : 0 ≤ t ∧ t < 4294967296) (hl : 0 ≤ l ∧ l < 256) (hb : 0 ≤ b ∧ b < 256) :
    Calls Try.prog 6 #[.int .u32 t, .int .u8 l, .int .u8 b] w fun e w' => e = .returned (.bool true) ∧ Below w.heap.size w w' := by
  obtain ⟨P, hf⟩ := floors_of (t := t) (L := l % 9) (n := 1 + b % 6) ht.1 (by omega) (by omega) (by omega) (by omega) (by omega)
  obtain ⟨n0, n1⟩ : 1 ≤ 1 + b % 6 ∧ 1 + b % 6 ≤ 6 := by omega
  obtain ⟨L0, L1⟩ : 0 ≤ l % 9 ∧ l % 9 ≤ 8 := by omega
  obtain ⟨t0, t1⟩ := ht
  go_enter Try.func6, Try.ntmps6
  go_wp2_with fail
  refine (speaks5_any _).mono ?_
  rintro e w1 ⟨rfl, k1⟩
  have hq : 0 ≤ 32 / (1 + b % 6) ∧ 32 / (1 + b % 6) ≤ 32 := ⟨Int.ediv_nonneg (by omega) (by omega), Int.ediv_le_self _ (by omega)⟩
  go_wp2_with fail
  generalize 1 + b % 6 = n at *
  generalize hqe : 32 / n = q at *
  have HQ := Lib.hid hqe
  clear hqe
  go_loopw [8, 21] (fun s i W => ∃ (k : Nat) (z : Int), (k : Int) ≤ q ∧ i = .int .i64 k ∧ s = .int .i64 z ∧ Hid (P k z) ∧ Keeps w W) (fun _ i _ => (q - intOf i).toNat)
  case atStart => exact ⟨0, 0, by omega, rfl, rfl, hf.zero, k1⟩
  case round =>
    obtain ⟨k, z, hk, rfl, rfl, hP, hK⟩ := hrel
    by_cases hlt : (k : Int) < q
    · by_cases hL : (k : Int) < l % 9
      · go_wp2
        go_round
        case rel => exact ⟨k + 1, z, by omega, by simp, rfl, hf.skip k z hP.out hL, hK⟩
        case measure => simp [intOf]; omega
      · have hz := hf.in_ k z hP.out
        have hm : 0 ≤ (k : Int) * n ∧ (k : Int) * n ≤ 192 := ⟨Int.mul_nonneg (by omega) (by omega), by have : (k : Int) * n ≤ 32 * n := Int.mul_le_mul_of_nonneg_right (by omega) (by omega); omega⟩
        have hd := dig_in t k n
        have hmo := Lib.hid (hf.more k z hP.out (by omega) (by omega))
        go_wp2_with fail
        refine (digit_k _ _ _ _).mono ?_
        rintro e w2 ⟨rfl, k2⟩
        go_wp2
        go_round
        case rel => exact ⟨k + 1, _, by omega, by simp, rfl, hmo, hK.trans k2⟩
        case measure => simp [intOf]; omega
    · obtain rfl : q = k := by omega
      go_wp2_with fail
      rw [HQ.out]
      rename_i hK0
      go_loopw [8, 11] (fun s i W => ∃ (j : Nat) (z : Int), j ≤ 33 ∧ i = .int .i64 j ∧ s = .int .i64 z ∧ Hid (P j z) ∧ Keeps w W) (fun _ i _ => (33 - intOf i).toNat)
      case atStart => exact ⟨k, z, by omega, rfl, rfl, hP, hK⟩
      case round =>
        clear hP hK
        obtain ⟨j, y, hj, rfl, rfl, hP, hK⟩ := hrel
        by_cases hlt : (j : Int) < 33
        · have hz := hf.in_ j y hP.out
          by_cases hL : l % 9 ≤ (j : Int)
          · have hm : 0 ≤ (j : Int) * n ∧ (j : Int) * n ≤ 192 := ⟨Int.mul_nonneg (by omega) (by omega), by have : (j : Int) * n ≤ 32 * n := Int.mul_le_mul_of_nonneg_right (by omega) (by omega); omega⟩
            have hd := dig_in t j n
            have hmo := Lib.hid (hf.more j y hP.out (by omega) (by omega))
            go_wp2_with fail
            refine (digit_k _ _ _ _).mono ?_
            rintro e w2 ⟨rfl, k2⟩
            go_wp2
            go_round
            case rel => exact ⟨j + 1, _, by omega, by simp, rfl, hmo, hK.trans k2⟩
            case measure => simp [intOf]; omega
          · go_wp2
            go_round
            case rel => exact ⟨j + 1, y, by omega, by simp, rfl, hf.skip j y hP.out (by omega), hK⟩
            case measure => simp [intOf]; omega
        · obtain rfl : j = 33 := by omega
          have he := hf.fin y hP.out
          have hag := Lib.hid hf.again
          have hr := hf.rest
          have h0 := hf.f0
          have h1 := hf.f1
          have hm : 0 ≤ (l % 9) * n ∧ (l % 9) * n ≤ 48 := ⟨Int.mul_nonneg (by omega) (by omega), by have : (l % 9) * n ≤ 8 * n := Int.mul_le_mul_of_nonneg_right (by omega) (by omega); omega⟩
          have hp : (2 : Int) ^ ((l % 9) * n).toNat ≤ 2 ^ 48 := by
            have : (2 : Nat) ^ ((l % 9) * n).toNat ≤ 2 ^ 48 := Nat.pow_le_pow_right (by decide) (by omega)
            exact_mod_cast this
          rw [show (2 : Int) ^ 48 = 281474976710656 by decide] at hp
          have c1 := fun v => floor_any t (l % 9) n v
          have c2 := fun v => floor_any y (l % 9) n v
          rw [he] at c1 hag hr h0 h1
          rw [hag.out] at c2
          clear hag he hf hP
          have p0 : (0 : Int) ≤ 2 ^ ((l % 9) * n).toNat := Int.pow_nonneg (by decide)
          go_wp2_with fail
          generalize (2 : Int) ^ ((l % 9) * n).toNat = O at *
          refine (c1 _).mono ?_
          rintro e w2 ⟨rfl, rfl⟩
          go_wp2_with fail
          refine (c2 _).mono ?_
          rintro e w2 ⟨rfl, rfl⟩
          go_wp2
          go_ret
          exact ⟨ret_bool (by simp), hK⟩
end Go.Proofs.Ytlanbkikincgcaa
