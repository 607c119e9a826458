/- What the machine's and, and-not and or come to at parts of words: by dividing and multiplying. -/
import Derived.Test.YtgbepebihlmedaaDoorMath
import Derived.Laws.BitsAllLaws
namespace Go.Proofs.YtgbepebihlmedaaDoor

theorem pw_toNat (t : Int) : (pw t).toNat = 2 ^ t.toNat := by
  have : pw t = ((2 ^ t.toNat : Nat) : Int) := by simp [pw]
  rw [this, Int.toNat_natCast]

theorem and_mask (x t : Int) (h0 : 0 ≤ x) (h1 : x < 18446744073709551616) (t0 : 1 ≤ t) (t1 : t ≤ 64) :
    bits .and .u64 x (pw t - 1) = x % pw t := by
  have p0 := pw_pos t
  have p1 := pw_le_64 t (by omega) t1
  rw [u64_and x _ h0 h1 (by omega) (by omega)]
  have e : (pw t - 1).toNat = 2 ^ t.toNat - 1 := by have := pw_toNat t; omega
  rw [e, Nat.and_two_pow_sub_one_eq_mod]
  obtain ⟨X, rfl⟩ := Int.eq_ofNat_of_zero_le h0
  simp [pw]

theorem get_bits (v s t : Int) (hp : partB s t = true) (h0 : 0 ≤ v) (hv : v < 18446744073709551616) :
    bits .and .u64 (v / 2 ^ s.toNat) (pw t - 1) = getW v s t := by
  obtain ⟨q0, q1, q2⟩ := partB_yes hp
  have p0 := pw_pos s
  have d0 : 0 ≤ v / pw s := Int.ediv_nonneg h0 (by omega)
  have d1 : v / pw s ≤ v := Int.ediv_le_self _ h0
  show bits .and .u64 (v / pw s) (pw t - 1) = _
  rw [and_mask _ t d0 (by omega) q1 (by omega)]
  simp [getW, hp]

theorem wrap_u64_fit (x : Int) (h0 : 0 ≤ x) (h : x < 18446744073709551616) : IntKind.u64.wrap x = x := by
  rw [IntKind.wrap_u64]; omega

theorem mask_fits (s t : Int) (hp : partB s t = true) : 0 ≤ (pw t - 1) * pw s ∧ (pw t - 1) * pw s < 18446744073709551616 := by
  obtain ⟨q0, q1, q2⟩ := partB_yes hp
  have p0 := pw_pos s
  have p1 := pw_pos t
  have h : pw t * pw s ≤ 18446744073709551616 := by
    rw [← pw_add t s (by omega) q0]; exact pw_le_64 _ (by omega) (by omega)
  have e : (pw t - 1) * pw s = pw t * pw s - pw s := by rw [Int.sub_mul]; omega
  have n : 0 ≤ (pw t - 1) * pw s := Int.mul_nonneg (by omega) (by omega)
  omega

theorem put_bits (v s t u : Int) (hp : partB s t = true) (h0 : 0 ≤ v) (hv : v < 18446744073709551616) (u0 : 0 ≤ u) (hu : u < pw t) :
    bits .or .u64 (bits .andNot .u64 v (IntKind.u64.wrap ((pw t - 1) * 2 ^ s.toNat))) (IntKind.u64.wrap (u * 2 ^ s.toNat)) = putW v s t u := by
  obtain ⟨q0, q1, q2⟩ := partB_yes hp
  obtain ⟨m0, m1⟩ := mask_fits s t hp
  obtain ⟨_, f2, f3, f4, f5, _, _⟩ := put_fits v s t u hp h0 hv u0 hu
  show bits .or .u64 (bits .andNot .u64 v (IntKind.u64.wrap ((pw t - 1) * pw s))) (IntKind.u64.wrap (u * pw s)) = _
  rw [wrap_u64_fit _ m0 m1, wrap_u64_fit _ f3 f4, u64_andNot v _ h0 hv m0 m1]
  obtain ⟨V, rfl⟩ := Int.eq_ofNat_of_zero_le h0
  obtain ⟨U, rfl⟩ := Int.eq_ofNat_of_zero_le u0
  obtain ⟨S, rfl⟩ := Int.eq_ofNat_of_zero_le q0
  obtain ⟨T, rfl⟩ := Int.eq_ofNat_of_zero_le (show 0 ≤ t by omega)
  have eM : ((pw T - 1) * pw S).toNat = (2 ^ T - 1) * 2 ^ S := by
    have a : pw (T : Int) - 1 = ((2 ^ T - 1 : Nat) : Int) := by
      have := Nat.two_pow_pos T
      rw [pw_nat]; push_cast [Int.natCast_sub (show 1 ≤ 2 ^ T by omega)]; rfl
    rw [a, pw_nat]
    have b : ((2 ^ T - 1 : Nat) : Int) * 2 ^ S = (((2 ^ T - 1) * 2 ^ S : Nat) : Int) := by push_cast; rfl
    rw [b, Int.toNat_natCast]
  have hV : V < 2 ^ 64 := by omega
  have hU : U < 2 ^ T := by rw [pw_nat] at hu; exact_mod_cast hu
  have hST : S + T ≤ 64 := by omega
  rw [eM, Int.toNat_natCast, show (18446744073709551615 : Nat) = 2 ^ 64 - 1 by rfl, nat_andNot V S T hST hV]
  have hlo : V % 2 ^ S < 2 ^ S := Nat.mod_lt _ (Nat.two_pow_pos _)
  have hsub := nat_sub V S T
  have hle : 2 ^ S * (2 ^ T * (V / 2 ^ S / 2 ^ T) + 0) + V % 2 ^ S < 18446744073709551616 := by rw [hsub]; omega
  rw [u64_or _ _ (by omega) (by omega) f3 f4]
  have eU : ((U : Int) * pw S).toNat = U * 2 ^ S := by
    have b : (U : Int) * pw S = ((U * 2 ^ S : Nat) : Int) := by rw [pw_nat]; push_cast; rfl
    rw [b, Int.toNat_natCast]
  rw [eU, Int.toNat_natCast, nat_or _ _ S T U hU hlo]
  simp only [putW, hp, if_true]
  have hu' : (U : Int) < pw T := hu
  rw [if_pos hu', pw_nat, pw_nat]
  have h1 : 2 ^ S * (2 ^ T * (V / 2 ^ S / 2 ^ T) + U) + V % 2 ^ S = (V - V / 2 ^ S % 2 ^ T * 2 ^ S) + U * 2 ^ S := by
    rw [← hsub, Nat.mul_add, Nat.mul_add, Nat.mul_comm (2 ^ S) U]; omega
  rw [h1]
  have h2 : V / 2 ^ S % 2 ^ T * 2 ^ S ≤ V := by
    have := nat_cut V S T
    rw [Nat.mul_add, Nat.mul_comm (2 ^ S) (V / 2 ^ S % 2 ^ T)] at this; omega
  push_cast [Int.natCast_sub h2]
  rfl

end Go.Proofs.YtgbepebihlmedaaDoor
