/- Plain facts: a part that is put stands there, and the rest is as it was. -/
import Derived.Test.YtgbepebihlmedaaDoorMath
namespace Go.Proofs.YtgbepebihlmedaaDoor

theorem cut3 (A N q m lo : Int) (hA : 1 ≤ A) (hN : 1 ≤ N) (l0 : 0 ≤ lo) (l1 : lo < A) (m0 : 0 ≤ m) (m1 : m < N) :
    (A * (N * q + m) + lo) / A = N * q + m ∧ (A * (N * q + m) + lo) % A = lo ∧ (A * (N * q + m) + lo) / A / N = q ∧ (A * (N * q + m) + lo) / A % N = m := by
  have h1 : (A * (N * q + m) + lo) / A = N * q + m := by
    rw [Int.add_comm, Int.add_mul_ediv_left _ _ (by omega), Int.ediv_eq_zero_of_lt l0 l1]; omega
  refine ⟨h1, ?_, ?_, ?_⟩
  · rw [Int.add_comm, Int.add_mul_emod_self_left]; exact Int.emod_eq_of_lt l0 l1
  · rw [h1, Int.add_comm, Int.add_mul_ediv_left _ _ (by omega), Int.ediv_eq_zero_of_lt m0 m1]; omega
  · rw [h1, Int.add_comm, Int.add_mul_emod_self_left]; exact Int.emod_eq_of_lt m0 m1

theorem putW_eq (w s t v : Int) (hp : partB s t = true) (hv : v < pw t) :
    putW w s t v = pw s * (pw t * (w / pw s / pw t) + v) + w % pw s := by
  simp only [putW, hp, hv, if_true]
  have e1 : pw s * (w / pw s) + w % pw s = w := Int.mul_ediv_add_emod w (pw s)
  have e2 : pw t * (w / pw s / pw t) + w / pw s % pw t = w / pw s := Int.mul_ediv_add_emod (w / pw s) (pw t)
  generalize w / pw s / pw t = q at *
  generalize w / pw s % pw t = m at *
  generalize w % pw s = r at *
  rw [← e2] at e1
  rw [Int.mul_add] at e1 ⊢
  rw [Int.mul_comm m (pw s), Int.mul_comm v (pw s)]
  omega

theorem part0 {t : Int} (h : 1 ≤ t) (g : t ≤ 64) : partB 0 t = true := partB_mk (by omega)
theorem getW_low (w t : Int) (h : 1 ≤ t) (g : t ≤ 64) : getW w 0 t = w % pw t := by
  simp [getW, part0 h g, pw_zero]
theorem getW_at (w s t : Int) (hp : partB s t = true) : getW w s t = w / pw s % pw t := by simp [getW, hp]

theorem low_bd (v t : Int) : 0 ≤ v % pw t ∧ v % pw t < pw t := by
  have p := pw_pos t
  exact ⟨Int.emod_nonneg _ (by omega), Int.emod_lt_of_pos _ (by omega)⟩

theorem putW_bd (w s t v : Int) (hp : partB s t = true) (h0 : 0 ≤ w) (h1 : w < 18446744073709551616) (v0 : 0 ≤ v) (hv : v < pw t) :
    0 ≤ putW w s t v ∧ putW w s t v < 18446744073709551616 := by
  obtain ⟨_, _, f3, _, f5, f6, _⟩ := put_fits w s t v hp h0 h1 v0 hv
  simp only [putW, hp, hv, if_true]
  omega

theorem put_get (w s t v : Int) (hp : partB s t = true) (v0 : 0 ≤ v) (hv : v < pw t) : getW (putW w s t v) s t = v := by
  rw [getW_at _ _ _ hp, putW_eq w s t v hp hv]
  obtain ⟨l0, l1⟩ := low_bd w s
  exact (cut3 _ _ _ _ _ (pw_pos s) (pw_pos t) l0 l1 v0 hv).2.2.2
theorem put_low (w s t v : Int) (hp : partB s t = true) (v0 : 0 ≤ v) (hv : v < pw t) (h : 1 ≤ s) (g : s ≤ 64) : getW (putW w s t v) 0 s = getW w 0 s := by
  rw [getW_low _ _ h g, getW_low _ _ h g, putW_eq w s t v hp hv]
  obtain ⟨l0, l1⟩ := low_bd w s
  exact (cut3 _ _ _ _ _ (pw_pos s) (pw_pos t) l0 l1 v0 hv).2.1
theorem put_high (w s t v : Int) (hp : partB s t = true) (v0 : 0 ≤ v) (hv : v < pw t) (r : Int) (hr : partB (s + t) r = true) : getW (putW w s t v) (s + t) r = getW w (s + t) r := by
  obtain ⟨q0, q1, q2⟩ := partB_yes hp
  rw [getW_at _ _ _ hr, getW_at _ _ _ hr, pw_add s t q0 (by omega), putW_eq w s t v hp hv]
  obtain ⟨l0, l1⟩ := low_bd w s
  have p0 := pw_pos s
  rw [← Int.ediv_ediv_of_nonneg (by omega), ← Int.ediv_ediv_of_nonneg (by omega)]
  rw [(cut3 _ _ _ _ _ (pw_pos s) (pw_pos t) l0 l1 v0 hv).2.2.1]
theorem put_swap (w s t v : Int) (hp : partB s t = true) (v0 : 0 ≤ v) (hv : v < pw t) (u : Int) (h : 1 ≤ s) (g : s ≤ 64) (u0 : 0 ≤ u) (hu : u < pw s) : putW (putW w s t v) 0 s u = putW (putW w 0 s u) s t v := by
  have p0 := pw_pos s
  have p1 := pw_pos t
  obtain ⟨l0, l1⟩ := low_bd w s
  have c := cut3 (pw s) (pw t) (w / pw s / pw t) v (w % pw s) p0 p1 l0 l1 v0 hv
  rw [putW_eq _ 0 s u (part0 h g) hu, putW_eq w s t v hp hv]
  rw [pw_zero, Int.ediv_one, Int.emod_one, c.1]
  rw [putW_eq _ s t v hp hv, putW_eq w 0 s u (part0 h g) hu, pw_zero, Int.ediv_one, Int.emod_one]
  have h1 : (pw s * (w / pw s) + u) / pw s = w / pw s := by
    rw [Int.add_comm, Int.add_mul_ediv_left _ _ (by omega), Int.ediv_eq_zero_of_lt u0 hu]; omega
  have h2 : (pw s * (w / pw s) + u) % pw s = u := by
    rw [Int.add_comm, Int.add_mul_emod_self_left]; exact Int.emod_eq_of_lt u0 hu
  rw [show 1 * (pw s * (w / pw s) + u) + 0 = pw s * (w / pw s) + u by omega, h1, h2]
  omega

theorem get_all (w : Int) (h0 : 0 ≤ w) (h1 : w < 18446744073709551616) : getW w 0 64 = w := by
  rw [getW_low w 64 (by omega) (by omega), pw_64]; omega

theorem putE_ok (s t v : Int) (hp : partB s t = true) (hv : v < pw t) : putE s t v = 0 := by simp [putE, hp, hv]

end Go.Proofs.YtgbepebihlmedaaDoor
