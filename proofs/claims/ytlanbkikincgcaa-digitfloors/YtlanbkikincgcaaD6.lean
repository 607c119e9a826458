/- The law: a time is made of its digits. -/
import Derived.Test.YtlanbkikincgcaaD4
namespace Go.Proofs.Ytlanbkikincgcaa
open Go.RowKit

theorem floN_step (T S k : Nat) : floN T S k = floN T S (k + 1) + digN T S k * S ^ k := by
  unfold floN
  conv => lhs; rw [step T S k]
  rw [Nat.add_mul, Nat.pow_succ, Nat.mul_comm S, Nat.mul_assoc, Nat.mul_comm S]
theorem floN_zero (T S : Nat) : floN T S 0 = T := by unfold floN; simp
theorem floN_rest {S : Nat} (h : 2 ≤ S) (T l : Nat) : T - floN T S l < S ^ l := by
  have e := Nat.div_add_mod T (S ^ l)
  have m := Nat.mod_lt T (y := S ^ l) (Nat.pow_pos (by omega))
  unfold floN
  rw [Nat.mul_comm] at e
  generalize S ^ l = q at *
  generalize T / q * q = d at *
  generalize T % q = r at *
  omega
theorem floN_again {S : Nat} (h : 2 ≤ S) (T l : Nat) : floN (floN T S l) S l = floN T S l := by
  unfold floN
  rw [Nat.mul_div_cancel _ (Nat.pow_pos (by omega))]

/-- the sum of the digits from L on that are below k. -/
structure Sum (T S L k s : Nat) : Prop where
  is : s + floN T S (max k L) = floN T S L
  le : s ≤ 4294967295
theorem Sum.zero {T S L : Nat} : Sum T S L 0 0 := ⟨by rw [Nat.zero_max]; omega, by omega⟩
theorem Sum.skip {T S L k s : Nat} (h : Sum T S L k s) (hk : k < L) : Sum T S L (k + 1) s := ⟨by rw [Nat.max_eq_right (by omega)]; have := h.is; rwa [Nat.max_eq_right (by omega)] at this, h.le⟩
theorem Sum.more {T S L k s : Nat} (hT : T < 4294967296) (h : Sum T S L k s) (hk : L ≤ k) : Sum T S L (k + 1) (s + digN T S k * S ^ k) := by
  have h1 := h.is
  rw [Nat.max_eq_left hk, floN_step T S k] at h1
  have h2 := floN_le T S L
  refine ⟨?_, by omega⟩
  rw [Nat.max_eq_left (by omega)]; omega
theorem Sum.end {T S L s : Nat} (hT : T < 4294967296) (hS : 2 ≤ S) (hL : L ≤ 33) (h : Sum T S L 33 s) : s = floN T S L := by
  have h1 := h.is
  rw [Nat.max_eq_left hL, floN_high hT hS (by omega)] at h1
  omega

/-- a digit, moved to where it stands. -/
theorem dig_le {T S k : Nat} : digN T S k * S ^ k ≤ T := by
  have h1 := floN_step T S k
  have h2 := floN_le T S k
  omega
theorem dig_at {t n : Int} {k : Nat} (hk : k ≤ 32) (n0 : 1 ≤ n) (n1 : n ≤ 6) :
    dig t k n * 2 ^ min ((k : Int) * n).toNat 64 = ((digN (tN t) (sN n) k * sN n ^ k : Nat) : Int) := by
  have hT := tN_lt t
  have hS := (sN_in n).1
  have hl : lN (k : Int) = k := by unfold lN; rw [lv_same (by omega) (by omega)]; simp
  have hn : ((k : Int) * n).toNat = k * (bt n).toNat := by
    rw [bt_same n0 n1, Int.toNat_mul (by omega) (by omega)]; simp
  unfold dig
  rw [hl, hn]
  by_cases h : k * (bt n).toNat ≤ 64
  · rw [Nat.min_eq_left h, sN_pow]; push_cast; rfl
  · have z : digN (tN t) (sN n) k = 0 := by
      unfold digN
      rw [sN_pow, show tN t / 2 ^ (k * (bt n).toNat) = 0 from high (S := 2) hT (by decide) (by omega), Nat.zero_mod]
    rw [z]; simp

theorem wrap_sum {x q : Nat} (h : x + q ≤ 4294967295) : wrap64 ((x : Int) + wrap64 (q : Int)) = ((x + q : Nat) : Int) := by
  unfold wrap64
  omega

/-- what the law's walk needs of a time, a level and of bits. -/
structure Floors (t L n F : Int) (P : Nat → Int → Prop) : Prop where
  f0 : 0 ≤ F
  f1 : F ≤ t
  rest : t - F < 2 ^ (L * n).toNat
  again : flo F L n = F
  zero : P 0 0
  skip : ∀ (k : Nat) s, P k s → (k : Int) < L → P (k + 1) s
  more : ∀ (k : Nat) s, P k s → L ≤ k → k ≤ 32 → P (k + 1) (wrap64 (s + wrap64 (dig t k n * 2 ^ min ((k : Int) * n).toNat 64)))
  fin : ∀ s, P 33 s → F = s
  in_ : ∀ k s, P k s → 0 ≤ s ∧ s ≤ 4294967295

theorem floors_of {t L n : Int} (t0 : 0 ≤ t) (t1 : t ≤ 4294967295) (L0 : 0 ≤ L) (L1 : L ≤ 8) (n0 : 1 ≤ n) (n1 : n ≤ 6) : ∃ P, Floors t L n (flo t L n) P := by
  have hT := tN_lt t
  have hS := (sN_in n).1
  have ht := tN_cast t
  rw [tm_same t0 t1] at ht
  have hl : lN L = L.toNat := by unfold lN; rw [lv_same (by omega) (by omega)]
  have hf := flo_in t L n
  have hfe : tN (flo t L n) = floN (tN t) (sN n) (lN L) := by
    unfold tN; rw [tm_same (by omega) (by omega)]; unfold flo; simp [tN]
  refine ⟨fun k s => ∃ x : Nat, s = x ∧ Sum (tN t) (sN n) L.toNat k x, hf.1, by have := hf.2.1; rwa [tm_same t0 t1] at this, ?_, ?_, ⟨0, rfl, Sum.zero⟩, ?_, ?_, ?_, ?_⟩
  · have h1 := floN_rest hS (tN t) L.toNat
    have h2 := floN_le (tN t) (sN n) L.toNat
    have h3 : (sN n : Int) ^ L.toNat = 2 ^ (L * n).toNat := by
      rw [show ((sN n : Int) ^ L.toNat) = ((sN n ^ L.toNat : Nat) : Int) by push_cast; rfl, sN_pow, Int.toNat_mul L0 (by omega), bt_same n0 n1]; push_cast; rfl
    have h4 : ((tN t - floN (tN t) (sN n) L.toNat : Nat) : Int) < ((sN n ^ L.toNat : Nat) : Int) := by exact_mod_cast h1
    rw [← h3]
    unfold flo
    rw [hl]
    push_cast [Int.natCast_sub h2] at h4
    omega
  · have : floN (tN (flo t L n)) (sN n) (lN L) = floN (tN t) (sN n) (lN L) := by rw [hfe, floN_again hS]
    unfold flo at this ⊢
    rw [this]
  · rintro k s ⟨x, rfl, hx⟩ hk; exact ⟨x, rfl, hx.skip (by omega)⟩
  · rintro k s ⟨x, rfl, hx⟩ hk hk2
    have h1 := hx.more hT (by omega)
    refine ⟨_, ?_, h1⟩
    have h2 := h1.le
    have h3 := hx.le
    rw [dig_at hk2 n0 n1]
    generalize digN (tN t) (sN n) k * sN n ^ k = q at *
    exact wrap_sum h2
  · rintro s ⟨x, rfl, hx⟩
    have := hx.end hT hS (by omega)
    unfold flo; rw [hl, this]
  · rintro k s ⟨x, rfl, hx⟩
    have := hx.le
    omega

end Go.Proofs.Ytlanbkikincgcaa
