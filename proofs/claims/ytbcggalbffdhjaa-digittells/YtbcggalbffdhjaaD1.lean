/- Times as digits: plain facts on natural numbers, nothing of the program is in it. -/
import Derived.Laws.BitsAllLaws
import Derived.Laws.BitsLemmas
namespace Go.Proofs.Ytbcggalbffdhjaa

/-- a number as a time; as how many bits a digit has; as a level. -/
def tm (t : Int) : Int := if t < 0 then 0 else if 4294967295 < t then 4294967295 else t
def bt (b : Int) : Int := if b < 1 then 1 else if 6 < b then 6 else b
def lv (l : Int) : Int := if l < 0 then 0 else if 32 < l then 32 else l
theorem tm_in (t : Int) : 0 ≤ tm t ∧ tm t ≤ 4294967295 := by unfold tm; split <;> (try split) <;> omega
theorem bt_in (b : Int) : 1 ≤ bt b ∧ bt b ≤ 6 := by unfold bt; split <;> (try split) <;> omega
theorem lv_in (l : Int) : 0 ≤ lv l ∧ lv l ≤ 32 := by unfold lv; split <;> (try split) <;> omega
theorem tm_same {t : Int} (h : 0 ≤ t) (h1 : t ≤ 4294967295) : tm t = t := by unfold tm; split <;> (try split) <;> omega
theorem bt_same {b : Int} (h : 1 ≤ b) (h1 : b ≤ 6) : bt b = b := by unfold bt; split <;> (try split) <;> omega
theorem lv_same {l : Int} (h : 0 ≤ l) (h1 : l ≤ 32) : lv l = l := by unfold lv; split <;> (try split) <;> omega

/-- the same as natural numbers: a time, the slots of a level, a level. -/
def tN (t : Int) : Nat := (tm t).toNat
def sN (b : Int) : Nat := 2 ^ (bt b).toNat
def lN (l : Int) : Nat := (lv l).toNat
theorem tN_lt (t : Int) : tN t < 4294967296 := by have := tm_in t; unfold tN; omega
theorem tN_cast (t : Int) : (tN t : Int) = tm t := by have := tm_in t; unfold tN; omega
theorem lN_le (l : Int) : lN l ≤ 32 := by have := lv_in l; unfold lN; omega
theorem sN_in (b : Int) : 2 ≤ sN b ∧ sN b ≤ 64 := by
  have h := bt_in b
  unfold sN
  generalize bt b = x at *
  obtain ⟨n, rfl⟩ := Int.eq_ofNat_of_zero_le (show 0 ≤ x by omega)
  have : n = 1 ∨ n = 2 ∨ n = 3 ∨ n = 4 ∨ n = 5 ∨ n = 6 := by omega
  rcases this with rfl | rfl | rfl | rfl | rfl | rfl <;> decide

/-- a digit; a time without its lowest digits. -/
def digN (T S l : Nat) : Nat := T / S ^ l % S
def floN (T S l : Nat) : Nat := T / S ^ l * S ^ l
/-- how many of the lowest digits one must strike till two times are the same. -/
def topN : Nat → Nat → Nat → Nat → Nat
  | 0, _, _, _ => 0
  | f + 1, A, B, S => if A = B then 0 else topN f (A / S) (B / S) S + 1

theorem two_le_pow {S : Nat} (h : 2 ≤ S) : ∀ n, 2 ^ n ≤ S ^ n := fun n => Nat.pow_le_pow_left h n
theorem high {T S l : Nat} (h : T < 4294967296) (hS : 2 ≤ S) (hl : 32 ≤ l) : T / S ^ l = 0 := by
  apply Nat.div_eq_of_lt
  have h1 := two_le_pow hS l
  have h2 : 2 ^ 32 ≤ 2 ^ l := Nat.pow_le_pow_right (by decide) hl
  have h3 : (2 : Nat) ^ 32 = 4294967296 := by decide
  omega
theorem step (T S l : Nat) : T / S ^ l = S * (T / S ^ (l + 1)) + digN T S l := by
  unfold digN
  rw [Nat.pow_succ, ← Nat.div_div_eq_div_mul, Nat.div_add_mod]
theorem digN_lt {S : Nat} (h : 2 ≤ S) (T l : Nat) : digN T S l < S := Nat.mod_lt _ (by omega)
theorem digN_high {T S l : Nat} (h : T < 4294967296) (hS : 2 ≤ S) (hl : 32 ≤ l) : digN T S l = 0 := by unfold digN; rw [high h hS hl, Nat.zero_mod]
theorem floN_high {T S l : Nat} (h : T < 4294967296) (hS : 2 ≤ S) (hl : 32 ≤ l) : floN T S l = 0 := by unfold floN; rw [high h hS hl, Nat.zero_mul]

/-- what is the same above a level is the same above each higher one. -/
theorem same_up {A B S m n : Nat} (h : A / S ^ m = B / S ^ m) (hn : m ≤ n) : A / S ^ n = B / S ^ n := by
  obtain ⟨d, rfl⟩ := Nat.le.dest hn
  rw [Nat.pow_add, ← Nat.div_div_eq_div_mul, ← Nat.div_div_eq_div_mul, h]

structure IsTop (A B S n : Nat) : Prop where
  same : A / S ^ n = B / S ^ n
  unlike : ∀ m, m < n → A / S ^ m ≠ B / S ^ m
theorem IsTop.one {A B S m n : Nat} (h : IsTop A B S m) (k : IsTop A B S n) : m = n := by
  rcases Nat.lt_trichotomy m n with h1 | h1 | h1
  · exact absurd h.same (k.unlike _ h1)
  · exact h1
  · exact absurd k.same (h.unlike _ h1)
theorem IsTop.mk' {A B S n : Nat} (h : A / S ^ n = B / S ^ n) (k : n = 0 ∨ A / S ^ (n - 1) ≠ B / S ^ (n - 1)) : IsTop A B S n :=
  ⟨h, fun m hm he => by
    rcases k with k | k
    · omega
    · exact k (same_up he (by omega))⟩
theorem IsTop.symm {A B S n : Nat} (h : IsTop A B S n) : IsTop B A S n := ⟨h.same.symm, fun m hm he => h.unlike m hm he.symm⟩

theorem topN_is {S : Nat} (hS : 2 ≤ S) : ∀ (f A B : Nat), A < 2 ^ f → B < 2 ^ f → IsTop A B S (topN f A B S) ∧ topN f A B S ≤ f
  | 0, A, B, ha, hb => by
    have : A = B := by simp at ha hb; omega
    subst this
    exact ⟨⟨rfl, fun m hm => by simp [topN] at hm⟩, by simp [topN]⟩
  | f + 1, A, B, ha, hb => by
    unfold topN
    by_cases h : A = B
    · subst h
      simp only [if_true]
      exact ⟨⟨rfl, fun m hm => by omega⟩, by omega⟩
    · rw [if_neg h]
      have hd : ∀ x, x < 2 ^ (f + 1) → x / S < 2 ^ f := fun x hx => by
        have h1 : x / S ≤ x / 2 := Nat.div_le_div_left hS (by decide)
        rw [Nat.pow_succ] at hx
        omega
      obtain ⟨i, le⟩ := topN_is hS f (A / S) (B / S) (hd A ha) (hd B hb)
      have e : ∀ x m : Nat, x / S ^ (m + 1) = x / S / S ^ m := fun x m => by rw [Nat.pow_succ, Nat.mul_comm, ← Nat.div_div_eq_div_mul]
      refine ⟨⟨by rw [e, e]; exact i.same, fun m hm => ?_⟩, by omega⟩
      cases m with
      | zero => simpa using h
      | succ m => rw [e, e]; exact i.unlike m (by omega)

theorem top_is {A B S : Nat} (hA : A < 4294967296) (hB : B < 4294967296) (hS : 2 ≤ S) : IsTop A B S (topN 32 A B S) := (topN_is hS 32 A B hA hB).1
theorem top_le {A B S : Nat} (hA : A < 4294967296) (hB : B < 4294967296) (hS : 2 ≤ S) : topN 32 A B S ≤ 32 := (topN_is hS 32 A B hA hB).2

theorem top_comm {A B S : Nat} (hA : A < 4294967296) (hB : B < 4294967296) (hS : 2 ≤ S) : topN 32 A B S = topN 32 B A S :=
  (top_is hA hB hS).one (top_is hB hA hS).symm

/-- the answers, as integers. -/
def dig (t l b : Int) : Int := (digN (tN t) (sN b) (lN l) : Nat)
def flo (t l b : Int) : Int := (floN (tN t) (sN b) (lN l) : Nat)
def top (a c b : Int) : Int := (topN 32 (tN a) (tN c) (sN b) : Nat) - 1
theorem dig_in (t l b : Int) : 0 ≤ dig t l b ∧ dig t l b < sN b ∧ dig t l b ≤ 63 := by
  have := sN_in b
  have := digN_lt (S := sN b) (by omega) (tN t) (lN l)
  unfold dig; omega
theorem floN_le (T S l : Nat) : floN T S l ≤ T := Nat.div_mul_le_self _ _
theorem flo_in (t l b : Int) : 0 ≤ flo t l b ∧ flo t l b ≤ tm t ∧ flo t l b ≤ 4294967295 := by
  have := floN_le (tN t) (sN b) (lN l)
  have := tN_cast t
  have := tm_in t
  unfold flo; omega
theorem top_in (a c b : Int) : -1 ≤ top a c b ∧ top a c b ≤ 31 := by
  have := top_le (tN_lt a) (tN_lt c) (sN_in b).1
  unfold top; omega

/-- what is kept of bits. -/
theorem xor_div (A B n : Nat) : (A ^^^ B) / 2 ^ n = A / 2 ^ n ^^^ B / 2 ^ n := by
  rw [← Nat.shiftRight_eq_div_pow, ← Nat.shiftRight_eq_div_pow, ← Nat.shiftRight_eq_div_pow, Nat.shiftRight_xor_distrib]
theorem xor_zero_iff (A B : Nat) : A ^^^ B = 0 ↔ A = B := by
  constructor
  · intro h
    apply Nat.eq_of_testBit_eq
    intro j
    have : (A ^^^ B).testBit j = false := by rw [h]; simp
    rw [Nat.testBit_xor] at this
    cases h1 : A.testBit j <;> cases h2 : B.testBit j <;> simp_all
  · intro h; rw [h, Nat.xor_self]
theorem sN_pow (b : Int) (l : Nat) : sN b ^ l = 2 ^ (l * (bt b).toNat) := by unfold sN; rw [← Nat.pow_mul, Nat.mul_comm]

theorem i64_and_nat (a b : Nat) (ha : a < 9223372036854775808) (hb : b < 9223372036854775808) : bits .and .i64 (a : Int) (b : Int) = ((a &&& b : Nat) : Int) := by
  have hx : a &&& b ≤ a := Nat.and_le_left
  show IntKind.i64.wrap ((BitVec.ofInt 64 (a : Int) &&& BitVec.ofInt 64 (b : Int)).toNat : Int) = _
  rw [BitVec.toNat_and, ofInt_u64 a (by omega), ofInt_u64 b (by omega), IntKind.wrap_i64]
  omega
theorem i64_xor_nat (a b : Nat) (ha : a < 4294967296) (hb : b < 4294967296) : bits .xor .i64 (a : Int) (b : Int) = ((a ^^^ b : Nat) : Int) ∧ a ^^^ b < 4294967296 := by
  have hx : a ^^^ b < 2 ^ 32 := Nat.xor_lt_two_pow (by omega) (by omega)
  refine ⟨?_, hx⟩
  show IntKind.i64.wrap ((BitVec.ofInt 64 (a : Int) ^^^ BitVec.ofInt 64 (b : Int)).toNat : Int) = _
  rw [BitVec.toNat_xor, ofInt_u64 a (by omega), ofInt_u64 b (by omega), IntKind.wrap_i64]
  omega

end Go.Proofs.Ytbcggalbffdhjaa
