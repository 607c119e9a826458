/- How many bits a number of 64 has, as the library counts them: byte by byte. -/
import Derived.Test.YtakpalnhjmkkeaaDoorB1
namespace Go.Proofs.YtakpalnhjmkkeaaDoor

/-- how many of the lowest bits are set. -/
def pc : Nat → Nat → Nat
  | 0, _ => 0
  | n + 1, x => x % 2 + pc n (x / 2)
theorem pc_add : ∀ (m n x : Nat), pc (m + n) x = pc m x + pc n (x / 2 ^ m)
  | 0, n, x => by simp [pc]
  | m + 1, n, x => by
    rw [show m + 1 + n = (m + n) + 1 by omega]
    show x % 2 + pc (m + n) (x / 2) = x % 2 + pc m (x / 2) + _
    rw [pc_add m n, Nat.div_div_eq_div_mul, Nat.pow_succ, Nat.mul_comm 2]
    omega
theorem pc_below (s : Nat) : ∀ k, (below s k).length = pc k s
  | 0 => rfl
  | k + 1 => by
    rw [below_succ, pc_add k 1, ← pc_below s k]
    have : s.testBit k = decide (s / 2 ^ k % 2 = 1) := by rw [Nat.testBit_eq_decide_div_mod_eq]
    rw [this]
    simp only [pc]
    by_cases h : s / 2 ^ k % 2 = 1
    · simp [h]
    · have : s / 2 ^ k % 2 = 0 := by omega
      simp [this]
theorem pc_byte (x : Nat) : pc 8 x = pc 8 (x % 256) := by simp only [pc]; omega
theorem pc_le : ∀ n x, pc n x ≤ n
  | 0, _ => Nat.le_refl _
  | n + 1, x => by have := pc_le n (x / 2); unfold pc; omega

/-- a byte, n times. -/
def mk (c : Nat) : Nat → Nat
  | 0 => 0
  | n + 1 => c + 256 * mk c n
theorem mk_succ (c n : Nat) : mk c (n + 1) = c + 256 * mk c n := rfl
theorem and_byte {a b c d : Nat} (ha : a < 256) (hc : c < 256) : (a + 256 * b) &&& (c + 256 * d) = (a &&& c) + 256 * (b &&& d) := by
  have hac : a &&& c < 2 ^ 8 := Nat.lt_of_le_of_lt Nat.and_le_left ha
  apply Nat.eq_of_testBit_eq
  intro j
  rw [Nat.add_comm a, Nat.add_comm c, Nat.add_comm (a &&& c), show (256 : Nat) = 2 ^ 8 by decide, Nat.testBit_and, Nat.testBit_two_pow_mul_add _ ha, Nat.testBit_two_pow_mul_add _ hc, Nat.testBit_two_pow_mul_add _ hac]
  split <;> simp

def f1 (a : Nat) : Nat := (a / 2 &&& 85) + (a &&& 85)
def f2 (a : Nat) : Nat := (a / 4 &&& 51) + (a &&& 51)
def f3 (a : Nat) : Nat := (a + a / 16) % 16
theorem f1_lt : ∀ a, a < 256 → f1 a < 256 := by decide +kernel
theorem f2_le : ∀ a, a < 256 → f2 (f1 a) ≤ 68 ∧ f2 (f1 a) % 16 ≤ 4 := by decide +kernel
theorem f2_lt : ∀ a, a < 256 → f2 a < 256 := by decide +kernel
theorem f3_is : ∀ a, a < 256 → f3 (f2 (f1 a)) = pc 8 a := by decide +kernel
theorem cross1 : ∀ a, a < 256 → ∀ t, t < 2 → (a / 2 + 128 * t) &&& 85 = a / 2 &&& 85 := by decide +kernel
theorem cross2 : ∀ a, a < 256 → ∀ t, t < 4 → (a / 4 + 64 * t) &&& 51 = a / 4 &&& 51 := by decide +kernel

def F1 (n x : Nat) : Nat := (x / 2 &&& mk 85 n) + (x &&& mk 85 n)
def F2 (n x : Nat) : Nat := (x / 4 &&& mk 51 n) + (x &&& mk 51 n)
def F3 (n x : Nat) : Nat := (x / 16 + x) &&& mk 15 n
theorem split256 (x : Nat) : x = x % 256 + 256 * (x / 256) := by omega
theorem F1_succ (n x : Nat) : F1 (n + 1) x = f1 (x % 256) + 256 * F1 n (x / 256) := by
  have ha : x % 256 < 256 := Nat.mod_lt _ (by decide)
  have e : x / 2 = (x % 256 / 2 + 128 * (x / 256 % 2)) + 256 * (x / 256 / 2) := by omega
  unfold F1 f1
  rw [mk_succ, e, and_byte (by omega) (by decide), cross1 _ ha _ (by omega)]
  conv => lhs; rhs; rw [split256 x, and_byte ha (by decide)]
  omega
theorem F2_succ (n x : Nat) : F2 (n + 1) x = f2 (x % 256) + 256 * F2 n (x / 256) := by
  have ha : x % 256 < 256 := Nat.mod_lt _ (by decide)
  have e : x / 4 = (x % 256 / 4 + 64 * (x / 256 % 4)) + 256 * (x / 256 / 4) := by omega
  unfold F2 f2
  rw [mk_succ, e, and_byte (by omega) (by decide), cross2 _ ha _ (by omega)]
  conv => lhs; rhs; rw [split256 x, and_byte ha (by decide)]
  omega
theorem and15 (x : Nat) : x &&& 15 = x % 16 := Nat.and_two_pow_sub_one_eq_mod x 4
theorem F3_succ (n x : Nat) (h : x % 256 + x % 256 / 16 + 16 * (x / 256 % 16) < 256) : F3 (n + 1) x = f3 (x % 256) + 256 * F3 n (x / 256) := by
  have e : x / 16 + x = (x % 256 + x % 256 / 16 + 16 * (x / 256 % 16)) + 256 * (x / 256 / 16 + x / 256) := by omega
  unfold F3 f3
  rw [mk_succ, e, and_byte h (by decide), and15]
  omega
/-- the first two steps. -/
def F12 (n x : Nat) : Nat := F2 n (F1 n x)
theorem F12_succ (n x : Nat) : F12 (n + 1) x = f2 (f1 (x % 256)) + 256 * F12 n (x / 256) := by
  have h := f1_lt (x % 256) (Nat.mod_lt _ (by decide))
  unfold F12
  rw [F2_succ, F1_succ]
  congr 1
  · rw [show (f1 (x % 256) + 256 * F1 n (x / 256)) % 256 = f1 (x % 256) by omega]
  · rw [show (f1 (x % 256) + 256 * F1 n (x / 256)) / 256 = F1 n (x / 256) by omega]
theorem F12_low : ∀ n x, F12 n x % 16 ≤ 4
  | 0, x => by simp [F12, F2, F1, mk]
  | n + 1, x => by
    have h := f2_le (x % 256) (Nat.mod_lt _ (by decide))
    rw [F12_succ]; omega
theorem F1_le : ∀ n x, F1 n x ≤ mk 255 n
  | 0, x => by simp [F1, mk]
  | n + 1, x => by
    have h := f1_lt (x % 256) (Nat.mod_lt _ (by decide))
    have := F1_le n (x / 256)
    rw [F1_succ]; unfold mk; omega
theorem F12_le : ∀ n x, F12 n x ≤ mk 68 n
  | 0, x => by simp [F12, F2, F1, mk]
  | n + 1, x => by
    have h := f2_le (x % 256) (Nat.mod_lt _ (by decide))
    have := F12_le n (x / 256)
    rw [F12_succ]; unfold mk; omega
def F123 (n x : Nat) : Nat := F3 n (F12 n x)
theorem F123_succ (n x : Nat) : F123 (n + 1) x = pc 8 (x % 256) + 256 * F123 n (x / 256) := by
  have h := f2_le (x % 256) (Nat.mod_lt _ (by decide))
  have h2 := F12_low n (x / 256)
  unfold F123
  rw [F12_succ]
  have e1 : (f2 (f1 (x % 256)) + 256 * F12 n (x / 256)) % 256 = f2 (f1 (x % 256)) := by omega
  have e2 : (f2 (f1 (x % 256)) + 256 * F12 n (x / 256)) / 256 = F12 n (x / 256) := by omega
  rw [F3_succ _ _ (by rw [e1, e2]; omega), e1, e2, f3_is _ (Nat.mod_lt _ (by decide))]
theorem F123_zero (x : Nat) : F123 0 x = 0 := by simp [F123, F3, mk]

/-- the last three steps: the bytes' sum. -/
theorem sums {p0 p1 p2 p3 p4 p5 p6 p7 y : Nat} (h0 : p0 ≤ 8) (h1 : p1 ≤ 8) (h2 : p2 ≤ 8) (h3 : p3 ≤ 8) (h4 : p4 ≤ 8) (h5 : p5 ≤ 8) (h6 : p6 ≤ 8) (h7 : p7 ≤ 8)
    (hy : y = p0 + 256 * (p1 + 256 * (p2 + 256 * (p3 + 256 * (p4 + 256 * (p5 + 256 * (p6 + 256 * p7))))))) :
    ∃ a b c, a = y + y / 256 ∧ a < 18446744073709551616 ∧ b = a + a / 65536 ∧ b < 18446744073709551616 ∧ c = b + b / 4294967296 ∧ c < 9223372036854775808 ∧ c % 128 = p0 + p1 + p2 + p3 + p4 + p5 + p6 + p7 := by
  have d1 : y / 256 = p1 + 256 * (p2 + 256 * (p3 + 256 * (p4 + 256 * (p5 + 256 * (p6 + 256 * p7))))) := by omega
  obtain ⟨a, ha⟩ : ∃ a, a = y + y / 256 := ⟨_, rfl⟩
  have ea : a = (p0 + p1) + 256 * ((p1 + p2) + 256 * ((p2 + p3) + 256 * ((p3 + p4) + 256 * ((p4 + p5) + 256 * ((p5 + p6) + 256 * ((p6 + p7) + 256 * p7)))))) := by omega
  have d2 : a / 65536 = (p2 + p3) + 256 * ((p3 + p4) + 256 * ((p4 + p5) + 256 * ((p5 + p6) + 256 * ((p6 + p7) + 256 * p7)))) := by clear hy d1 ha; omega
  obtain ⟨b, hb⟩ : ∃ b, b = a + a / 65536 := ⟨_, rfl⟩
  have eb : b = (p0 + p1 + p2 + p3) + 256 * ((p1 + p2 + p3 + p4) + 256 * ((p2 + p3 + p4 + p5) + 256 * ((p3 + p4 + p5 + p6) + 256 * ((p4 + p5 + p6 + p7) + 256 * ((p5 + p6 + p7) + 256 * ((p6 + p7) + 256 * p7)))))) := by clear hy d1 ha; omega
  have d3 : b / 4294967296 = (p4 + p5 + p6 + p7) + 256 * ((p5 + p6 + p7) + 256 * ((p6 + p7) + 256 * p7)) := by clear hy d1 ha ea d2 hb; omega
  refine ⟨a, b, _, ha, ?_, hb, ?_, rfl, ?_, ?_⟩
  · clear hy d1 ha d2 hb eb d3; omega
  · clear hy d1 ha ea d2 hb d3; omega
  · clear hy d1 ha ea d2 hb; omega
  · clear hy d1 ha ea d2 hb; omega

theorem pc_bytes (x : Nat) : pc 64 x = pc 8 (x % 256) + (pc 8 (x / 256 % 256) + (pc 8 (x / 256 / 256 % 256) + (pc 8 (x / 256 / 256 / 256 % 256) + (pc 8 (x / 256 / 256 / 256 / 256 % 256) + (pc 8 (x / 256 / 256 / 256 / 256 / 256 % 256) + (pc 8 (x / 256 / 256 / 256 / 256 / 256 / 256 % 256) + pc 8 (x / 256 / 256 / 256 / 256 / 256 / 256 / 256 % 256))))))) := by
  have e : ∀ n y, pc (8 + n) y = pc 8 (y % 256) + pc n (y / 256) := fun n y => by rw [pc_add, pc_byte]
  rw [show 64 = 8 + (8 + (8 + (8 + (8 + (8 + (8 + 8)))))) by decide, e, e, e, e, e, e, e, pc_byte (x / 256 / 256 / 256 / 256 / 256 / 256 / 256)]

/-- all of it. -/
theorem ones_is (x : Nat) : ∃ a b c, a = F123 8 x + F123 8 x / 256 ∧ a < 18446744073709551616 ∧ b = a + a / 65536 ∧ b < 18446744073709551616 ∧ c = b + b / 4294967296 ∧ c < 9223372036854775808 ∧ c % 128 = cnt x := by
  have h := sums (pc_le 8 (x % 256)) (pc_le 8 (x / 256 % 256)) (pc_le 8 (x / 256 / 256 % 256)) (pc_le 8 (x / 256 / 256 / 256 % 256)) (pc_le 8 (x / 256 / 256 / 256 / 256 % 256)) (pc_le 8 (x / 256 / 256 / 256 / 256 / 256 % 256)) (pc_le 8 (x / 256 / 256 / 256 / 256 / 256 / 256 % 256)) (pc_le 8 (x / 256 / 256 / 256 / 256 / 256 / 256 / 256 % 256)) (y := F123 8 x)
    (by rw [F123_succ, F123_succ, F123_succ, F123_succ, F123_succ, F123_succ, F123_succ, F123_succ, F123_zero]; omega)
  obtain ⟨a, b, c, e1, e2, e3, e4, e5, e6, e7⟩ := h
  refine ⟨a, b, c, e1, e2, e3, e4, e5, e6, ?_⟩
  rw [e7]
  show _ = (below x 64).length
  rw [pc_below, pc_bytes]; omega

end Go.Proofs.YtakpalnhjmkkeaaDoor
