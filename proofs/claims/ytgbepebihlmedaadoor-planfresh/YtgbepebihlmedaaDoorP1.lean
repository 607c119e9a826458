/- Plain facts on configurations and places: nothing of the program is in it. -/
import Derived.Test.YtgbepebihlmedaaDoorMath
namespace Go.Proofs.YtgbepebihlmedaaDoor

/-- from where, and up to where, a configuration's number may be. -/
def cLo : Nat → Int
  | 5 => 0 | 6 => 0 | 7 => 0 | 11 => 0 | 12 => 0 | _ => 1
def cHi : Nat → Int
  | 0 => 64 | 1 => 8 | 2 => 6 | 3 => 4096 | 4 => 8192 | 6 => 4294967295 | 7 => 256 | 12 => 31 | _ => 1073741823
def okAt (C : Nat → Int) (i : Nat) : Prop := cLo i ≤ C i ∧ C i ≤ cHi i
instance (C : Nat → Int) (i : Nat) : Decidable (okAt C i) := inferInstanceAs (Decidable (_ ∧ _))
/-- a configuration that may be. -/
def Right (C : Nat → Int) : Prop := ∀ i, i < 13 → okAt C i
/-- the first number, of the first n, that may not be. -/
def scan (C : Nat → Int) : Nat → Option Nat
  | 0 => none
  | n + 1 => match scan C n with
    | some m => some m
    | none => if okAt C n then none else some n
def atI : Option Nat → Int
  | some m => m
  | none => 0
def atE : Option Nat → Int
  | some _ => 7
  | none => 0
def chkI (C : Nat → Int) : Int := atI (scan C 13)
def chkE (C : Nat → Int) : Int := atE (scan C 13)
theorem scan_none (C : Nat → Int) : ∀ n, (∀ j, j < n → okAt C j) → scan C n = none
  | 0, _ => rfl
  | n + 1, h => by
    simp only [scan, scan_none C n (fun j hj => h j (by omega)), h n (by omega), if_true]
theorem scan_some (C : Nat → Int) (m : Nat) (h : ∀ j, j < m → okAt C j) (hm : ¬ okAt C m) : ∀ n, m < n → scan C n = some m
  | 0, h0 => by omega
  | n + 1, h1 => by
    by_cases he : m = n
    · subst he
      simp only [scan, scan_none C m h, hm, if_false]
    · simp only [scan, scan_some C m h hm n (by omega)]
theorem chk_ok {C : Nat → Int} (h : Right C) : chkI C = 0 ∧ chkE C = 0 := by
  rw [chkI, chkE, scan_none C 13 h]
  exact ⟨rfl, rfl⟩
theorem chk_bad {C : Nat → Int} {m : Nat} (h : ∀ j, j < m → okAt C j) (hm : ¬ okAt C m) (h13 : m < 13) : chkI C = m ∧ chkE C = 7 := by
  rw [chkI, chkE, scan_some C m h hm 13 h13]
  exact ⟨rfl, rfl⟩
theorem right_or (C : Nat → Int) : Right C ∨ ∃ m, m < 13 ∧ (∀ j, j < m → okAt C j) ∧ ¬ okAt C m := by
  have : ∀ n, (∀ j, j < n → okAt C j) ∨ ∃ m, m < n ∧ (∀ j, j < m → okAt C j) ∧ ¬ okAt C m := by
    intro n
    induction n with
    | zero => exact .inl (fun j hj => by omega)
    | succ n ih =>
      rcases ih with h | ⟨m, h1, h2⟩
      · by_cases hn : okAt C n
        · exact .inl (fun j hj => by
            rcases (by omega : j < n ∨ j = n) with h3 | rfl
            · exact h j h3
            · exact hn)
        · exact .inr ⟨n, by omega, h, hn⟩
      · exact .inr ⟨m, by omega, h2⟩
  exact this 13

/-- slots of a level; cells of a shard; where nodes, tickets, connections begin; how many cells there are. -/
def plS (C : Nat → Int) : Int := pw (C 2)
def plE (C : Nat → Int) : Int := 3 + C 1 * (1 + plS C)
def plA (C : Nat → Int) : Int := 3 + C 0 * plE C
def plB (C : Nat → Int) : Int := plA C + C 3 * 4
def plD (C : Nat → Int) : Int := plB C + C 4 * 3
def plZ (C : Nat → Int) : Int := plD C + C 7

theorem mul_bd {a b x y : Int} (h0 : 0 ≤ a) (h1 : a ≤ x) (g0 : 0 ≤ b) (g1 : b ≤ y) : 0 ≤ a * b ∧ a * b ≤ x * y :=
  ⟨Int.mul_nonneg h0 g0, Int.le_trans (Int.mul_le_mul_of_nonneg_right h1 g0) (Int.mul_le_mul_of_nonneg_left g1 (by omega))⟩

structure Bds (C : Nat → Int) : Prop where
  c0 : 1 ≤ C 0 ∧ C 0 ≤ 64
  c1 : 1 ≤ C 1 ∧ C 1 ≤ 8
  c2 : 1 ≤ C 2 ∧ C 2 ≤ 6
  c3 : 1 ≤ C 3 ∧ C 3 ≤ 4096
  c4 : 1 ≤ C 4 ∧ C 4 ≤ 8192
  c6 : 0 ≤ C 6 ∧ C 6 ≤ 4294967295
  c7 : 0 ≤ C 7 ∧ C 7 ≤ 256
  s : 2 ≤ plS C ∧ plS C ≤ 64
  e : 3 ≤ plE C ∧ plE C ≤ 523
  a : 3 ≤ plA C ∧ plA C ≤ 33475
  b : plA C + 4 ≤ plB C ∧ plB C ≤ 49859
  d : plB C + 3 ≤ plD C ∧ plD C ≤ 74435
  z : plD C ≤ plZ C ∧ plZ C ≤ 74691

theorem bds {C : Nat → Int} (h : Right C) : Bds C := by
  have c0 : 1 ≤ C 0 ∧ C 0 ≤ 64 := h 0 (by omega)
  have c1 : 1 ≤ C 1 ∧ C 1 ≤ 8 := h 1 (by omega)
  have c2 : 1 ≤ C 2 ∧ C 2 ≤ 6 := h 2 (by omega)
  have c3 : 1 ≤ C 3 ∧ C 3 ≤ 4096 := h 3 (by omega)
  have c4 : 1 ≤ C 4 ∧ C 4 ≤ 8192 := h 4 (by omega)
  have c6 : 0 ≤ C 6 ∧ C 6 ≤ 4294967295 := h 6 (by omega)
  have c7 : 0 ≤ C 7 ∧ C 7 ≤ 256 := h 7 (by omega)
  have s : 2 ≤ plS C ∧ plS C ≤ 64 := by
    unfold plS
    have h1 := pw_mono 1 (C 2) (by omega) c2.1
    have h2 := pw_mono (C 2) 6 (by omega) c2.2
    rw [show pw 1 = 2 by decide] at h1
    rw [show pw 6 = 64 by decide] at h2
    exact ⟨h1, h2⟩
  have m1 := mul_bd (a := C 1) (b := 1 + plS C) (x := 8) (y := 65) (by omega) c1.2 (by omega) (by omega)
  have e : 3 ≤ plE C ∧ plE C ≤ 523 := by unfold plE; omega
  have m2 := mul_bd (a := C 0) (b := plE C) (x := 64) (y := 523) (by omega) c0.2 (by omega) e.2
  have a : 3 ≤ plA C ∧ plA C ≤ 33475 := by unfold plA; omega
  have b : plA C + 4 ≤ plB C ∧ plB C ≤ 49859 := by unfold plB; omega
  have d : plB C + 3 ≤ plD C ∧ plD C ≤ 74435 := by unfold plD; omega
  have z : plD C ≤ plZ C ∧ plZ C ≤ 74691 := by unfold plZ; omega
  exact ⟨c0, c1, c2, c3, c4, c6, c7, s, e, a, b, d, z⟩

/-- is a number from 0 to one below another one? -/
def inB (i n : Int) : Bool := decide (0 ≤ i) && decide (i < n)
/-- the place of a part of one of the things of a row. -/
def placeR (f e n i q : Int) : Int := if inB i n = true then f + i * e + q else -1
/-- the places of a plan's cells. -/
def plInbox (C : Nat → Int) (s q : Int) : Int := placeR 3 (plE C) (C 0) s q
def plMap (C : Nat → Int) (s k : Int) : Int := if inB s (C 0) = true then placeR (3 + s * plE C + 3) (1 + plS C) (C 1) k 0 else -1
def plSlot (C : Nat → Int) (s k i : Int) : Int := if inB i (plS C) = true then (if inB s (C 0) = true then placeR (3 + s * plE C + 3) (1 + plS C) (C 1) k (1 + i) else -1) else -1
def plNode (C : Nat → Int) (n q : Int) : Int := placeR (plA C) 4 (C 3) n q
def plTick (C : Nat → Int) (n q : Int) : Int := placeR (plB C) 3 (C 4) n q
def plConn (C : Nat → Int) (n : Int) : Int := placeR (plD C) 1 (C 7) n 0

theorem inB_iff {i n : Int} : inB i n = true ↔ 0 ≤ i ∧ i < n := by simp [inB]
theorem inB_no {i n : Int} (h : i < 0 ∨ n ≤ i) : inB i n = false := by
  rw [Bool.eq_false_iff]; intro h1; rw [inB_iff] at h1; omega
theorem placeR_in {f e n i q : Int} (h0 : 0 ≤ i) (h1 : i < n) : placeR f e n i q = f + i * e + q := by simp [placeR, inB_iff.2 ⟨h0, h1⟩]
theorem placeR_out {f e n i q : Int} (h : inB i n = false) : placeR f e n i q = -1 := by simp [placeR, h]

end Go.Proofs.YtgbepebihlmedaaDoor
