/- What stands at its place, as seen from one time, as seen from a later one: plain. -/
import Derived.Test.YtbcggalbffdhjaaD5
namespace Go.Proofs.Ytbcggalbffdhjaa
open Go.RowKit

theorem stays_nat {X Y D S kd q : Nat} (hY : Y < 4294967296) (hD : D < 4294967296) (hS : 2 ≤ S) (hXY : X < Y) (hXD : X < D) (d1 : Differ X D S kd) (d2 : Differ X Y S q) :
    (q < kd ∧ Y < D ∧ Differ Y D S kd) ∨ (kd < q ∧ D ≤ Y) ∨
    (kd = q ∧ digN X S q < digN D S q ∧ digN Y S q < digN D S q ∧ Y < D ∧ Differ Y D S q) ∨
    (kd = q ∧ digN X S q < digN D S q ∧ digN D S q ≤ digN Y S q ∧ D ≤ Y) ∨
    (kd = q ∧ digN X S q < digN D S q ∧ digN D S q ≤ digN Y S q ∧ Y < D ∧ ∃ p, p < q ∧ Differ Y D S p) := by
  have l1 := d1.less
  have l2 := d2.less
  have b1 : X / S ^ kd < D / S ^ kd ∧ digN X S kd < digN D S kd := by omega
  have b2 : X / S ^ q < Y / S ^ q ∧ digN X S q < digN Y S q := by omega
  clear l1 l2
  rcases Nat.lt_trichotomy q kd with h | h | h
  · refine .inl ⟨h, ?_, ?_, ?_⟩
    · have e := same_up d2.above (show q + 1 ≤ kd by omega)
      exact lt_at (n := kd) (S := S) (by rw [← e]; exact b1.1)
    · rw [← d1.above]; exact (same_up d2.above (by omega)).symm
    · rw [← same_up d2.above (show q + 1 ≤ kd by omega)]; exact d1.at_
  · subst h
    have e1 := step D S q
    have e2 := step Y S q
    have e3 : D / S ^ (q + 1) = Y / S ^ (q + 1) := by rw [← d1.above, ← d2.above]
    rw [e3] at e1
    rcases Nat.lt_or_ge (digN Y S q) (digN D S q) with h1 | h1
    · have h2 : Y / S ^ q < D / S ^ q := by omega
      exact .inr (.inr (.inl ⟨rfl, b1.2, h1, lt_at h2, e3.symm, by omega⟩))
    · rcases Nat.lt_or_ge Y D with h2 | h2
      · have h3 : Y / S ^ q ≤ D / S ^ q := Nat.div_le_div_right (by omega)
        have h4 : Y / S ^ q = D / S ^ q := by omega
        obtain ⟨p, _, _, hp⟩ := differ_of hY hD hS (show Y ≠ D by omega)
        refine .inr (.inr (.inr (.inr ⟨rfl, b1.2, h1, h2, p, ?_, hp⟩)))
        rcases Nat.lt_or_ge p q with h5 | h5
        · exact h5
        · exact absurd (same_up h4 h5) hp.at_
      · exact .inr (.inr (.inr (.inl ⟨rfl, b1.2, h1, h2⟩)))
  · refine .inr (.inl ⟨h, Nat.le_of_lt (lt_at (n := q) (S := S) ?_)⟩)
    rw [← same_up d1.above (show kd + 1 ≤ q by omega)]; exact b2.1

theorem top_eq {a c b : Int} {k : Nat} (h : Differ (tN a) (tN c) (sN b) k) : top a c b = k := by
  unfold top
  rw [(top_is (tN_lt a) (tN_lt c) (sN_in b).1).one h.top]; simp
theorem differ_le {A B S k : Nat} (hA : A < 4294967296) (hB : B < 4294967296) (hS : 2 ≤ S) (h : Differ A B S k) : k ≤ 31 := by
  have := top_le hA hB hS
  rw [(top_is hA hB hS).one h.top] at this; omega
theorem dig_eq {t b : Int} {k : Nat} (h : k ≤ 31) : dig t k b = digN (tN t) (sN b) k := by unfold dig; rw [lN_same (by omega)]

theorem tN_int {x : Int} (h0 : 0 ≤ x) (h1 : x ≤ 4294967295) : (tN x : Int) = x := by rw [tN_cast, tm_same h0 h1]

/-- all that the law's walk needs. -/
def Stays (Y D n k i m j q x y : Int) (ok : Bool) : Prop :=
  (k < n ∧ ok = false ∧ m = k ∧ j = i) ∨ (k < n ∧ ok = true ∧ x ≤ i ∧ y < i ∧ m = k ∧ j = i) ∨ (k < n ∧ ok = true ∧ x ≤ i ∧ i ≤ y ∧ D ≤ Y ∧ m = -1) ∨ (k < n ∧ ok = true ∧ x ≤ i ∧ i ≤ y ∧ Y < D ∧ m < k)
  ∨ (k = n ∧ q < n ∧ m = k ∧ j = i) ∨ (k = n ∧ n ≤ q ∧ D ≤ Y ∧ m = -1) ∨ (k = n ∧ n ≤ q ∧ Y < D ∧ m < k) ∨ (k = n ∧ n ≤ q ∧ Y < D ∧ m = n)

set_option maxHeartbeats 2000000 in
theorem stays {X Y D n b : Int} (X0 : 0 ≤ X) (X1 : X ≤ 4294967295) (Y0 : 0 ≤ Y) (Y1 : Y ≤ 4294967295) (D0 : 0 ≤ D) (D1 : D ≤ 4294967295) (hXY : X < Y) (hXD : X < D) :
    Stays Y D n (plK X D n b) (plI X D n b) (plK Y D n b) (plI Y D n b) (top X Y b) (crX X Y (plK X D n b) b) (crY X Y (plK X D n b) b) (crB X Y (plK X D n b) b) := by
  have hS := (sN_in b).1
  have hX := tN_int X0 X1
  have hY := tN_int Y0 Y1
  have hD := tN_int D0 D1
  have tX := tm_same X0 X1
  have tY := tm_same Y0 Y1
  have tD := tm_same D0 D1
  obtain ⟨kd, _, hk1, d1⟩ := differ_of (tN_lt X) (tN_lt D) hS (show tN X ≠ tN D by omega)
  obtain ⟨q, _, hq1, d2⟩ := differ_of (tN_lt X) (tN_lt Y) hS (show tN X ≠ tN Y by omega)
  have hs := stays_nat (tN_lt Y) (tN_lt D) hS (by omega) (by omega) d1 d2
  have t1 := top_eq d1
  have t2 := top_eq d2
  have p1 := place_cases X D n b
  have p2 := place_cases Y D n b
  have hc := cross_cases X Y (plK X D n b) b
  have hi := digN_lt hS (tN D) kd
  rw [tX, tD, t1, dig_eq hk1] at p1
  rw [tY, tD] at p2
  rw [tX, tY, t2] at hc
  rw [t2]
  rcases p1 with ⟨h, _⟩ | ⟨_, h1, e1, e2⟩ | ⟨_, h1, e1, e2⟩
  · omega
  · clear hc
    rw [e1, e2]
    unfold Stays
    rcases hs with ⟨h, h2, d3⟩ | ⟨h, h2⟩ | ⟨h, _, _, h2, d3⟩ | ⟨h, _, _, h2⟩ | ⟨h, _, _, h2, p, hp, d3⟩
    · rw [top_eq d3] at p2
      rcases p2 with ⟨h, _⟩ | ⟨_, h3, e3, e4⟩ | ⟨_, h3, e3, e4⟩
      · omega
      · rw [e3, e4]; omega
      · omega
    · rcases p2 with ⟨h, e3, e4⟩ | ⟨h, _⟩ | ⟨h, _⟩
      · rw [e3, e4]; omega
      · omega
      · omega
    · rw [top_eq d3] at p2
      rcases p2 with ⟨h, _⟩ | ⟨_, h3, e3, e4⟩ | ⟨_, h3, e3, e4⟩
      · omega
      · rw [e3, e4]; omega
      · omega
    · rcases p2 with ⟨h, e3, e4⟩ | ⟨h, _⟩ | ⟨h, _⟩
      · rw [e3, e4]; omega
      · omega
      · omega
    · rw [top_eq d3] at p2
      rcases p2 with ⟨h, _⟩ | ⟨_, h3, e3, e4⟩ | ⟨_, h3, e3, e4⟩
      · omega
      · rw [e3, e4]; omega
      · rw [e3, e4]; omega
  · -- at the level kd
    rw [e1] at hc
    rw [e1, e2]
    rw [lz_same (show (0 : Int) ≤ (kd : Int) by omega), dig_eq hk1, dig_eq hk1] at hc
    generalize crX X Y kd b = x at *
    generalize crY X Y kd b = y at *
    generalize crB X Y kd b = ok at *
    unfold Stays
    rcases hs with ⟨h, h2, d3⟩ | ⟨h, h2⟩ | ⟨rfl, h3, h4, h2, d3⟩ | ⟨rfl, h3, h4, h2⟩ | ⟨rfl, h3, h4, h2, p, hp, d3⟩
    · rw [top_eq d3, dig_eq hk1] at p2
      rcases hc with ⟨h, _⟩ | ⟨_, _, _, _, rfl⟩ | ⟨_, h, _⟩ | ⟨_, h, _⟩
      · omega
      · rcases p2 with ⟨h, _⟩ | ⟨_, h3, e3, e4⟩ | ⟨_, h3, e3, e4⟩
        · omega
        · omega
        · rw [e3, e4]; exact .inl ⟨by omega, rfl, rfl, rfl⟩
      · omega
      · omega
    · rcases hc with ⟨h, _⟩ | ⟨_, h, _⟩ | ⟨_, _, rfl, rfl, rfl⟩ | ⟨_, h, _⟩
      · omega
      · omega
      · rcases p2 with ⟨h, e3, e4⟩ | ⟨h, _⟩ | ⟨h, _⟩
        · rw [e3, e4]; exact .inr (.inr (.inl ⟨by omega, rfl, by omega, by omega, by omega, rfl⟩))
        · omega
        · omega
      · omega
    · rw [top_eq d3, dig_eq hk1] at p2
      rcases hc with ⟨h, _⟩ | ⟨_, h, _⟩ | ⟨_, h, _⟩ | ⟨_, _, rfl, rfl, rfl⟩
      · omega
      · omega
      · omega
      · rcases p2 with ⟨h, _⟩ | ⟨_, _, e3, e4⟩ | ⟨_, _, e3, e4⟩
        · omega
        · omega
        · rw [e3, e4]; exact .inr (.inl ⟨by omega, rfl, by omega, by omega, rfl, rfl⟩)
    · rcases hc with ⟨h, _⟩ | ⟨_, h, _⟩ | ⟨_, h, _⟩ | ⟨_, _, rfl, rfl, rfl⟩
      · omega
      · omega
      · omega
      · rcases p2 with ⟨h, e3, e4⟩ | ⟨h, _⟩ | ⟨h, _⟩
        · rw [e3, e4]; exact .inr (.inr (.inl ⟨by omega, rfl, by omega, by omega, by omega, rfl⟩))
        · omega
        · omega
    · rw [top_eq d3] at p2
      rcases hc with ⟨h, _⟩ | ⟨_, h, _⟩ | ⟨_, h, _⟩ | ⟨_, _, rfl, rfl, rfl⟩
      · omega
      · omega
      · omega
      · rcases p2 with ⟨h, _⟩ | ⟨_, h3, e3, e4⟩ | ⟨_, h3, e3, e4⟩
        · omega
        · omega
        · rw [e3, e4]; exact .inr (.inr (.inr (.inl ⟨by omega, rfl, by omega, by omega, by omega, by omega⟩)))

end Go.Proofs.Ytbcggalbffdhjaa
