/- The law: of all that try to turn a cell from what it has, just the first one does. -/
import Derived.Test.YtpikcfnfappdiaaC5
import Derived.Test.YtpikcfnfappdiaaArg
namespace Go.Proofs.Ytpikcfnfappdiaa
open Go.RowKit

/-- in the midst of the tries: an arena of one cell, that has 'now'; what was there is there. -/
def OneAt (w : World) (p c m : Nat) (now : Int) (W : World) : Prop := ∃ k : Int, k ≤ 2 * m + 1 ∧ U64 now ∧ Arena W p c [now] k ∧ Below w.heap.size w W

theorem casB_one (x o : Int) : casB [x] 0 o = decide (x = o) := by simp [casB, hasA, getA]
theorem casA_hit (o v : Int) : casA [o] 0 o v = [v] := by simp [casA, casB, hasA, getA, setA]
theorem casA_miss (x o v : Int) (h : ¬ x = o) : casA [x] 0 o v = [x] := by simp [casA, casB, hasA, getA, h]
theorem getA_one (x : Int) : getA [x] 0 = x := by simp [getA, hasA]
theorem setA_one (x v : Int) : setA [x] 0 v = [v] := by simp [setA, hasA]
theorem moreA_one (x k : Int) : moreA [x] 0 k = k + 1 := by simp [moreA, hasA]

theorem OneAt.next {w : World} {p c m m' : Nat} {now now' : Int} {W W' : World} {k : Int} (h : OneAt w p c m now W) (hp : w.heap.size ≤ p) (hc : w.heap.size ≤ c) (hk : k ≤ 2 * m' + 1) (hn : U64 now') (g : Aft W p c [now'] k W') : OneAt w p c m' now' W' := by
  obtain ⟨_, _, _, _, hb⟩ := h
  exact ⟨k, hk, hn, g.1, hb.trans (g.2.below (by simp; omega) hb.size)⟩

set_option maxHeartbeats 1000000 in
theorem one_law (first : Int) (A : Option Addr) (n cp : Nat) (xs : List Int) (w : World) (hf : U64 first) (hr : Row w .u64 A n xs) :
    Calls Try.prog 5 #[.int .u64 first, .slice A n cp] w fun e w' => e = .returned (.bool true) ∧ Below w.heap.size w w' := by
  have hmx := hr.most
  unfold maxLen at hmx
  by_cases hlen : n ≤ 80
  · go_enter Try.func5, Try.ntmps5
    go_wp2_with fail
    refine (speaks_any _).mono ?_
    rintro e w1 ⟨rfl, hb1⟩
    go_wp2_with fail
    refine (new_any 1 _ (by omega) (by omega)).mono ?_
    rintro e w2 ⟨rfl, hm⟩
    go_wp2_with fail
    refine (swap_any _ _ hf hm.1 (by omega)).mono ?_
    rintro e w3 ⟨rfl, h3⟩
    rw [show List.replicate 1 (0 : Int) = [0] from rfl, setA_one, moreA_one] at h3
    have hp1 := hb1.size
    have hat : OneAt w (w1.heap.size + 1) w1.heap.size 0 first w3 := ⟨_, by omega, hf, h3.1, hb1.trans ((hm.below h3.2).mono hp1)⟩
    clear h3 hm
    go_wp2_with fail
    go_loopw [7, 8, 36] (fun d nw i W => ∃ (m : Nat) (dn : Bool) (now : Int), m ≤ n ∧ i = .int .i64 m ∧ d = .bool dn ∧ nw = .int .u64 now ∧ OneAt w (w1.heap.size + 1) w1.heap.size m now W) (fun _ _ i _ => n - (intOf i).toNat)
    case atStart => exact ⟨0, false, first, by omega, rfl, rfl, rfl, hat⟩
    case round =>
      clear hat
      obtain ⟨m, dn, now, hmn, rfl, rfl, rfl, hat⟩ := hrel
      obtain ⟨k, hk, hnow, har, hbw⟩ := id hat
      by_cases hlt : m < n
      · obtain ⟨a, rfl, hab, hcell⟩ := (hr.keep (Nat.le_refl _) hbw).at_ (by omega)
        have hx := hr.fit m
        have hc := hcell m hlt
        clear hcell
        generalize xs.getD m 0 = x at *
        by_cases hne : now = first
        · subst hne
          go_wp2_with fail
          refine (cas_any _ _ _ hx har (by omega)).mono ?_
          rintro e w4 ⟨rfl, h4⟩
          rw [casB_one, decide_eq_true rfl]
          rw [casA_hit, moreA_one] at h4
          have hat4 := hat.next (m' := m + 1) (by omega) (by omega) (by omega) hx h4
          go_wp2_with fail
          all_goals
            refine (load_any _ h4.1 (by omega)).mono ?_
            rintro e w5 ⟨rfl, h5⟩
            rw [getA_one]
            rw [moreA_one] at h5
            have hat5 := hat4.next (m' := m + 1) (by omega) (by omega) (by omega) hx h5
            go_wp2
            go_roundw
            case rel => exact ⟨m + 1, true, x, by omega, by go_num, rfl, rfl, hat5⟩
            case measure => simp [intOf]; omega
        · have hbq : (now == first) = false := beq_eq_false_iff_ne.2 hne
          go_wp2_with fail
          refine (cas_any _ _ _ hx har (by omega)).mono ?_
          rintro e w4 ⟨rfl, h4⟩
          rw [casB_one, decide_eq_false hne]
          rw [casA_miss _ _ _ hne, moreA_one] at h4
          have hat4 := hat.next (m' := m + 1) (by omega) (by omega) (by omega) hnow h4
          go_wp2_with fail
          all_goals
            refine (load_any _ h4.1 (by omega)).mono ?_
            rintro e w5 ⟨rfl, h5⟩
            rw [getA_one]
            rw [moreA_one] at h5
            have hat5 := hat4.next (m' := m + 1) (by omega) (by omega) (by omega) hnow h5
            go_wp2
            go_roundw
            case rel => exact ⟨m + 1, _, now, by omega, by go_num, rfl, rfl, hat5⟩
            case measure => simp [intOf]; omega
      · go_wp2_with fail
        refine (swap_any _ _ (by simp [U64]) har (by omega)).mono ?_
        rintro e w4 ⟨rfl, h4⟩
        rw [getA_one]
        rw [setA_one, moreA_one] at h4
        have hat4 := hat.next (m' := m + 1) (by omega) (by omega) (by omega) (by simp [U64]) h4
        go_wp2_with fail
        refine (load_any _ h4.1 (by omega)).mono ?_
        rintro e w5 ⟨rfl, h5⟩
        rw [getA_one]
        rw [moreA_one] at h5
        obtain ⟨_, _, _, _, hb5⟩ := hat4.next (m' := m + 1) (by omega) (by omega) (by omega) (by simp [U64]) h5
        go_wp2
        go_ret
        exact ⟨rfl, hb5⟩
  · go_enter Try.func5, Try.ntmps5
    go_wp2_with fail
    refine (speaks_any _).mono ?_
    rintro e w1 ⟨rfl, hb1⟩
    go_wp2_with fail
    refine (speaks_any _).mono ?_
    rintro e w2 ⟨rfl, hb2⟩
    go_wp2
    go_ret
    exact ⟨rfl, hb1.trans (hb2.mono hb1.size)⟩

end Go.Proofs.Ytpikcfnfappdiaa
