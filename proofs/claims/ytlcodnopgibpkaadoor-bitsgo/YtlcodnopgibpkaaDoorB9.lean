/- The law: going from one slot to the next, and cutting a set where one likes, one comes by each slot once. -/
import Derived.Test.YtlcodnopgibpkaaDoorB8
namespace Go.Proofs.YtlcodnopgibpkaaDoor
open Go.RowKit

/-- how far one still may go. -/
def leftOf (z : Int) : Nat := if z < 0 then 0 else (64 - z).toNat
theorem leftOf_lt {j : Nat} {y : Int} (hj : j < 64) (h : y = -1 ∨ (j : Int) < y) : leftOf y < leftOf j := by
  unfold leftOf
  rw [if_neg (show ¬ (j : Int) < 0 by omega)]
  split <;> omega

set_option maxHeartbeats 4000000 in
theorem go6_law (s i : Nat) (w : World) (hT : Tab w) (hs : s < 18446744073709551616) (hi : i < 256) :
    Calls Tryd.prog 5 #[.int .u64 s, .int .u8 i] w fun e w' => e = .returned (.bool true) ∧ Below w.heap.size w w' := by
  obtain ⟨k, hK⟩ : ∃ k, k = i % 64 := ⟨_, rfl⟩
  have hk : k < 64 := by omega
  have EK := Lib.hid (show (i : Int) % 64 = k by omega)
  clear hK
  have ll := bw_lt hs 0 ((k : Int) - 1)
  have lh := bw_lt hs k 63
  have c1 := fun v => between_any hs 0 ((k : Int) - 1) v (by omega)
  have c2 := fun v => between_any hs k 63 v (by omega)
  have HO := Lib.hid (or_nat ll lh)
  have HA := Lib.hid (and_nat ll lh)
  rw [g_or hs k] at HO
  rw [g_and hs k] at HA
  have c3 := fun v => count_any ll v
  have c4 := fun v => count_any lh v
  have c5 := fun v => count_any hs v
  have lc := cnt_le s
  have c6 := fun v hv => next_any lh 0 v hv
  have c7 := fun v hv => next_any hs k v hv
  have c8 := fun v hv => next_any hs (-5) v hv
  rw [g_next hs k] at c6
  rw [← g_cnt hs k] at c5 lc
  have h0 : At s (nx s (-5)) 0 := at_next hs 0 (by omega)
  have HG := Lib.hid (g_cnt hs k)
  generalize nx s (-5) = z0 at *
  generalize nx s k = z1 at *
  generalize hl : cnt (bw s 0 ((k : Int) - 1)) = n1 at *
  generalize hh : cnt (bw s k 63) = n2 at *
  clear hl hh
  generalize bw s 0 ((k : Int) - 1) = L at *
  generalize bw s k 63 = H at *
  go_enter Tryd.func5, Tryd.ntmps5
  go_wp2_with fail
  refine (speaks6_any _ hT).mono ?_
  rintro e w1 ⟨rfl, k1⟩
  have hT1 := hT.keep k1
  go_upto_region 5 with (fail)
  rw [EK.out]
  go_wp2_with fail
  refine (c1 _).mono ?_
  rintro e w2 ⟨rfl, rfl⟩
  go_wp2_with fail
  refine (c2 _).mono ?_
  rintro e w2 ⟨rfl, rfl⟩
  go_wp2_with (first | rw [HO.out] | rw [HA.out] | fail)
  refine (c3 _).mono ?_
  rintro e w2 ⟨rfl, rfl⟩
  go_wp2_with fail
  refine (c4 _).mono ?_
  rintro e w2 ⟨rfl, rfl⟩
  go_wp2_with fail
  refine (c5 _).mono ?_
  rintro e w2 ⟨rfl, rfl⟩
  go_wp2_with fail
  refine (c8 _ hT1).mono ?_
  rintro e w2 ⟨rfl, rfl⟩
  go_wp2_with fail
  go_loop [9, 10] (fun n i => ∃ (m : Nat) (z : Int), At s z m ∧ n = .int .i64 m ∧ i = .int .i64 z) (fun _ i => leftOf (intOf i))
  case atStart => exact ⟨0, _, h0, rfl, rfl⟩
  case round =>
    obtain ⟨m, z, hA, rfl, rfl⟩ := hrel
    rcases hA.is with ⟨rfl, hm⟩ | ⟨j, rfl, hj, hb, hm⟩
    · obtain rfl : m = n1 + n2 := by rw [hm, HG.out]
      clear hm hA
      go_wp2_with fail
      refine (c5 _).mono ?_
      rintro e w2 ⟨rfl, rfl⟩
      go_wp2_with fail
      refine (c6 _ hT1).mono ?_
      rintro e w2 ⟨rfl, rfl⟩
      go_wp2_with fail
      refine (c7 _ hT1).mono ?_
      rintro e w2 ⟨rfl, rfl⟩
      go_wp2
      go_ret
      exact ⟨ret_bool (by simp), k1⟩
    · have hle := below_le s j
      rw [← hm] at hle
      have d1 := fun v => has_any hs j v
      have d2 := fun v => without_any hs j v
      have d3 := fun v => has_any (wo_lt hs j) j v
      have d4 := fun v => with_any (wo_lt hs j) j v
      have d5 := fun v hv => next_any hs ((j : Int) + 1) v hv
      rw [has_bit hb] at d1
      rw [has_out hs] at d3
      rw [in_out_same hs hj hb] at d4
      have hN := Lib.hid (at_next hs (j + 1) (by omega))
      rw [below_succ, if_pos hb, List.length_append, ← hm] at hN
      have hN : Hid (At s (nx s ((j : Int) + 1)) (m + 1)) := hN
      have hsp := nx_spec hs ((j : Int) + 1)
      have HM : Hid (nx s ((j : Int) + 1) = -1 ∨ (j : Int) < nx s ((j : Int) + 1)) := Lib.hid (by
        rcases hsp with ⟨h, _⟩ | ⟨q, h, _, h2, _⟩
        · exact .inl h
        · right; omega)
      clear hsp hm hA hb
      generalize wo s j = O at *
      generalize nx s ((j : Int) + 1) = y at *
      go_wp2_with fail
      refine (d1 _).mono ?_
      rintro e w2 ⟨rfl, rfl⟩
      go_wp2_with fail
      refine (d2 _).mono ?_
      rintro e w2 ⟨rfl, rfl⟩
      go_wp2_with fail
      refine (d3 _).mono ?_
      rintro e w2 ⟨rfl, rfl⟩
      go_wp2_with fail
      refine (d2 _).mono ?_
      rintro e w2 ⟨rfl, rfl⟩
      go_wp2_with fail
      refine (d4 _).mono ?_
      rintro e w2 ⟨rfl, rfl⟩
      go_wp2_with fail
      refine (d5 _ hT1).mono ?_
      rintro e w2 ⟨rfl, rfl⟩
      go_wp2
      go_round
      case rel => exact ⟨m + 1, y, hN.out, by simp, rfl⟩
      case measure =>
        exact leftOf_lt hj HM.out

theorem go6_nat (s i : Int) (w : World) (hT : Tab w) (hs : 0 ≤ s ∧ s < 18446744073709551616) (hi : 0 ≤ i ∧ i < 256) :
    Calls Tryd.prog 5 #[.int .u64 s, .int .u8 i] w fun e w' => e = .returned (.bool true) ∧ Below w.heap.size w w' := by
  obtain ⟨s', rfl⟩ := Int.eq_ofNat_of_zero_le hs.1
  obtain ⟨i', rfl⟩ := Int.eq_ofNat_of_zero_le hi.1
  exact go6_law s' i' w hT (by omega) (by omega)

end Go.Proofs.YtlcodnopgibpkaaDoor
