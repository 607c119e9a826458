/- The law: the batches of deadlines are just when one of them is due, each once, rising. -/
import Derived.Test.YtplbebfiebojhaaR6
namespace Go.Proofs.Ytplbebfiebojhaa
open Go.RowKit Go.Maps

/-- is one of the first m deadlines due at t? -/
def anyDue (xs : List Int) (s t : Int) (m : Nat) : Bool := (xs.take m).any fun x => due x s == t
theorem anyDue_succ (xs : List Int) (s t : Int) (m : Nat) (h : m < xs.length) : anyDue xs s t (m + 1) = (anyDue xs s t m || (due (xs.getD m 0) s == t)) := by
  unfold anyDue
  rw [List.take_succ_eq_append_getElem h, List.any_append]
  simp [List.getD, h]
theorem anyDue_all {xs : List Int} {s t : Int} (h : t ∈ dues xs s) : anyDue xs s t xs.length = true := by
  unfold anyDue
  rw [List.take_length, List.any_eq_true]
  obtain ⟨y, hy, rfl⟩ := dues_mem.1 h
  exact ⟨y, hy, by simp⟩

/-- is one of the first m times t? -/
def anyIs (ts : List Int) (t : Int) (m : Nat) : Bool := (ts.take m).any fun x => x == t
theorem anyIs_succ (ts : List Int) (t : Int) (m : Nat) (h : m < ts.length) : anyIs ts t (m + 1) = (anyIs ts t m || (ts.getD m 0 == t)) := by
  unfold anyIs
  rw [List.take_succ_eq_append_getElem h, List.any_append]
  simp [List.getD, h]
theorem anyIs_all {ts : List Int} {t : Int} (h : t ∈ ts) : anyIs ts t ts.length = true := by
  unfold anyIs
  rw [List.take_length, List.any_eq_true]
  exact ⟨t, h, by simp⟩

theorem getD_mem {ts : List Int} {i : Nat} (h : i < ts.length) : ts.getD i 0 ∈ ts := by simp [List.getD, h]
theorem rises_at {dl ts : List Int} (h : Rises dl ts) {i : Nat} (hi : i + 1 < ts.length) : ts.getD i 0 < ts.getD (i + 1) 0 := by
  have := List.pairwise_iff_getElem.1 h.up i (i + 1) (by omega) hi (by omega)
  simpa [List.getD, hi, show i < ts.length by omega] using this

set_option maxRecDepth 100000 in
set_option maxHeartbeats 4000000 in
theorem batches_law (A : Option Addr) (n cp : Nat) (xs : List Int) (s : Int) (w : World) (hr : Row w .i64 A n xs) (hs : 0 ≤ s ∧ s < 65536) :
    Calls Try.prog 6 #[.slice A n cp, .int .u16 s] w fun e w' => e = .returned (.bool true) ∧ Below w.heap.size w w' := by
  have hmx := hr.most
  unfold maxLen at hmx
  have hln := hr.len
  by_cases hlen : n ≤ 40
  · go_enter Try.func6, Try.ntmps6
    go_wp2_with fail
    refine (speaks4_any _).mono ?_
    rintro e w1 ⟨rfl, rfl⟩
    go_wp2_with fail
    refine (batches_any A n cp xs s w hr hlen).mono ?_
    rintro e w1 ⟨v, ts, rfl, hrow, hri, hle, hbe⟩
    have hkl : ts.length ≤ 40 := by simp [dues] at hle; omega
    obtain ⟨A2, cp2, rfl, hr2⟩ := hrow.row
    have hr1 := hr.keep (Nat.le_refl _) hbe
    clear hrow hle hr
    obtain ⟨k, hl2⟩ : ∃ k, ts.length = k := ⟨_, rfl⟩
    rw [hl2] at hr2 hkl
    rw [hl2]
    go_wp2_with fail
    go_loop [30] (fun i => ∃ q : Nat, q ≤ k ∧ i = .int .i64 q) (fun i => k - (intOf i).toNat)
    case atStart => exact ⟨0, by omega, rfl⟩
    case round =>
      obtain ⟨q, hqk, rfl⟩ := hrel
      by_cases hlt : q < k
      · obtain ⟨a2, rfl, hab2, hcell2⟩ := hr2.at_ (by omega)
        have hc2 := hcell2 q hlt
        have HT := Lib.hid (anyDue_all ((hri.mem _).1 (getD_mem (ts := ts) (i := q) (by omega))))
        rw [hln] at HT
        have hprev : q = 0 ∨ ∃ j : Nat, q = j + 1 ∧ (q : Int) - 1 = j ∧ w1.cell? (a2.add j) = some (.int .i64 (ts.getD j 0)) ∧ ts.getD j 0 < ts.getD q 0 := by
          rcases Nat.eq_zero_or_pos q with h | h
          · exact .inl h
          · refine .inr ⟨q - 1, by omega, by omega, hcell2 (q - 1) (by omega), ?_⟩
            have := rises_at hri (i := q - 1) (by omega)
            rwa [show q - 1 + 1 = q by omega] at this
        clear hcell2
        generalize ts.getD q 0 = t at *
        go_wp2_with fail
        go_loop [8, 37] (fun p i => ∃ m : Nat, m ≤ n ∧ i = .int .i64 m ∧ p = .bool (anyDue xs s t m)) (fun _ i => n - (intOf i).toNat)
        case atStart => exact ⟨0, by omega, rfl, rfl⟩
        case round =>
          obtain ⟨m, hmn, rfl, rfl⟩ := hrel
          by_cases hlt1 : m < n
          · obtain ⟨a, rfl, hab, hcell⟩ := hr1.at_ (by omega)
            have hc := hcell m hlt1
            have HS := Lib.hid (anyDue_succ xs s t m (by omega))
            have c1 := up_any (xs.getD m 0) s w1
            clear hcell hprev
            generalize xs.getD m 0 = y at *
            generalize due y s = d at *
            generalize anyDue xs s t m = p at *
            cases p
            · go_wp2_with fail
              refine c1.mono ?_
              rintro e w2 ⟨rfl, rfl⟩
              clear c1
              go_wp2
              go_roundw
              case rel => exact ⟨m + 1, by omega, by go_num, by rw [HS.out]; simp⟩
              case measure => simp [intOf]; omega
            · clear c1
              go_wp2
              go_roundw
              case rel => exact ⟨m + 1, by omega, by go_num, by rw [HS.out]; rfl⟩
              case measure => simp [intOf]; omega
          · obtain rfl : m = n := by omega
            rw [HT.out]
            rcases hprev with hq0 | ⟨j, hj, hix, hcp, hlt3⟩
            · go_wp2
              go_roundw
              case rel => exact ⟨q + 1, by omega, by go_num⟩
              case measure => simp [intOf]; omega
            · have hpos : 0 < q := by omega
              have hjk : j < k := by omega
              clear hj
              generalize ts.getD j 0 = t0 at *
              go_wp2
              go_roundw
              case rel => exact ⟨q + 1, by omega, by go_num⟩
              case measure => simp [intOf]; omega
      · obtain rfl : q = k := by omega
        go_wp2_with fail
        go_loop [69] (fun i => ∃ m : Nat, m ≤ n ∧ i = .int .i64 m) (fun i => n - (intOf i).toNat)
        case atStart => exact ⟨0, by omega, rfl⟩
        case round =>
          obtain ⟨m, hmn, rfl⟩ := hrel
          by_cases hlt1 : m < n
          · obtain ⟨a, rfl, hab, hcell⟩ := hr1.at_ (by omega)
            have hc := hcell m hlt1
            have HT := Lib.hid (anyIs_all ((hri.mem _).2 (dues_mem.2 ⟨xs.getD m 0, getD_mem (by omega), rfl⟩)))
            rw [hl2] at HT
            have c1 := up_any (xs.getD m 0) s w1
            clear hcell
            generalize xs.getD m 0 = y at *
            generalize due y s = d at *
            go_wp2_with fail
            go_loop [13, 75] (fun p i => ∃ z : Nat, z ≤ q ∧ i = .int .i64 z ∧ p = .bool (anyIs ts d z)) (fun _ i => q - (intOf i).toNat)
            case atStart => exact ⟨0, by omega, rfl, rfl⟩
            case round =>
              obtain ⟨z, hzq, rfl, rfl⟩ := hrel
              by_cases hlt2 : z < q
              · obtain ⟨a2, rfl, hab2, hcell2⟩ := hr2.at_ (by omega)
                have hc2 := hcell2 z hlt2
                have HS := Lib.hid (anyIs_succ ts d z (by omega))
                clear hcell2
                generalize ts.getD z 0 = t at *
                generalize anyIs ts d z = p at *
                cases p
                · go_wp2_with fail
                  refine c1.mono ?_
                  rintro e w2 ⟨rfl, rfl⟩
                  clear c1
                  go_wp2
                  go_roundw
                  case rel => exact ⟨z + 1, by omega, by go_num, by rw [HS.out]; simp⟩
                  case measure => simp [intOf]; omega
                · clear c1
                  go_wp2
                  go_roundw
                  case rel => exact ⟨z + 1, by omega, by go_num, by rw [HS.out]; rfl⟩
                  case measure => simp [intOf]; omega
              · obtain rfl : z = q := by omega
                rw [HT.out]
                go_wp2
                go_roundw
                case rel => exact ⟨m + 1, by omega, by go_num⟩
                case measure => simp [intOf]; omega
          · obtain rfl : m = n := by omega
            go_wp2
            go_ret
            exact ⟨rfl, hbe⟩
  · go_enter Try.func6, Try.ntmps6
    go_wp2_with fail
    refine (speaks4_any _).mono ?_
    rintro e w1 ⟨rfl, rfl⟩
    go_wp2_with fail
    refine (speaks4_any _).mono ?_
    rintro e w1 ⟨rfl, rfl⟩
    go_wp2
    go_ret
    exact ⟨rfl, Below.refl _ _⟩

end Go.Proofs.Ytplbebfiebojhaa
