/- The law: what is added and taken off again leaves a cell as it was. -/
import Derived.Test.YtpikcfnfappdiaaC6
namespace Go.Proofs.Ytpikcfnfappdiaa
open Go.RowKit

/-- what is in the cell when m numbers have been added. -/
def addTo (first : Int) (xs : List Int) : Nat → Int
  | 0 => first
  | m + 1 => sum64 (addTo first xs m) (xs.getD m 0)
theorem addTo_succ (first : Int) (xs : List Int) (m : Nat) : addTo first xs (m + 1) = sum64 (addTo first xs m) (xs.getD m 0) := rfl
theorem addTo_fit (first : Int) (xs : List Int) (h : U64 first) : ∀ m, U64 (addTo first xs m)
  | 0 => h
  | _ + 1 => sum64_fit _ _
theorem sum64_neg {s x : Int} (h : U64 s) : sum64 (sum64 s x) (IntKind.u64.wrap (-x)) = s := by
  obtain ⟨h0, h1⟩ := h
  rw [IntKind.wrap_u64, sum64_eq, sum64_eq]; omega

/-- an arena of two cells, that have 0 and x. -/
def TwoAt (w : World) (p c : Nat) (k x : Int) (W : World) : Prop := U64 x ∧ Arena W p c [0, x] k ∧ Below w.heap.size w W

theorem two_get (x : Int) : getA [0, x] 1 = x := by simp [getA, hasA]
theorem two_get0 (x : Int) : getA [0, x] 0 = 0 := by simp [getA, hasA]
theorem two_set (x v : Int) : setA [0, x] 1 v = [0, v] := by simp [setA, hasA]
theorem two_has (x : Int) : hasA [0, x] 1 = true := by simp [hasA]
theorem two_more (x k : Int) : moreA [0, x] 1 k = k + 1 := by simp [moreA, hasA]
theorem two_more0 (x k : Int) : moreA [0, x] 0 k = k + 1 := by simp [moreA, hasA]

theorem TwoAt.next {w : World} {p c : Nat} {x x' k k' : Int} {W W' : World} (h : TwoAt w p c k x W) (hp : w.heap.size ≤ p) (hc : w.heap.size ≤ c) (hn : U64 x') (g : Aft W p c [0, x'] k' W') : TwoAt w p c k' x' W' := by
  obtain ⟨_, _, hb⟩ := h
  exact ⟨hn, g.1, hb.trans (g.2.below (by simp; omega) hb.size)⟩

set_option maxHeartbeats 1000000 in
theorem adds_law (first : Int) (A : Option Addr) (n cp : Nat) (xs : List Int) (w : World) (hf : U64 first) (hr : Row w .u64 A n xs) :
    Calls Try.prog 4 #[.int .u64 first, .slice A n cp] w fun e w' => e = .returned (.bool true) ∧ Below w.heap.size w w' := by
  have hmx := hr.most
  unfold maxLen at hmx
  by_cases hlen : n ≤ 80
  · go_enter Try.func4, Try.ntmps4
    go_wp2_with fail
    refine (speaks_any _).mono ?_
    rintro e w1 ⟨rfl, hb1⟩
    go_wp2_with fail
    refine (new_any 2 _ (by omega) (by omega)).mono ?_
    rintro e w2 ⟨rfl, hm⟩
    go_wp2_with fail
    refine (store_any _ _ hf hm.1 (by omega)).mono ?_
    rintro e w3 ⟨rfl, h3⟩
    rw [show List.replicate 2 (0 : Int) = [0, 0] from rfl, two_has]
    rw [show List.replicate 2 (0 : Int) = [0, 0] from rfl, two_set, two_more] at h3
    have hp1 := hb1.size
    have hat : TwoAt w (w1.heap.size + 1) w1.heap.size 1 first w3 := ⟨hf, h3.1, hb1.trans ((hm.below h3.2).mono hp1)⟩
    clear h3 hm
    go_wp2_with fail
    go_loopw [7, 38] (fun s i W => ∃ m : Nat, m ≤ n ∧ i = .int .i64 m ∧ s = .int .u64 (addTo first xs m) ∧ TwoAt w (w1.heap.size + 1) w1.heap.size (m + 1) (addTo first xs m) W) (fun _ i _ => n - (intOf i).toNat)
    case atStart => exact ⟨0, by omega, rfl, rfl, hat⟩
    case round =>
      clear hat
      obtain ⟨m, hmn, rfl, rfl, hat⟩ := hrel
      obtain ⟨hx, har, hbw⟩ := id hat
      by_cases hlt : m < n
      · obtain ⟨a, rfl, hab, hcell⟩ := (hr.keep (Nat.le_refl _) hbw).at_ (by omega)
        have hc := hcell m hlt
        have HS := Lib.hid (addTo_succ first xs m)
        have hy := hr.fit m
        clear hcell
        generalize xs.getD m 0 = x at *
        generalize addTo first xs m = s at *
        go_wp2_with fail
        refine (add_any _ _ har (by omega)).mono ?_
        rintro e w4 ⟨rfl, h4⟩
        rw [two_get]
        rw [two_get, two_set, two_more] at h4
        have hat4 := hat.next (by omega) (by omega) (sum64_fit _ _) h4
        rw [← HS.out] at hat4
        go_wp2
        go_roundw
        case rel => exact ⟨m + 1, by omega, by go_num, by rw [HS.out]; rfl, by simpa using hat4⟩
        case measure => simp [intOf]; omega
      · obtain rfl : m = n := by omega
        go_wp2_with fail
        go_loopw [53] (fun i W => ∃ q : Nat, q ≤ m ∧ i = .int .i64 q ∧ TwoAt w (w1.heap.size + 1) w1.heap.size (m + 1 + q) (addTo first xs (m - q)) W) (fun i _ => m - (intOf i).toNat)
        case atStart => exact ⟨0, by omega, rfl, by simpa using hat⟩
        case round =>
          clear hat hx har hbw
          obtain ⟨q, hq, rfl, hat⟩ := hrel
          obtain ⟨hx, har, hbw⟩ := id hat
          by_cases hlt : q < m
          · obtain ⟨j, hj⟩ : ∃ j, m = j + 1 + q := ⟨m - 1 - q, by omega⟩
            obtain ⟨a, rfl, hab, hcell⟩ := (hr.keep (Nat.le_refl _) hbw).at_ (by omega)
            have hc := hcell j (by omega)
            have hix : (m : Int) - 1 - q = j := by omega
            have hjl : j < m := by omega
            have HS := Lib.hid (addTo_succ first xs j)
            have HE := Lib.hid (show m - q = j + 1 by omega)
            have HE' := Lib.hid (show m - (q + 1) = j by omega)
            have hy := hr.fit j
            have hs := addTo_fit first xs hf j
            clear hcell hj
            rw [HE.out, HS.out] at hat har
            generalize xs.getD j 0 = x at *
            generalize hsj : addTo first xs j = s at *
            have HJ := Lib.hid hsj
            clear hsj hx
            go_wp2_with fail
            refine (add_any _ _ har (by omega)).mono ?_
            rintro e w4 ⟨rfl, h4⟩
            rw [two_get, two_set, two_more, sum64_neg hs] at h4
            have hat4 := hat.next (by omega) (by omega) hs h4
            rw [← HJ.out, ← HE'.out] at hat4
            clear hix
            go_wp2
            go_roundw
            case rel => exact ⟨q + 1, by omega, by go_num, by rw [show ((m : Int) + 1 + ((q + 1 : Nat) : Int)) = (m : Int) + 1 + q + 1 by omega]; exact hat4⟩
            case measure => simp [intOf]; omega
          · obtain rfl : q = m := by omega
            rw [show q - q = 0 by omega] at hat har
            rw [show addTo first xs 0 = first from rfl] at hat har
            clear hx
            go_wp2_with fail
            refine (load_any _ har (by omega)).mono ?_
            rintro e w4 ⟨rfl, h4⟩
            rw [two_get]
            rw [two_more] at h4
            have hat4 := hat.next (by omega) (by omega) hf h4
            go_wp2_with fail
            refine (load_any _ h4.1 (by omega)).mono ?_
            rintro e w5 ⟨rfl, h5⟩
            rw [two_get0]
            rw [two_more0] at h5
            have hat5 := hat4.next (by omega) (by omega) hf h5
            have hq2 : (3 : Int) + 2 * q = (q : Int) + 1 + q + 1 + 1 := by omega
            go_wp2_with fail
            refine (count_any h5.1).mono ?_
            rintro e w6 ⟨rfl, rfl⟩
            go_wp2
            go_ret
            exact ⟨rfl, hat5.2.2⟩
  · go_enter Try.func4, Try.ntmps4
    go_wp2_with fail
    refine (speaks_any _).mono ?_
    rintro e w1 ⟨rfl, hb1⟩
    go_wp2_with fail
    refine (speaks_any _).mono ?_
    rintro e w2 ⟨rfl, hb2⟩
    go_wp2
    go_ret
    exact ⟨rfl, hb1.trans (hb2.mono hb1.size)⟩

end Go.Proofs.Ytpikcfnfappdiaa
