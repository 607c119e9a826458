/- The law: sums of times hang on no order, never fall, and stop where clocks do. -/
import Derived.Test.YtplbebfiebojhaaR3
import Derived.Test.YtplbebfiebojhaaIRow
namespace Go.Proofs.Ytplbebfiebojhaa
open Go.RowKit

/-- the sum of some times, as it is. -/
def tot : List Int → Int
  | [] => 0
  | x :: l => clk x + tot l
theorem tot_app (a b : List Int) : tot (a ++ b) = tot a + tot b := by
  induction a with
  | nil => simp [tot]
  | cons x l ih => simp [tot, ih]; omega
theorem tot_rev (a : List Int) : tot a.reverse = tot a := by
  induction a with
  | nil => rfl
  | cons x l ih => simp [tot, tot_app, ih]; omega
theorem tot_pos (a : List Int) : 0 ≤ tot a := by
  induction a with
  | nil => simp [tot]
  | cons x l ih => have := clk_in x; simp [tot]; omega
theorem clk_sum {a b : Int} (ha : 0 ≤ a) (hb : 0 ≤ b) : clk (clk a + b) = clk (a + b) := by
  unfold clk; (repeat' split) <;> omega
theorem plusTo_tot (xs : List Int) : ∀ n, n ≤ xs.length → plusTo xs n = clk (tot (xs.take n))
  | 0, _ => by simp [plusTo, tot, clk]
  | n + 1, h => by
    have hd : xs.getD n 0 = xs[n] := by simp [List.getD, show n < xs.length by omega]
    rw [plusTo_succ, plusTo_tot xs n (by omega), clk_sum (tot_pos _) (clk_in _).1, List.take_succ_eq_append_getElem (by omega), tot_app, hd]
    simp [tot]
theorem plusTo_all (xs : List Int) : plusTo xs xs.length = clk (tot xs) := by rw [plusTo_tot xs _ (Nat.le_refl _), List.take_length]

/-- the first m numbers, turned round, in v. -/
structure Rev (w : World) (xs : List Int) (m : Nat) (v : Value) (W : World) : Prop where
  row : IRow W w.heap.size v (xs.take m).reverse
  be : Below w.heap.size w W

theorem rev_succ (xs : List Int) (m : Nat) (h : m < xs.length) : (xs.take (m + 1)).reverse = [xs.getD m 0] ++ (xs.take m).reverse := by
  rw [List.take_succ_eq_append_getElem h, List.reverse_append]
  simp [List.getD, h]
theorem rev_len (xs : List Int) (m : Nat) (h : m ≤ xs.length) : (xs.take m).reverse.length = m := by simp; omega

set_option maxHeartbeats 1000000 in
theorem sums_law (A : Option Addr) (n cp : Nat) (xs : List Int) (more : Int) (w : World) (hr : Row w .i64 A n xs) (hmore : (Lit.int .i64 more).wf = true) :
    Calls Try.prog 5 #[.slice A n cp, .int .i64 more] w fun e w' => e = .returned (.bool true) ∧ Below w.heap.size w w' := by
  have hmx := hr.most
  unfold maxLen at hmx
  have hln := hr.len
  by_cases hlen : n ≤ 40
  · go_enter Try.func5, Try.ntmps5
    go_wp2_with fail
    refine (speaks4_any _).mono ?_
    rintro e w1 ⟨rfl, rfl⟩
    go_wp2_with fail
    go_loopw [5, 20] (fun v i W => ∃ m : Nat, m ≤ n ∧ i = .int .i64 m ∧ Rev w xs m v W) (fun _ i _ => n - (intOf i).toNat)
    case atStart => exact ⟨0, by omega, rfl, IRow.nil _ _, Below.refl _ _⟩
    case round =>
      obtain ⟨m, hmn, rfl, hR⟩ := hrel
      by_cases hlt : m < n
      · obtain ⟨a, rfl, hab, hcell⟩ := (hr.keep (Nat.le_refl _) hR.be).at_ (by omega)
        have hc := hcell m hlt
        have HS := Lib.hid (rev_succ xs m (by omega))
        have hy := Ints.get (xs := xs) hr.wf m
        have hrl := Lib.hid (rev_len xs m (by omega))
        clear hcell
        generalize xs.getD m 0 = y at *
        have hbs := hR.be.size
        obtain ⟨A2, cp2, rfl, hr2⟩ := hR.row.row
        have hL := IRow.lit wr [y] #[.int .i64 y] rfl hbs (Ints.one hy) (by simp)
        rw [hrl.out] at hr2
        rw [hrl.out]
        have key : ∀ v' w', IRow w' w.heap.size v' ([y] ++ (xs.take m).reverse) → Below w.heap.size (wr.alloc (.cells #[.int .i64 y] 3)) w' → Rev w xs (m + 1) v' w' := fun v' w' k1 k2 =>
          ⟨by rw [HS.out]; exact k1, (hR.be.alloc hbs _).trans k2⟩
        have hr3 := hr2.keep (Nat.le_refl _) ((Below.refl wr.heap.size wr).alloc (Nat.le_refl _) (.cells #[.int .i64 y] 3))
        clear hR hr2
        rcases Nat.eq_zero_or_pos m with hz | hpos
        · obtain ⟨i0, hi0, hz0, hz1, hz2⟩ := info_parts int_info4
          have k0 := key _ _ (by rw [hz]; exact hL) (Below.refl _ _)
          have HZ := Lib.hid hz
          clear hL hr3 key hz0 hz1 hz2 hz
          go_wp2_with (first
            | (at_builtin
               refine wpList_irow_zero rfl (.tmp 25) (.tmp 26) _ rfl 3 i0 Try.underlying22 hi0 _ 1 1 _ _ _ HZ.out (Nat.le_refl _) rfl rfl ?_)
            | fail)
          go_roundw
          case rel => exact ⟨m + 1, by omega, by go_num, k0⟩
          case measure => simp [intOf]; omega
        · go_wp2_with (first
            | (at_builtin
               refine wpList_irow hL (by simp; omega) rfl (.tmp 25) (.tmp 26) rfl rfl rfl hr3 hpos (by simp; omega) ?_
               intro v' w' k1 k2 _
               have k3 := key _ _ k1 k2
               clear k1 k2)
            | fail)
          go_roundw
          case rel => exact ⟨m + 1, by omega, by go_num, k3⟩
          case measure => simp [intOf]; omega
      · obtain rfl : m = n := by omega
        have hbs := hR.be.size
        have hrow := hR.row
        rw [show xs.take m = xs by rw [← hln, List.take_length]] at hrow
        have hb := hR.be
        have hr1 := hr.keep (Nat.le_refl _) hb
        obtain ⟨A2, cp2, rfl, hr2⟩ := hrow.row
        have e1 := plusTo_all xs
        rw [hln] at e1
        have e2 := plusTo_all xs.reverse
        rw [tot_rev] at e2
        rw [List.length_reverse, hln] at e2 hr2
        rw [List.length_reverse, hln] at hrow
        have c1 := plus_any A m cp xs wr hr1
        rw [e1] at c1
        have hS := clk_in (tot xs)
        have hT := tot_pos xs
        have hw1 : (Lit.int .i64 (clk (tot xs))).wf = true := WalkArith.wf_i64 (by omega)
        have hL2 := IRow.lit wr [clk (tot xs), more] #[.int .i64 (clk (tot xs)), .int .i64 more] rfl hbs (Ints.cons hw1 (Ints.one hmore)) (by simp)
        obtain ⟨A3, cp3, e3, hr3⟩ := hL2.row
        injection e3 with e3 e4 e5
        subst e3
        have c2 := plus_any _ 2 2 _ _ hr3
        rw [show plusTo [clk (tot xs), more] 2 = clk (tot xs + clk more) from by
          have h := plusTo_all [clk (tot xs), more]
          have hm := clk_in more
          rw [show ([clk (tot xs), more] : List Int).length = 2 from rfl] at h
          rw [h]
          simp only [tot]
          rw [clk_same hS.1 hS.2, Int.add_zero, clk_sum hT hm.1]] at c2
        have hb2 : Below w.heap.size w (wr.alloc (.cells #[.int .i64 (clk (tot xs)), .int .i64 more] 3)) := hb.alloc hbs _
        have k2 := (Below.refl wr.heap.size wr).alloc (Nat.le_refl _) (.cells #[.int .i64 (clk (tot xs)), .int .i64 more] 3)
        have c3 := plus_any A2 m cp2 _ _ (hr2.keep (Nat.le_refl _) k2)
        rw [e2] at c3
        have hr4 := hrow.alloc (.cells #[.int .i64 (clk (tot xs)), .int .i64 more] 3)
        have hm := clk_in more
        have hN : clk (tot xs) ≤ clk (tot xs + clk more) ∧ clk (tot xs + clk more) ≤ 1073741823 := by
          refine ⟨?_, (clk_in _).2⟩
          unfold clk; (repeat' split) <;> omega
        have e5 := plusTo_all (xs.reverse ++ [more])
        rw [tot_app, tot_rev, show tot [more] = clk more by simp [tot]] at e5
        rw [List.length_append, List.length_reverse, hln, List.length_singleton] at e5
        have hlr : xs.reverse.length = m := by rw [List.length_reverse]; exact hln
        have H5 := Lib.hid e5
        have HL := Lib.hid hlr
        clear hR hrow e1 e2 hr1 hr2 hL2 hr3 e4 e5 k2 hlr
        generalize clk (tot xs + clk more) = N at *
        generalize clk (tot xs) = S at *
        go_wp2_with fail
        refine c1.mono ?_
        rintro e w1 ⟨rfl, rfl⟩
        clear c1
        go_wp2_with fail
        refine c2.mono ?_
        rintro e w1 ⟨rfl, rfl⟩
        clear c2
        have hs2 : w.heap.size ≤ (wr.alloc (.cells #[.int .i64 S, .int .i64 more] 3)).heap.size := hb2.size
        generalize wr.alloc (.cells #[.int .i64 S, .int .i64 more] 3) = w2 at *
        go_wp2_with fail
        refine c3.mono ?_
        rintro e w1 ⟨rfl, rfl⟩
        clear c3
        have hL4 := IRow.lit w2 (B := w.heap.size) [more] #[.int .i64 more] rfl hs2 (Ints.one hmore) (by simp)
        obtain ⟨A5, cp5, e6, hr5⟩ := hL4.row
        injection e6 with e6 e7 e8
        subst e6
        have hr6 := hr4.alloc (.cells #[.int .i64 more] 3)
        have hb3 := hb2.alloc hs2 (.cells #[.int .i64 more] 3)
        clear hr4 hL4 e7 e8
        go_wp2_with (first
            | (at_builtin
               refine wpList_irow_g hr6 (by simp; omega) (by rfl) (.tmp 57) (.tmp 59) rfl rfl rfl hr5 (by simp) (by rw [HL.out]; omega) ?_
               intro v' w' k1 k2 _
               obtain ⟨A7, cp7, rfl, hr7⟩ := k1.row
               have c4 := plus_any A7 _ cp7 _ _ hr7
               rw [show (xs.reverse ++ [more]).length = m + 1 by rw [List.length_append, HL.out]; rfl, H5.out] at c4
               have hb4 := hb3.trans k2
               clear hr7 k1 k2)
            | fail)
        refine c4.mono ?_
        rintro e w1 ⟨rfl, rfl⟩
        clear c4
        go_wp2
        go_ret
        exact ⟨ret_bool (by simp), hb4⟩
  · go_enter Try.func5, Try.ntmps5
    go_wp2_with fail
    refine (speaks4_any _).mono ?_
    rintro e w1 ⟨rfl, rfl⟩
    go_wp2_with fail
    refine (speaks4_any _).mono ?_
    rintro e w1 ⟨rfl, rfl⟩
    go_wp2
    go_ret
    exact ⟨rfl, Below.refl _ _⟩

end Go.Proofs.Ytplbebfiebojhaa
