/- The law: when deadlines are due, which of them at once, and what times come to, is as the document says. -/
import Derived.Test.YtplbebfiebojhaaR10
namespace Go.Proofs.Ytplbebfiebojhaa
open Go.RowKit

set_option maxRecDepth 100000 in
set_option maxHeartbeats 4000000 in
theorem tells_law (a b s : Int) (A : Option Addr) (n cp : Nat) (xs : List Int) (w : World) (hr : Row w .i64 A n xs) :
    Calls Try.prog 3 #[.int .i64 a, .int .i64 b, .int .i64 s, .slice A n cp] w fun e w' => e = .returned (.bool true) ∧ Below w.heap.size w w' := by
  have hmx := hr.most
  unfold maxLen at hmx
  have hln := hr.len
  by_cases hlen : n ≤ 40
  · have c1 := up_any a s w
    have c2 := rup_any a s w
    have c3 := batch_any a b s w
    have c4 := rup_any b s w
    have c5 := plus_any A n cp xs w hr
    have c6 := rplus_any A n cp xs w hr
    have c7 := batches_any A n cp xs s w hr hlen
    generalize due a s = da at *
    generalize due b s = db at *
    generalize plusTo xs n = S at *
    have hq : ∃ q, (da == db) = q := ⟨_, rfl⟩
    obtain ⟨q, hq⟩ := hq
    have HQ := Lib.hid hq
    rw [hq] at c3
    clear hq
    go_enter Try.func3, Try.ntmps3
    go_wp2_with fail
    refine (speaks4_any _).mono ?_
    rintro e w1 ⟨rfl, rfl⟩
    go_wp2_with fail
    refine c1.mono ?_
    rintro e w1 ⟨rfl, rfl⟩
    go_wp2_with fail
    refine c2.mono ?_
    rintro e w1 ⟨rfl, rfl⟩
    go_wp2_with fail
    refine c3.mono ?_
    rintro e w1 ⟨rfl, rfl⟩
    go_wp2_with fail
    refine c2.mono ?_
    rintro e w1 ⟨rfl, rfl⟩
    go_wp2_with fail
    refine c4.mono ?_
    rintro e w1 ⟨rfl, rfl⟩
    clear c1 c2 c3 c4
    have HQ2 : (da == db) = q := HQ.out
    go_wp2_with fail
    refine c5.mono ?_
    rintro e w1 ⟨rfl, rfl⟩
    go_wp2_with fail
    refine c6.mono ?_
    rintro e w1 ⟨rfl, rfl⟩
    clear c5 c6
    go_wp2_with fail
    refine c7.mono ?_
    rintro e w1 ⟨v, ts, rfl, hrow, hri, _, hbe⟩
    clear c7
    have hr1 := hr.keep (Nat.le_refl _) hbe
    have c8 := rbatches_any A n cp xs s w1 hr1 hlen
    go_wp2_with fail
    refine c8.mono ?_
    rintro e w2 ⟨v2, rfl, hO⟩
    clear c8
    have hri2 := batTo_rises xs s n (by omega)
    rw [show xs.take n = xs by rw [← hln, List.take_length]] at hri2
    have hts := hri.unique hri2
    have hrow2 := hO.row
    rw [← hts] at hrow2
    have hrow1 := hrow.below hO.be (Nat.le_refl _)
    obtain ⟨A1, cp1, rfl, hr3⟩ := hrow1.row
    obtain ⟨A2, cp2, rfl, hr4⟩ := hrow2.row
    have c9 := rsame_any A1 A2 ts.length cp1 cp2 ts w2 hr3 hr4
    have hb2 : Below w.heap.size w w2 := hbe.trans (hO.be.mono hbe.size)
    have hsz := hb2.size
    clear hr1 hri hri2 hts hrow hrow1 hrow2 hr3 hr4 hO hbe
    generalize ts.length = k at *
    go_wp2_with fail
    refine c9.mono ?_
    rintro e w3 ⟨rfl, hb3⟩
    go_wp2
    go_ret
    exact ⟨rfl, hb2.trans (hb3.mono hsz)⟩
  · go_enter Try.func3, Try.ntmps3
    go_wp2_with fail
    refine (speaks4_any _).mono ?_
    rintro e w1 ⟨rfl, rfl⟩
    go_wp2_with fail
    refine (speaks4_any _).mono ?_
    rintro e w1 ⟨rfl, rfl⟩
    go_wp2
    go_ret
    exact ⟨rfl, Below.refl _ _⟩

end Go.Proofs.Ytplbebfiebojhaa
