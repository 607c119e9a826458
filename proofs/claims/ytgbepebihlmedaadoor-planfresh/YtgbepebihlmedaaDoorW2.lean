/- Contracts: several numbers laid in one word (lay, the document's Word). -/
import Derived.Test.YtgbepebihlmedaaDoorW1
import Derived.Test.YtgbepebihlmedaaDoorPack
import Derived.WalkSmall
namespace Go.Proofs.YtgbepebihlmedaaDoor
open Go.RowKit

theorem val_int {k : IntKind} {a b : Int} (h : a = b) : Value.int k a = .int k b := by rw [h]

/-- a slice that reads as these numbers. -/
def IsInts (w : World) (b : Nat) (ws : List Int) : Prop := b < w.heap.size ∧ ∀ i, i < ws.length → w.cell? ⟨b, i, none⟩ = some (.int .i64 (ws.getD i 0))

set_option maxHeartbeats 1000000 in
theorem lay_any (a0 a1 a2 a3 : Int) (ws : List Int) (b cap : Nat) (w : World) (hw : Wide ws) (hlen : ws.length ≤ 4) (hws : IsInts w b ws)
    (ha : ∀ i, i < 4 → -9223372036854775808 ≤ [a0, a1, a2, a3].getD i 0 ∧ [a0, a1, a2, a3].getD i 0 ≤ 9223372036854775807) :
    Calls Tryd.prog 61 #[.agg #[.int .i64 a0, .int .i64 a1, .int .i64 a2, .int .i64 a3], .slice (some ⟨b, 0, none⟩) ws.length cap] w
      fun e w' => e = .returned (.tuple #[.int .u64 (packW [a0, a1, a2, a3] ws), .int .i64 (packE [a0, a1, a2, a3] ws)]) ∧ Below w.heap.size w w' := by
  obtain ⟨hb, hc⟩ := hws
  have HC := Lib.hid hc
  have HA := Lib.hid ha
  clear hc ha
  go_enter Tryd.func61, Tryd.ntmps61
  go_wp2_with fail
  go_loopw [6, 7, 14] (fun v s i W => ∃ k : Nat, k ≤ ws.length ∧ okTo [a0, a1, a2, a3] ws k ∧ i = .int .i64 k ∧ v = .int .u64 (packTo [a0, a1, a2, a3] ws k * pw (64 - sumTo ws k)) ∧ s = .int .i64 (64 - sumTo ws k) ∧
     ∃ n, W = (w.alloc (.cells #[.int .i64 a0, .int .i64 a1, .int .i64 a2, .int .i64 a3] 90)).drewN n) (fun _ _ i _ => ws.length - (intOf i).toNat)
  case atStart => exact ⟨0, Nat.zero_le _, fun i hi => by omega, rfl, val_int (by simp [packTo]), val_int (by simp [sumTo]), 0, rfl⟩
  case round =>
    obtain ⟨k, hk, hok, rfl, rfl, rfl, n, rfl⟩ := hrel
    by_cases hlt : k < ws.length
    · obtain ⟨t0, t1⟩ := hw.part k hlt
      obtain ⟨x0, x1⟩ := HA.out k (by omega)
      have hck := HC.out k hlt
      have hbk : (#[.int .i64 a0, .int .i64 a1, .int .i64 a2, .int .i64 a3] : Array Value)[k]? = some (.int .i64 ([a0, a1, a2, a3].getD k 0)) := by
        rcases k with _ | _ | _ | _ | k
        · rfl
        · rfl
        · rfl
        · rfl
        · omega
      have s0 := sumTo_nonneg hw k hk
      have s1 := sumTo_le hw (k + 1) hlt
      have e1 : sumTo ws (k + 1) = sumTo ws k + ws.getD k 0 := rfl
      rw [e1] at s1
      obtain ⟨b0, b1⟩ := word_bd hw k hk hok
      have Hst := Lib.hid (fun g => pack_step (ls := [a0, a1, a2, a3]) hw k hlt g)
      have Hok := Lib.hid hok
      have E1 := Lib.hid e1
      clear hok e1
      generalize hx : [a0, a1, a2, a3].getD k 0 = x at *
      generalize ht : ws.getD k 0 = t at *
      generalize hP : packTo [a0, a1, a2, a3] ws k * pw (64 - sumTo ws k) = P at *
      generalize hS : sumTo ws k = S at *
      have HX := Lib.hid hx
      have HT := Lib.hid ht
      have HP := Lib.hid hP
      have HS := Lib.hid hS
      clear hx ht hP hS
      have pp := pw_le_63 t (by omega) (by omega)
      have hpart : partB (64 - S - t) t = true := partB_mk (by omega)
      have HPt := Lib.hid hpart
      clear hpart
      by_cases hg : 0 ≤ x ∧ x < pw t
      · have hput := Hst.out hg

        have HPut := Lib.hid hput
        have he0 : putE (64 - S - t) t x = 0 := by simp [putE, HPt.out, hg.2]
        have HE := Lib.hid he0
        clear hput he0
        obtain ⟨g0, g1⟩ := hg
        go_wp2_with fail
        refine (put_any _ _ _ _ _ (by omega) (by omega) (by omega) (by omega) (by omega)).mono ?_
        rintro e w' ⟨rfl, m, rfl⟩
        rw [HPut.out, HE.out]
        go_wp2
        go_roundw
        case rel =>
          refine ⟨k + 1, by omega, okTo_succ Hok.out ?_, by go_num, rfl, val_int ?_, _, rfl⟩
          · rw [HX.out, HT.out]; exact ⟨g0, g1⟩
          · rw [E1.out]; omega
        case measure => simp [intOf]; omega
      · have hpu : pw t ≤ IntKind.u64.wrap x ∧ 0 ≤ IntKind.u64.wrap x ∧ IntKind.u64.wrap x < 18446744073709551616 := by
          rw [IntKind.wrap_u64]; omega
        have he0 : putE (64 - S - t) t (IntKind.u64.wrap x) = 2 := by simp [putE, HPt.out]; omega
        have HE := Lib.hid he0
        have hno : ¬ okTo [a0, a1, a2, a3] ws ws.length := okTo_not hlt (by rw [HX.out, HT.out]; exact hg)
        have HW := Lib.hid (packW_no hno)
        have HEE := Lib.hid (packE_no hno)
        clear he0 hno hg
        go_wp2_with fail
        refine (put_any _ _ _ _ _ (by omega) (by omega) (by omega) (by omega) (by omega)).mono ?_
        rintro e w' ⟨rfl, m, rfl⟩
        rw [HE.out]
        go_wp2
        go_ret2
        exact ⟨ret_two HW.out.symm HEE.out.symm, below_drewN ((Below.refl _ _).alloc (Nat.le_refl _) _) _⟩
    · obtain rfl : ws.length = k := by omega
      have HW := Lib.hid (packW_ok hok)
      have HEE := Lib.hid (packE_ok hok)
      have HP := Lib.hid (pack_all (ls := [a0, a1, a2, a3]) hw)
      clear hok
      go_wp2
      go_ret2
      exact ⟨ret_two (HP.out.trans HW.out.symm) HEE.out.symm, below_drewN ((Below.refl _ _).alloc (Nat.le_refl _) _) _⟩

end Go.Proofs.YtgbepebihlmedaaDoor
