/- The document's digits: forty numbers by value. -/
import Derived.Test.YtbcggalbffdhjaaD4
import Derived.Test.YtbcggalbffdhjaaVec
import Derived.Deep.DeepCutAuto
import Derived.Deep.CutBlock
namespace Go.Proofs.Ytbcggalbffdhjaa
open Go.RowKit

theorem arr5 : ArrT 35 3 40 (.int .i64 0) := ⟨Try.underlying35, by kernel_rfl, by kernel_rfl, fun W => by kernel_rfl, fun W => by kernel_rfl, fun W => by kernel_rfl⟩

/-- a time's digits below a level, and none from there on. -/
def digs (T S i : Nat) : Nat → Value := fun j => .int .i64 (if j < i then (digN T S j : Nat) else 0)
theorem digs_zero (T S : Nat) : digs T S 0 = fun _ => .int .i64 0 := by funext j; simp [digs]
theorem digs_more (T S i : Nat) : upv (digs T S i) i (.int .i64 (digN T S i : Nat)) = digs T S (i + 1) := by
  funext j
  unfold upv digs
  by_cases h : j = i
  · subst h; simp
  · rw [if_neg h]
    by_cases h2 : j < i
    · rw [if_pos h2, if_pos (by omega)]
    · rw [if_neg h2, if_neg (by omega)]
theorem digs_one (T S i : Nat) (j : Nat) : (digs T S i j).oneCell' = true := rfl
theorem digs_at (T S : Nat) {i j : Nat} (h : j < i) : digs T S i j = .int .i64 (digN T S j : Nat) := by simp [digs, h]

theorem zero_one (i : Nat) : ((fun _ => Value.int .i64 0 : Nat → Value) i).oneCell' = true := rfl

theorem wrap_small (n : Nat) (h : n < 4294967296) : wrap64 (n : Int) = n := by unfold wrap64; omega

/-- in the midst of the loop: the array's block, and the result's. -/
structure Digging (w : World) (g r T S i : Nat) (W : World) : Prop where
  arr : Lies W g 35 (vec 40 (digs T S i))
  res : Lies W r 35 (vec 40 fun _ => .int .i64 0)
  keep : Keeps w W
  own : w.heap.size ≤ g ∧ w.heap.size ≤ r ∧ g ≠ r

theorem Digging.more {w : World} {g r T S i : Nat} {W : World} {v : Int} (h : Digging w g r T S i W) (hv : v = (digN T S i : Nat)) : Digging w g r T S (i + 1) (W.setCell ⟨g, i, none⟩ (.int .i64 v)) := by
  obtain ⟨o1, o2, o3⟩ := h.own
  subst hv
  refine ⟨?_, h.res.far (fun e => o3 e.symm) _, h.keep.setCell o1 _, h.own⟩
  have := h.arr.set i (.int .i64 (digN T S i : Nat))
  rwa [vec_set, digs_more] at this

set_option maxHeartbeats 2000000 in
theorem rdigits_any (t b : Int) (w : World) :
    Calls Try.prog 22 #[.int .i64 t, .int .i64 b] w fun e w' => e = .returned (.agg (vec 40 (digs (tN t) (sN b) 40))) ∧ Keeps w w' := by
  have c1 := fun v => rtime_any t v
  have c2 := fun v => size_any b v
  rw [← tN_cast] at c1
  obtain ⟨s0, s1⟩ := sN_in b
  have ht := tN_lt t
  generalize sN b = S at *
  generalize tN t = T at *
  go_enter Try.func22, Try.ntmps22
  go_upto_region 1 with (first
    | ((with_reducible refine wpList_valloc arr5 rfl rfl ?_); intro w1 n1)
    | fail)
  go_upto_region 2 with (first
    | (with_reducible refine wpList_vbuild arr5 rfl rfl ?_)
    | ((with_reducible refine wpList_valloc arr5 rfl rfl ?_); intro w2 n2)
    | ((with_reducible refine wpList_vstore (b := w1.heap.size) (f := fun _ => .int .i64 0) arr5 rfl (.tmp 5) (.tmp 8) rfl ?_ ?_ n2.lies vec_size zero_one ?_)
       · rfl
       · rfl
       intro w3 n3)
    | fail)
  have hat : Digging w w1.heap.size w.heap.size T S 0 w3 := by
    have h1 := n1.size
    have h2 := n2.size
    refine ⟨by rw [digs_zero]; exact n3.lies, (n1.lies.below n2.below (by omega)).turn n3.turns (by simp; omega), ?_, by omega, by omega, by omega⟩
    exact (n1.below.trans (n2.below.mono (by omega))).trans ((n3.turns).below (by simp; omega) (by omega))
  generalize w1.heap.size = g at *
  generalize w.heap.size = r at *
  clear n1 n2 n3
  go_wp2_with fail
  refine (c1 _).mono ?_
  rintro e w4 ⟨rfl, rfl⟩
  go_wp2_with fail
  go_loopw [6, 7] (fun n i W => ∃ m : Nat, m ≤ 40 ∧ n = .int .i64 ((T / S ^ m : Nat) : Int) ∧ i = .int .i64 m ∧ Digging w g r T S m W) (fun _ i _ => 40 - (intOf i).toNat)
  case atStart => exact ⟨0, by omega, by simp, rfl, hat⟩
  case round =>
    clear hat
    obtain ⟨m, hm, rfl, rfl, hat⟩ := hrel
    by_cases hlt : m < 40
    · have hk := hat.keep
      obtain ⟨o1, o2, o3⟩ := hat.own
      have e1 : wr.cell? ⟨g, m, none⟩ = some (.int .i64 0) := (hat.arr.cell m).trans ((vec_at hlt).trans (by simp [digs]))
      have f1 := hat.arr.frozen m
      have hS : ((S : Int) == 0) = false := beq_eq_false_iff_ne.2 (by omega)
      have hx1 : T / S ^ m ≤ T := Nat.div_le_self _ _
      have HD := Lib.hid (show ((T / S ^ m : Nat) : Int) % (S : Int) = (digN T S m : Nat) by unfold digN; push_cast; rfl)
      have HQ := Lib.hid (show ((T / S ^ m : Nat) : Int) / (S : Int) = (T / S ^ (m + 1) : Nat) by rw [Nat.pow_succ, ← Nat.div_div_eq_div_mul]; push_cast; rfl)
      generalize T / S ^ m = X at *
      go_wp2_with fail
      refine (c2 _).mono ?_
      rintro e w5 ⟨rfl, rfl⟩
      go_upto_region 7 with (fail)
      have hat5 := hat.more HD.out
      clear hat e1 f1 hk
      generalize w5.setCell ⟨g, m, none⟩ (.int .i64 ((X : Int) % (S : Int))) = w6 at *
      go_wp2_with fail
      refine (c2 _).mono ?_
      rintro e w7 ⟨rfl, rfl⟩
      go_wp2
      go_roundw
      case rel => exact ⟨m + 1, by omega, by rw [HQ.out, wrap_small _ (by have := Nat.div_le_self T (S ^ (m + 1)); omega)], by go_num, hat5⟩
      case measure => simp [intOf]; omega
    · have e : m = 40 := by omega
      subst e
      obtain ⟨o1, o2, o3⟩ := hat.own
      have ha := hat.arr
      have hr := hat.res
      have hk := hat.keep
      go_wp2_with (first
        | ((with_reducible refine wpList_vload (b := g) (f := digs T S 40) arr5 rfl (.tmp 5) rfl ?_ ha ?_)
           · rfl)
        | ((with_reducible refine wpList_vstore (b := r) (f := digs T S 40) arr5 rfl (.tmp 4) (.tmp 25) rfl ?_ ?_ hr vec_size (digs_one T S 40) ?_)
           · rfl
           · rfl
           intro w8 n8)
        | fail)
      try simp only [Exit.inBlock, Exit.then]
      refine bodyPost_ret (results_vec arr5 rfl _ _ r 35 (digs T S 40) rfl n8.lies) rfl ?_
      exact ⟨rfl, Below.trans hk (n8.turns.below (by simp; exact o2) hk.size)⟩
end Go.Proofs.Ytbcggalbffdhjaa
