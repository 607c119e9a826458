/- The document's sets: sixty-four answers by value. -/
import Derived.Test.YtakpalnhjmkkeaaDoorB8
import Derived.Test.YtakpalnhjmkkeaaDoorVec
import Derived.Test.YtakpalnhjmkkeaaDoorIRow
import Derived.Deep.DeepCutAuto
import Derived.Deep.CutBlock
namespace Go.Proofs.YtakpalnhjmkkeaaDoor
open Go.RowKit

theorem arr6 : ArrT 26 4 64 (.bool false) := ⟨Tryd.underlying26, by kernel_rfl, by kernel_rfl, fun W => by kernel_rfl, fun W => by kernel_rfl, fun W => by kernel_rfl⟩

theorem wpList_vbox {T E : TypeId} {n : Nat} {z : Value} {ops : Array Oper} {rest : List Oper} {o : Oper} {a : Act} {w : World} {Q : Exit → Act → World → Prop} {f : Nat → Value} (_ : ArrT T E n z) (hgd : o.guard = none) (x : Operand) (ho : o.op = .box T x) (hx : a.eval x = .agg (vec n f))
    (h : ∀ w', New1 w w' T (vec n f) → wpList Tryd.prog ops Q rest (a.put o.dst (.pointer (some ⟨w.heap.size, 0, none⟩))) w') : wpList Tryd.prog ops Q (o :: rest) a w := by
  refine wpList_plain hgd fun K hK => ?_
  unfold Oper.wp execOp
  simp only [ho, Sem.run_bind, Instr.box, newVar, newRow, run_newObj_alloc, Sem.run_pure, Result.andThen_ok]
  rw [hx]
  exact hK _ _ (h _ (New1.mk' _ _ _))

/-- a set's answers. -/
def bv (s : Nat) : Nat → Value := fun j => .bool (s.testBit j)
theorem bv_one (s : Nat) (j : Nat) : (bv s j).oneCell' = true := rfl
/-- the answers below k; no above. -/
def bvTo (s k : Nat) : Nat → Value := fun j => .bool (decide (j < k) && s.testBit j)
theorem bvTo_zero (s : Nat) : bvTo s 0 = fun _ => .bool false := by funext j; simp [bvTo]
theorem bvTo_more (s k : Nat) : upv (bvTo s k) k (.bool (s.testBit k)) = bvTo s (k + 1) := by
  funext j
  unfold upv bvTo
  by_cases h : j = k
  · subst h; simp
  · rw [if_neg h]
    have : decide (j < k) = decide (j < k + 1) := by
      by_cases h2 : j < k
      · simp [h2]; omega
      · simp [h2]; omega
    rw [this]
theorem bvTo_all (s : Nat) : vec 64 (bvTo s 64) = vec 64 (bv s) := vec_ext fun i hi => by simp [bvTo, bv, hi]
/-- the answers of u below k, of s from there on. -/
def bvUp (u s k : Nat) : Nat → Value := fun j => .bool (if j < k then u.testBit j else s.testBit j)
theorem bvUp_zero (u s : Nat) : bvUp u s 0 = bv s := by funext j; simp [bvUp, bv]
theorem bvUp_more (u s k : Nat) : upv (bvUp u s k) k (.bool (u.testBit k)) = bvUp u s (k + 1) := by
  funext j
  unfold upv bvUp
  by_cases h : j = k
  · subst h; simp
  · rw [if_neg h]
    by_cases h2 : j < k
    · rw [if_pos h2, if_pos (by omega)]
    · rw [if_neg h2, if_neg (by omega)]
theorem bvUp_all (u s : Nat) : vec 64 (bvUp u s 64) = vec 64 (bv u) := vec_ext fun i hi => by simp [bvUp, bv, hi]
theorem false_one (i : Nat) : ((fun _ => Value.bool false : Nat → Value) i).oneCell' = true := rfl
theorem bvTo_one (s k i : Nat) : (bvTo s k i).oneCell' = true := rfl
theorem bvUp_one (u s k i : Nat) : (bvUp u s k i).oneCell' = true := rfl

theorem half_bit (s k : Nat) : decide (s / 2 ^ k % 2 = 1) = s.testBit k := by rw [Nat.testBit_eq_decide_div_mod_eq]

/-- two arrays' blocks: what is made, and the result's. -/
structure Two (w : World) (g r : Nat) (f : Nat → Value) (W : World) : Prop where
  arr : Lies W g 26 (vec 64 f)
  res : Lies W r 26 (vec 64 fun _ => .bool false)
  be : Below w.heap.size w W
  own : w.heap.size ≤ g ∧ w.heap.size ≤ r ∧ g ≠ r
theorem Two.set {w : World} {g r : Nat} {f : Nat → Value} {W : World} (h : Two w g r f W) (i : Nat) (v : Value) : Two w g r (upv f i v) (W.setCell ⟨g, i, none⟩ v) := by
  obtain ⟨o1, o2, o3⟩ := h.own
  refine ⟨?_, h.res.far (fun e => o3 e.symm) _, h.be.setCell o1 _, h.own⟩
  have := h.arr.set i v
  rwa [vec_set] at this
theorem Two.drew {w : World} {g r : Nat} {f : Nat → Value} {W : World} (h : Two w g r f W) : Two w g r f W.drew := ⟨h.arr.drew, h.res.drew, h.be.drew, h.own⟩

set_option maxHeartbeats 2000000 in
theorem rof_any (s : Nat) (hs : s < 18446744073709551616) (w : World) :
    Calls Tryd.prog 5 #[.int .u64 s] w fun e w' => e = .returned (.agg (vec 64 (bv s))) ∧ Below w.heap.size w w' := by
  go_enter Tryd.func5, Tryd.ntmps5
  go_upto_region 1 with (first
    | ((with_reducible refine wpList_valloc arr6 rfl rfl ?_); intro w1 n1)
    | fail)
  go_upto_region 2 with (first
    | (with_reducible refine wpList_vbuild arr6 rfl rfl ?_)
    | ((with_reducible refine wpList_valloc arr6 rfl rfl ?_); intro w2 n2)
    | ((with_reducible refine wpList_vstore (b := w1.heap.size) (f := fun _ => .bool false) arr6 rfl (.tmp 3) (.tmp 5) rfl ?_ ?_ n2.lies vec_size false_one ?_)
       · rfl
       · rfl
       intro w3 n3)
    | fail)
  have hat : Two w w1.heap.size w.heap.size (bvTo s 0) w3 := by
    have h1 := n1.size
    have h2 := n2.size
    refine ⟨by rw [bvTo_zero]; exact n3.lies, (n1.lies.below n2.below (by omega)).turn n3.turns (by simp; omega), ?_, by omega, by omega, by omega⟩
    exact (n1.below.trans (n2.below.mono (by omega))).trans ((n3.turns).below (by simp; omega) (by omega))
  generalize w1.heap.size = g at *
  generalize w.heap.size = r at *
  clear n1 n2 n3
  go_wp2_with fail
  go_loopw [0, 4] (fun x i W => ∃ m : Nat, m ≤ 64 ∧ x = .int .u64 ((s / 2 ^ m : Nat) : Int) ∧ i = .int .i64 m ∧ Two w g r (bvTo s m) W) (fun _ i _ => 64 - (intOf i).toNat)
  case atStart => exact ⟨0, by omega, by simp, rfl, hat⟩
  case round =>
    clear hat
    obtain ⟨m, hm, rfl, rfl, hat⟩ := hrel
    by_cases hlt : m < 64
    · obtain ⟨o1, o2, o3⟩ := hat.own
      have e1 : wr.cell? ⟨g, m, none⟩ = some (.bool false) := (hat.arr.cell m).trans ((vec_at hlt).trans (by simp [bvTo]))
      have f1 := hat.arr.frozen m
      have hx1 : s / 2 ^ m ≤ s := Nat.div_le_self _ _
      have HB := Lib.hid (show ((((s / 2 ^ m : Nat) : Int) % 2) == 1) = s.testBit m by
        rw [← half_bit]
        rcases Nat.mod_two_eq_zero_or_one (s / 2 ^ m) with h | h
        · have : ((s / 2 ^ m : Nat) : Int) % 2 = 0 := by omega
          rw [this, h]; rfl
        · have : ((s / 2 ^ m : Nat) : Int) % 2 = 1 := by omega
          rw [this, h]; rfl)
      have HQ := Lib.hid (show ((s / 2 ^ m : Nat) : Int) / 2 = (s / 2 ^ (m + 1) : Nat) by rw [Nat.pow_succ, ← Nat.div_div_eq_div_mul]; push_cast; rfl)
      have hx2 : s / 2 ^ (m + 1) ≤ s := Nat.div_le_self _ _
      generalize s / 2 ^ m = X at *
      obtain ⟨Y, hY⟩ : ∃ Y, s / 2 ^ (m + 1) = Y := ⟨_, rfl⟩
      rw [hY] at hx2
      have HQ := Lib.hid (HQ.out.trans (by rw [hY]))
      have HY := Lib.hid hY
      clear hY
      have hat5 := hat.set m (.bool (((X : Int) % 2) == 1))
      rw [HB.out, bvTo_more] at hat5
      have HF := Lib.hid hat5
      clear hat5 hat
      go_wp2
      go_roundw
      case rel => exact ⟨m + 1, by omega, by rw [HQ.out, HY.out], by go_num, by have := HF.out; rw [← HB.out] at this; simpa using this⟩
      case measure => simp [intOf]; omega
    · have e : m = 64 := by omega
      subst e
      obtain ⟨o1, o2, o3⟩ := hat.own
      have ha := hat.arr
      have hr := hat.res
      have hk := hat.be
      rw [bvTo_all] at ha
      go_wp2_with (first
        | ((with_reducible refine wpList_vload (b := g) (f := bv s) arr6 rfl (.tmp 3) rfl ?_ ha ?_)
           · rfl)
        | ((with_reducible refine wpList_vstore (b := r) (f := bv s) arr6 rfl (.tmp 2) (.tmp 17) rfl ?_ ?_ hr vec_size (bv_one s) ?_)
           · rfl
           · rfl
           intro w8 n8)
        | fail)
      try simp only [Exit.inBlock, Exit.then]
      refine bodyPost_ret (results_vec arr6 rfl _ _ r 26 (bv s) rfl n8.lies) rfl ?_
      exact ⟨rfl, hk.trans (n8.turns.below (by simp; exact o2) hk.size)⟩

end Go.Proofs.YtakpalnhjmkkeaaDoor
