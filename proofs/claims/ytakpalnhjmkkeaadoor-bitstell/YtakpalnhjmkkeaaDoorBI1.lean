/- Going through a set's slots by its iterator. -/
import Derived.Test.YtakpalnhjmkkeaaDoorB8
import Derived.RangeFuncBox
import Derived.RangeFuncNested
import Derived.RangeFuncBound
import Derived.RangeFuncCalls
import Derived.RangeFuncLeaves
import Derived.Shelf.Abstract
import Derived.Shelf.RegionOpen
import Derived.WalkKit
import Derived.OwnWalkIn
import Derived.TacticsInMore
import Derived.LoopNIn
import Derived.LoopIn
import Derived.Maps.AppendAt
namespace Go.Proofs.YtakpalnhjmkkeaaDoor
open Go.RowKit Go.Shelf

attribute [local go_sem] Oper.semAt_some

/-- a slot. -/
abbrev Sl := { x : Nat // x < 64 }
/-- how far one still may go. -/
def leftI (z : Int) : Nat := if z < 0 then 0 else (64 - z).toNat
theorem leftI_lt {j : Nat} {y : Int} (hj : j < 64) (h : y = -1 ∨ (j : Int) < y) : leftI y < leftI j := by
  unfold leftI
  rw [if_neg (show ¬ (j : Int) < 0 by omega)]
  split <;> omega

/-- one is at the slot z; these are passed. -/
structure AtL (s : Nat) (z : Int) (pre : List Sl) : Prop where
  is : (z = -1 ∧ pre.map (·.1) = slots s) ∨ ∃ j : Nat, z = j ∧ j < 64 ∧ s.testBit j = true ∧ pre.map (·.1) = below s j
theorem atl_next {s : Nat} (hs : s < 18446744073709551616) (k : Nat) (hk : k ≤ 64) {pre : List Sl} (hp : pre.map (·.1) = below s k) : AtL s (nx s k) pre := by
  rcases nx_spec hs k with ⟨h1, h2⟩ | ⟨j, h1, h2, h3, h4, h5⟩
  · refine ⟨.inl ⟨h1, ?_⟩⟩
    rw [hp]
    show _ = below s 64
    rw [show 64 = k + (64 - k) by omega, below_gap _ _ (fun i hi _ => h2 i (by omega))]
  · refine ⟨.inr ⟨j, h1, h2, h4, ?_⟩⟩
    rw [hp]
    conv => rhs; rw [show j = k + (j - k) by omega, below_gap _ _ (fun i hi hj => h5 i (by omega) (by omega))]

/-- what a round must keep: all that lay below n0, and the iterator's box. -/
def KpS (n0 Bn : Nat) (A B : World) : Prop := Below n0 A B ∧ ∀ v, Boxed A Bn 24 v → Boxed B Bn 24 v
theorem kpS_t {n0 Bn : Nat} {A B C : World} (h : KpS n0 Bn A B) (k : KpS n0 Bn B C) : KpS n0 Bn A C := ⟨h.1.trans k.1, fun v hv => k.2 v (h.2 v hv)⟩
theorem kpS_b {n0 Bn : Nat} {w : World} (hn : n0 ≤ w.heap.size) (W : World) (l : Nat) (o o' : Obj) (hl : w.heap.size ≤ l) (h : W.heap[l]? = some o) (h1 : o.isCells = false) (h2 : o.isWalk = false) : KpS n0 Bn W (W.putObj l o') :=
  ⟨belowK_b hn W l o o' hl h h1 h2, fun v hv => hv.kept (grownBy_putObj' W l o') (fun e => by
    injection e with e
    subst e
    rw [show W.heap[Bn]? = _ from hv] at h
    injection h with h
    subst h
    cases h1)⟩

theorem slots_any (s : Nat) (w : World) :
    Calls Tryd.prog 24 #[.int .u64 s] w fun e w' => e = .returned (.func (.func 29) #[] #[.pointer (some ⟨w.heap.size, 0, none⟩)]) ∧ w.alloc (.cells #[.int .u64 s] 24) = w' := by
  have hmf : ∀ (fn : Fn) (first cap : Array Value) (w : World), (Instr.makeFunc fn first cap).run Tryd.prog w = .ok (.func fn first cap) w := fun _ _ _ _ => rfl
  go_enter Tryd.func24, Tryd.ntmps24
  go_wp2
  go_ret
  exact ⟨rfl, rfl⟩

set_option maxRecDepth 100000 in
set_option maxHeartbeats 2000000 in
theorem slots1_in (n : Nat) (hn : 1 ≤ n) (l Bn n0 : Nat) (s : Nat) (hs : s < 18446744073709551616) (J Jx : List Sl → World → Prop) (h00 : 0 < n0)
    (hY : ∀ pre x W, J pre W → pre.length < 64 → YieldAt Fence.wide (n - 1) Tryd.prog l #[.int .i64 (x.1 : Nat)] W fun e W' =>
      (e = .returned (.bool true) ∧ J (pre ++ [x]) W' ∧ KpS n0 Bn W W') ∨ (e = .returned (.bool false) ∧ Jx (pre ++ [x]) W'))
    (W : World) (hBn : Boxed W Bn 24 (.int .u64 s)) (hT : Tab W) (h0 : J [] W) :
    CallsIn Fence.wide n Tryd.prog 29 #[.func (.yield l) #[] #[], .pointer (some ⟨Bn, 0, none⟩)] W fun e W' => (∃ v, e = .returned v) ∧
      ((∃ ys : List Sl, ys.map (·.1) = slots s ∧ J ys W') ∨ (∃ pre : List Sl, True ∧ Jx pre W')) := by
  have c0 := hBn.cell
  have hz := atl_next hs 0 (by omega) (pre := []) (by rfl)
  have cN := next_any hs 0 W hT
  rw [show ((0 : Nat) : Int) = 0 from rfl] at hz
  generalize nx s 0 = z0 at *
  refine callsIn_of_wp Tryd.func29 rfl trivial ?_ rfl
  simp only [Tryd.ntmps29, List.size_toArray, List.length_cons, List.length_nil, Nat.reduceAdd, Nat.reduceSub, Array.replicate_succ, Array.replicate_zero, List.push_toArray, List.append_toArray, List.nil_append, List.cons_append]
  gi_wp2_with (refine ⟨trivial, ?_⟩; gi_at_call 16; refine (callsIn_wide.2 cN).mono ?_; rintro e w' ⟨rfl, rfl⟩)
  gi_loopw [3] (fun u wr => ∃ (pre : List Sl) (z : Int), u = .int .i64 z ∧ AtL s z pre ∧ J pre wr ∧ Boxed wr Bn 24 (.int .u64 s) ∧ Tab wr)
    (fun u _ => leftI (intOf u))
  case atStart => exact ⟨[], z0, rfl, hz, h0, hBn, hT⟩
  case round =>
    obtain ⟨pre, z, rfl, hA, hJ, hBx, hTr⟩ := hrel
    rcases hA.is with ⟨rfl, hp⟩ | ⟨j, rfl, hj, hb, hp⟩
    · clear hA hz cN
      gi_wp2
      go_end0
      exact ⟨⟨_, rfl⟩, .inl ⟨pre, hp, hJ⟩⟩
    · have hlen : pre.length < 64 := by
        have h1 := congrArg List.length hp
        have := below_le s j
        simp at h1
        omega
      obtain ⟨fn, tmps, assign, body, hy, hR⟩ := hY pre ⟨j, hj⟩ wr hJ hlen
      dsimp only at hy
      have hnx := Lib.hid (atl_next hs (j + 1) (by omega) (pre := pre ++ [⟨j, hj⟩]) (by rw [List.map_append, hp, below_succ, if_pos hb]; rfl))
      have hsp := nx_spec hs ((j : Int) + 1)
      have HM : Hid (nx s ((j : Int) + 1) = -1 ∨ (j : Int) < nx s ((j : Int) + 1)) := Lib.hid (by
        rcases hsp with ⟨h, _⟩ | ⟨q, h, _, h2, _⟩
        · exact .inl h
        · right; omega)
      rw [show (((j + 1 : Nat)) : Int) = (j : Int) + 1 by omega] at hnx
      have cN2 := fun v hv => next_any hs ((j : Int) + 1) v hv
      generalize nx s ((j : Int) + 1) = y at *
      clear hsp hA hb hp cN hz
      gi_wp2
      refine hR.mono ?_
      rintro e W3 (⟨rfl, hJ3, hk3⟩ | ⟨rfl, hJx3⟩)
      · have hB3 := hk3.2 _ hBx
        have c3 := hB3.cell
        have hT3 : Tab W3 := by
          refine ⟨Nat.lt_of_lt_of_le hTr.size hk3.1.size, fun q hq => (hk3.1.cell (p := ⟨0, q, none⟩) h00).trans (hTr.cell q hq)⟩
        have cN3 := cN2 W3 hT3
        gi_wp2_with (refine ⟨trivial, ?_⟩; gi_at_call 16; refine (callsIn_wide.2 cN3).mono ?_; rintro e w' ⟨rfl, rfl⟩)
        go_roundw
        case rel => exact ⟨pre ++ [⟨j, hj⟩], y, rfl, hnx.out, hJ3, hB3, hT3⟩
        case measure => exact leftI_lt hj HM.out
      · gi_wp2
        refine bodyPost_ret (results_none rfl _ _ _) rfl ?_
        exact ⟨⟨_, rfl⟩, .inr ⟨pre ++ [⟨j, hj⟩], trivial, hJx3⟩⟩

theorem slots_stops (n : Nat) (hn : 1 ≤ n) (Bn n0 : Nat) (s : Nat) (hs : s < 18446744073709551616) (h00 : 0 < n0) (w : World) (hb : Boxed w Bn 24 (.int .u64 s)) (hT : Tab w) :
    SeqStopsK Fence.wide n Tryd.prog 29 #[.pointer (some ⟨Bn, 0, none⟩)] (fun x : Sl => #[Value.int .i64 (x.1 : Nat)]) (KpS n0 Bn) (fun ys => ys.map (·.1) = slots s) (fun _ => True) 64 w := fun l J Jx W hW _ _ hY h0 =>
  slots1_in n hn l Bn n0 s hs J Jx h00 hY W ((hW.block Bn hb.lt).trans hb) (hT.keep hW) h0

end Go.Proofs.YtakpalnhjmkkeaaDoor
