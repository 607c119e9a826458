/- Check, as the program has it, and as the document has it. -/
import Derived.Test.YtgbepebihlmedaaDoorP3
import Derived.OwnWalk
namespace Go.Proofs.YtgbepebihlmedaaDoor
open Go.RowKit

/-- the table of bounds lies where it was laid. -/
structure Tab (w : World) : Prop where
  lt : 0 < w.heap.size
  at_ : ∀ i, i < 13 → w.cell? ⟨0, i * 2, none⟩ = some (.int .i64 (cLo i)) ∧ w.cell? ⟨0, i * 2 + 1, none⟩ = some (.int .i64 (cHi i))
theorem Tab.keep {w w' : World} {B : Nat} (h : Tab w) (k : Below B w w') (hB : 0 < B) : Tab w' :=
  ⟨Nat.lt_of_lt_of_le h.lt k.size, fun i hi => ⟨(k.cell hB).trans (h.at_ i hi).1, (k.cell hB).trans (h.at_ i hi).2⟩⟩

theorem int_info : (Tryd.prog.info? 3).map (fun i => (i.zero, i.size, i.bytes)) = some (some (.int .i64 0), 1, 8) := by kernel_rfl
theorem index_ic (C : Nat → Int) (q : Nat) (hq : q < 13) (W : World) : (Instr.index 22 (.agg (ic C)) (.int .i64 (q : Int))).run Tryd.prog W = .ok (.int .i64 (C q)) W := by
  obtain ⟨i0, hi0, hz0, hz1, hz2⟩ := info_parts int_info
  have h2 := ic_at C q hq
  simp [Instr.index, asIntOf, run_underlying Tryd.underlying22, sizeOf, typeInfo, hi0, hz1, part, h2]
  omega

set_option maxHeartbeats 2000000 in
theorem check_any (C : Nat → Int) (w : World) (ht : Tab w) :
    Calls Tryd.prog 10 #[.agg (ic C)] w fun r w' => r = .returned (.tuple #[.int .i64 (chkI C), .int .i64 (chkE C)]) ∧ Below w.heap.size w w' := by
  go_enter Tryd.func10, Tryd.ntmps10
  unfold ic
  go_wp2_with fail
  refine (list_any C _).mono ?_
  rintro e w' ⟨rfl, hb⟩
  have hb0 : Below w.heap.size w w' := ((Below.refl _ _).alloc (Nat.le_refl _) _).trans (hb.mono (by simp))
  clear hb
  have ht' := (ht.keep hb0 ht.lt).at_
  go_wp2_with fail
  go_loop [8] (fun i => ∃ m : Nat, m ≤ 13 ∧ i = .int .i64 m ∧ ∀ j, j < m → okAt C j) (fun i => 13 - (intOf i).toNat)
  case atStart => exact ⟨0, by omega, rfl, fun j hj => by omega⟩
  case round =>
    obtain ⟨m, hm, rfl, hok⟩ := hrel
    by_cases hlt : m < 13
    · have hix := index_ic C m hlt
      obtain ⟨t0, t1⟩ := ht' m hlt
      clear ht'
      by_cases hgood : okAt C m
      · have hok' : ∀ j, j < m + 1 → okAt C j := fun j hj => by
          rcases (by omega : j < m ∨ j = m) with h | rfl
          · exact hok j h
          · exact hgood
        have HO := Lib.hid hok'
        clear hok hok'
        obtain ⟨g0, g1⟩ := hgood
        generalize C m = x at *
        generalize cLo m = lo at *
        generalize cHi m = hi at *
        go_wp2
        go_round
        case rel => exact ⟨m + 1, by omega, by go_num, HO.out⟩
        case measure => simp [intOf]; omega
      · obtain ⟨r1, r2⟩ := chk_bad hok hgood hlt
        have HR := Lib.hid r1
        have HS := Lib.hid r2
        have hbad : C m < cLo m ∨ ¬ C m < cLo m ∧ cHi m < C m := by unfold okAt at hgood; omega
        clear hok hgood r1 r2
        generalize C m = x at *
        generalize cLo m = lo at *
        generalize cHi m = hi at *
        rcases hbad with hbad | ⟨hb1, hb2⟩
        all_goals
          go_wp2
          go_ret2
          exact ⟨ret_two HR.out.symm HS.out.symm, hb0⟩
    · obtain rfl : m = 13 := by omega
      obtain ⟨r1, r2⟩ := chk_ok (C := C) hok
      have HR := Lib.hid r1
      have HS := Lib.hid r2
      clear hok r1 r2 ht'
      go_wp2
      go_ret2
      exact ⟨ret_two HR.out.symm HS.out.symm, hb0⟩

end Go.Proofs.YtgbepebihlmedaaDoor
