/- Levels, maps, slots; the chapter's example. -/
import Derived.Test.YtgbepebihlmedaaDoorP7
namespace Go.Proofs.YtgbepebihlmedaaDoor
open Go.RowKit

set_option maxRecDepth 100000 in
theorem levels_in (C : Nat → Int) (p : Nat) (s : Int) (w : World) (hp : PlanAt w p C) (h : Right C) (h0 : 0 ≤ s) (h1 : s < C 0) :
    Calls Tryd.prog 51 #[.pointer (some ⟨p, 0, none⟩), .int .i64 s] w fun r w' => r = .returned (.agg #[.int .i64 (3 + s * plE C + 3), .int .i64 (1 + plS C), .int .i64 (C 1)]) ∧ Below w.heap.size w w' := by
  obtain ⟨x0, x1, x2⟩ := hp.r0
  have hlt := hp.lt
  obtain ⟨c0, c1, c2, c3, c4, c6, c7, t, e, a, b, d, z⟩ := bds h
  have m := mul_bd h0 (show s ≤ 64 by omega) (show 0 ≤ plE C by omega) e.2
  have HP := Lib.hid (placeR_in (f := 3) (e := plE C) (q := 3) h0 h1)
  have HQ := Lib.hid (wrapI (1 + plS C) (by omega))
  clear h
  go_enter Tryd.func51, Tryd.ntmps51
  go_wp2_with fail
  refine (place_any 3 (plE C) (C 0) s 3 _ ⟨by omega, by omega, by omega, by omega, by omega, by omega, by omega⟩).mono ?_
  rintro r w' ⟨rfl, hw'⟩
  rw [HP.out]
  have hp2 : PlanAt w' p C := by rw [← hw']; exact (hp.turn (L := []) ((Turns.refl _ _).alloc _) (by simp)).turn (L := []) ((Turns.refl _ _).alloc _) (by simp)
  have hz : Lies w' w.heap.size 68 #[.int .i64 0, .int .i64 0, .int .i64 0] := by rw [← hw']; exact (Lies.new w _ _).alloc _
  have hb : Below w.heap.size w w' := by rw [← hw']; exact ((Below.refl _ _).alloc (Nat.le_refl _) _).alloc (by simp) _
  clear hw' x0 x1 x2 hp
  have HB := Lib.hid hb
  clear hb
  generalize hBe : w.heap.size = B at *
  have HBE := Lib.hid hBe
  clear hBe
  generalize hx : 3 + s * plE C + 3 = x at *
  have hne : (x == -1) = false := beq_eq_false_iff_ne.2 (by omega)
  have HX := Lib.hid hx
  clear hx
  have y1 := hp2.c 1 (by omega)
  have ys := hp2.s
  go_wp2_with fail
  go_still_tail 12, (by kernel_rfl)
  rw [HQ.out]
  change wpList _ _ _ _ _ w'.drew
  have u0 : w'.drew.cell? ⟨B, 0, none⟩ = some (.int .i64 0) := hz.cell 0
  have u1 : w'.drew.cell? ⟨B, 1, none⟩ = some (.int .i64 0) := hz.cell 1
  have u2 : w'.drew.cell? ⟨B, 2, none⟩ = some (.int .i64 0) := hz.cell 2
  have v0 : w'.drew.frozen? ⟨B, 0, none⟩ = false := hz.frozen 0
  have v1 : w'.drew.frozen? ⟨B, 1, none⟩ = false := hz.frozen 1
  have v2 : w'.drew.frozen? ⟨B, 2, none⟩ = false := hz.frozen 2
  replace HB := Lib.hid HB.out.drew
  clear y1 ys hz hp2
  generalize w'.drew = w2 at *
  go_wp2
  refine bodyPost_ret (v := .agg #[.int .i64 x, .int .i64 (1 + plS C), .int .i64 (C 1)]) (by simp [results, Tryd.results51, go_sem, *]) rfl ⟨by rw [HX.out], ?_⟩
  rw [HBE.out]
  exact ((HB.out.setCell (by simp) _).setCell (by simp) _).setCell (by simp) _

theorem levels_out (C : Nat → Int) (p : Nat) (s : Int) (w : World) (hp : PlanAt w p C) (h : Right C) (h0 : inB s (C 0) = false) :
    Calls Tryd.prog 51 #[.pointer (some ⟨p, 0, none⟩), .int .i64 s] w fun r w' => r = .returned (.agg #[.int .i64 0, .int .i64 0, .int .i64 0]) ∧ Below w.heap.size w w' := by
  obtain ⟨x0, x1, x2⟩ := hp.r0
  have hlt := hp.lt
  obtain ⟨c0, c1, c2, c3, c4, c6, c7, t, e, a, b, d, z⟩ := bds h
  have HP := Lib.hid (placeR_out (f := 3) (e := plE C) (q := 3) h0)
  clear h
  go_enter Tryd.func51, Tryd.ntmps51
  go_wp2_with fail
  refine (place_any 3 (plE C) (C 0) s 3 _ ⟨by omega, by omega, by omega, by omega, by omega, by omega, by omega⟩).mono ?_
  rintro r w' ⟨rfl, rfl⟩
  rw [HP.out]
  go_wp2
  refine bodyPost_ret (v := .agg #[.int .i64 0, .int .i64 0, .int .i64 0]) (by simp [results, Tryd.results51, go_sem]) rfl ⟨rfl, ?_⟩
  repeat' (with_reducible first | exact Below.refl _ _ | refine Below.setCell ?_ ?_ _ | refine Below.alloc ?_ ?_ _)
  all_goals simp

theorem map_any (C : Nat → Int) (p : Nat) (s k : Int) (w : World) (hp : PlanAt w p C) (h : Right C) :
    Calls Tryd.prog 25 #[.pointer (some ⟨p, 0, none⟩), .int .i64 s, .int .i64 k] w fun r w' => r = .returned (.int .i64 (plMap C s k)) ∧ Below w.heap.size w w' := by
  obtain ⟨c0, c1, c2, c3, c4, c6, c7, t, e, a, b, d, z⟩ := bds h
  by_cases hs : inB s (C 0) = true
  · obtain ⟨h0, h1⟩ := inB_iff.1 hs
    have m := mul_bd h0 (show s ≤ 64 by omega) (show 0 ≤ plE C by omega) e.2
    have HV := Lib.hid (show placeR (3 + s * plE C + 3) (1 + plS C) (C 1) k 0 = plMap C s k by simp [plMap, hs])
    clear hs
    go_enter Tryd.func25, Tryd.ntmps25
    go_wp2_with fail
    refine (levels_in C p s _ hp h h0 h1).mono ?_
    rintro r w' ⟨rfl, hb⟩
    have HB := Lib.hid hb
    clear hb h
    go_wp2_with fail
    refine (place_any (3 + s * plE C + 3) (1 + plS C) (C 1) k 0 _ ⟨by omega, by omega, by omega, by omega, by omega, by omega, by omega⟩).mono ?_
    rintro r w2 ⟨rfl, rfl⟩
    rw [HV.out]
    go_wp2
    go_ret
    exact ⟨rfl, HB.out.alloc HB.out.size _⟩
  · have hs' : inB s (C 0) = false := by simpa using hs
    have HV := Lib.hid (show placeR 0 0 0 k 0 = plMap C s k by rw [placeR_out (inB_no (by omega)), plMap, hs']; simp)
    go_enter Tryd.func25, Tryd.ntmps25
    go_wp2_with fail
    refine (levels_out C p s _ hp h hs').mono ?_
    rintro r w' ⟨rfl, hb⟩
    have HB := Lib.hid hb
    clear hb h hs hs'
    go_wp2_with fail
    refine (place_any 0 0 0 k 0 _ ⟨by omega, by omega, by omega, by omega, by omega, by omega, by omega⟩).mono ?_
    rintro r w2 ⟨rfl, rfl⟩
    rw [HV.out]
    go_wp2
    go_ret
    exact ⟨rfl, HB.out.alloc HB.out.size _⟩

theorem slot_any (C : Nat → Int) (p : Nat) (s k i : Int) (w : World) (hp : PlanAt w p C) (h : Right C) :
    Calls Tryd.prog 26 #[.pointer (some ⟨p, 0, none⟩), .int .i64 s, .int .i64 k, .int .i64 i] w fun r w' => r = .returned (.int .i64 (plSlot C s k i)) ∧ Below w.heap.size w w' := by
  obtain ⟨c0, c1, c2, c3, c4, c6, c7, t, e, a, b, d, z⟩ := bds h
  have ys := hp.s
  rcases (by omega : i < 0 ∨ 0 ≤ i ∧ (plS C ≤ i ∨ i < plS C)) with hi | ⟨hi, hj | hj⟩
  · have HV := Lib.hid (show -1 = plSlot C s k i by simp [plSlot, inB_no (i := i) (n := plS C) (.inl hi)])
    go_enter Tryd.func26, Tryd.ntmps26
    go_wp2
    go_ret
    exact ⟨ret_int HV.out, Below.refl _ _⟩
  · have HV := Lib.hid (show -1 = plSlot C s k i by simp [plSlot, inB_no (i := i) (n := plS C) (.inr hj)])
    have hn : ¬ i < 0 := by omega
    go_enter Tryd.func26, Tryd.ntmps26
    go_wp2
    go_ret
    exact ⟨ret_int HV.out, Below.refl _ _⟩
  · have hin := inB_iff.2 ⟨hi, hj⟩
    have hn : ¬ i < 0 := by omega
    have hn' : ¬ plS C ≤ i := by omega
    by_cases hs : inB s (C 0) = true
    · obtain ⟨h0, h1⟩ := inB_iff.1 hs
      have m := mul_bd h0 (show s ≤ 64 by omega) (show 0 ≤ plE C by omega) e.2
      have HV := Lib.hid (show placeR (3 + s * plE C + 3) (1 + plS C) (C 1) k (1 + i) = plSlot C s k i by simp [plSlot, hs, hin])
      clear hs hin
      go_enter Tryd.func26, Tryd.ntmps26
      go_wp2_with fail
      refine (levels_in C p s _ hp h h0 h1).mono ?_
      rintro r w' ⟨rfl, hb⟩
      have HB := Lib.hid hb
      clear hb h
      go_wp2_with fail
      refine (place_any (3 + s * plE C + 3) (1 + plS C) (C 1) k (1 + i) _ ⟨by omega, by omega, by omega, by omega, by omega, by omega, by omega⟩).mono ?_
      rintro r w2 ⟨rfl, rfl⟩
      rw [HV.out]
      go_wp2
      go_ret
      exact ⟨rfl, HB.out.alloc HB.out.size _⟩
    · have hs' : inB s (C 0) = false := by simpa using hs
      have HV := Lib.hid (show placeR 0 0 0 k (1 + i) = plSlot C s k i by rw [placeR_out (inB_no (by omega)), plSlot, hs', hin]; simp)
      clear hin
      go_enter Tryd.func26, Tryd.ntmps26
      go_wp2_with fail
      refine (levels_out C p s _ hp h hs').mono ?_
      rintro r w' ⟨rfl, hb⟩
      have HB := Lib.hid hb
      clear hb h hs hs'
      go_wp2_with fail
      refine (place_any 0 0 0 k (1 + i) _ ⟨by omega, by omega, by omega, by omega, by omega, by omega, by omega⟩).mono ?_
      rintro r w2 ⟨rfl, rfl⟩
      rw [HV.out]
      go_wp2
      go_ret
      exact ⟨rfl, HB.out.alloc HB.out.size _⟩

/-- the example's configuration. -/
def exC (i : Nat) : Int := [1, 1, 1, 1, 1, 0, 0, 0, 1, 1, 1, 0, 0].getD i 0
theorem exRight : Right exC := by
  intro i hi
  match i, hi with
  | 0, _ | 1, _ | 2, _ | 3, _ | 4, _ | 5, _ | 6, _ | 7, _ | 8, _ | 9, _ | 10, _ | 11, _ | 12, _ => decide
theorem exSize : plZ exC = 16 := by decide

theorem speaks3_any (w : World) (ht : Tab w) :
    Calls Tryd.prog 8 #[] w fun r w' => r = .returned (.bool true) ∧ Below w.heap.size w w' := by
  go_enter Tryd.func8, Tryd.ntmps8
  go_wp2_with fail
  refine (new_yes exC _ ht exRight).mono ?_
  rintro r w1 ⟨p, rfl, hp0, hp, hb⟩
  go_wp2_with fail
  refine (size_any exC p _ hp exRight).mono ?_
  rintro r w2 ⟨rfl, hb2⟩
  rw [exSize]
  go_wp2
  go_ret
  exact ⟨rfl, hb.trans (hb2.mono hb.size)⟩

end Go.Proofs.YtgbepebihlmedaaDoor
