/- The places of a plan's cells. -/
import Derived.Test.YtgbepebihlmedaaDoorP6
namespace Go.Proofs.YtgbepebihlmedaaDoor
open Go.RowKit

theorem PlanAt.keep {w w' : World} {p : Nat} {C : Nat → Int} {B : Nat} (h : PlanAt w p C) (k : Below B w w') (hp : p < B) : PlanAt w' p C := Lies.below h k hp
theorem PlanAt.turn {w w' : World} {p : Nat} {C : Nat → Int} {L : List Nat} (h : PlanAt w p C) (k : Turns L w w') (hp : p ∉ L) : PlanAt w' p C := Lies.turn h k hp
theorem PlanAt.lt {w : World} {p : Nat} {C : Nat → Int} (h : PlanAt w p C) : p < w.heap.size := Lies.lt h
/-- three cells of a plan. -/
theorem PlanAt.r0 {w : World} {p : Nat} {C : Nat → Int} (h : PlanAt w p C) : w.cell? ⟨p, 14, none⟩ = some (.int .i64 3) ∧ w.cell? ⟨p, 15, none⟩ = some (.int .i64 (plE C)) ∧ w.cell? ⟨p, 16, none⟩ = some (.int .i64 (C 0)) := ⟨Lies.cell h 14, Lies.cell h 15, Lies.cell h 16⟩
theorem PlanAt.r1 {w : World} {p : Nat} {C : Nat → Int} (h : PlanAt w p C) : w.cell? ⟨p, 17, none⟩ = some (.int .i64 (plA C)) ∧ w.cell? ⟨p, 18, none⟩ = some (.int .i64 4) ∧ w.cell? ⟨p, 19, none⟩ = some (.int .i64 (C 3)) := ⟨Lies.cell h 17, Lies.cell h 18, Lies.cell h 19⟩
theorem PlanAt.r2 {w : World} {p : Nat} {C : Nat → Int} (h : PlanAt w p C) : w.cell? ⟨p, 20, none⟩ = some (.int .i64 (plB C)) ∧ w.cell? ⟨p, 21, none⟩ = some (.int .i64 3) ∧ w.cell? ⟨p, 22, none⟩ = some (.int .i64 (C 4)) := ⟨Lies.cell h 20, Lies.cell h 21, Lies.cell h 22⟩
theorem PlanAt.r3 {w : World} {p : Nat} {C : Nat → Int} (h : PlanAt w p C) : w.cell? ⟨p, 23, none⟩ = some (.int .i64 (plD C)) ∧ w.cell? ⟨p, 24, none⟩ = some (.int .i64 1) ∧ w.cell? ⟨p, 25, none⟩ = some (.int .i64 (C 7)) := ⟨Lies.cell h 23, Lies.cell h 24, Lies.cell h 25⟩
theorem PlanAt.s {w : World} {p : Nat} {C : Nat → Int} (h : PlanAt w p C) : w.cell? ⟨p, 13, none⟩ = some (.int .i64 (plS C)) := Lies.cell h 13
theorem PlanAt.c {w : World} {p : Nat} {C : Nat → Int} (h : PlanAt w p C) (i : Nat) (hi : i < 13) : w.cell? ⟨p, i, none⟩ = some (.int .i64 (C i)) := by
  rw [Lies.cell h i]
  match i, hi with
  | 0, _ => rfl | 1, _ => rfl | 2, _ => rfl | 3, _ => rfl | 4, _ => rfl | 5, _ => rfl | 6, _ => rfl | 7, _ => rfl | 8, _ => rfl | 9, _ => rfl | 10, _ => rfl | 11, _ => rfl | 12, _ => rfl

theorem size_end (C : Nat → Int) : plD C + C 7 * 1 = plZ C := by unfold plZ; omega

theorem size_any (C : Nat → Int) (p : Nat) (w : World) (hp : PlanAt w p C) (h : Right C) :
    Calls Tryd.prog 16 #[.pointer (some ⟨p, 0, none⟩)] w fun r w' => r = .returned (.int .i64 (plZ C)) ∧ Below w.heap.size w w' := by
  obtain ⟨x0, x1, x2⟩ := hp.r3
  obtain ⟨c0, c1, c2, c3, c4, c6, c7, s, e, a, b, d, z⟩ := bds h
  have HZ := Lib.hid (size_end C)
  clear h z
  go_enter Tryd.func16, Tryd.ntmps16
  go_wp2_with fail
  refine (end_any (plD C) 1 (C 7) _ (by omega) (by omega) (by omega) (by omega)).mono ?_
  rintro r w' ⟨rfl, rfl⟩
  rw [HZ.out]
  go_wp2
  go_ret
  exact ⟨rfl, (Below.refl _ _).alloc (Nat.le_refl _) _⟩

set_option maxHeartbeats 2000000 in
theorem config_any (C : Nat → Int) (p : Nat) (w : World) (hp : PlanAt w p C) :
    Calls Tryd.prog 15 #[.pointer (some ⟨p, 0, none⟩)] w fun r w' => r = .returned (.agg (ic C)) ∧ Below w.heap.size w w' := by
  have x0 := hp.c 0 (by omega)
  have x1 := hp.c 1 (by omega)
  have x2 := hp.c 2 (by omega)
  have x3 := hp.c 3 (by omega)
  have x4 := hp.c 4 (by omega)
  have x5 := hp.c 5 (by omega)
  have x6 := hp.c 6 (by omega)
  have x7 := hp.c 7 (by omega)
  have x8 := hp.c 8 (by omega)
  have x9 := hp.c 9 (by omega)
  have x10 := hp.c 10 (by omega)
  have x11 := hp.c 11 (by omega)
  have x12 := hp.c 12 (by omega)
  have hlt := hp.lt
  clear hp
  go_enter Tryd.func15, Tryd.ntmps15
  go_wp2
  refine bodyPost_ret (v := .agg (ic C)) (by simp [results, Tryd.results15, go_sem, ic]) rfl ⟨rfl, ?_⟩
  repeat' (with_reducible first | exact Below.refl _ _ | refine Below.setCell ?_ ?_ _ | refine Below.alloc ?_ ?_ _)
  all_goals simp

theorem inbox_any (C : Nat → Int) (p : Nat) (i : Int) (w : World) (hp : PlanAt w p C) (h : Right C) :
    Calls Tryd.prog 22 #[.pointer (some ⟨p, 0, none⟩), .int .i64 i] w fun r w' => r = .returned (.int .i64 (plInbox C i 0)) ∧ Below w.heap.size w w' := by
  obtain ⟨x0, x1, x2⟩ := hp.r0
  obtain ⟨c0, c1, c2, c3, c4, c6, c7, s, e, a, b, d, z⟩ := bds h
  clear h
  go_enter Tryd.func22, Tryd.ntmps22
  go_wp2_with fail
  refine (place_any 3 (plE C) (C 0) i 0 _ ⟨by omega, by omega, by omega, by omega, by omega, by omega, by omega⟩).mono ?_
  rintro r w' ⟨rfl, rfl⟩
  rw [show placeR 3 (plE C) (C 0) i 0 = plInbox C i 0 from rfl]
  go_wp2
  go_ret
  exact ⟨rfl, (Below.refl _ _).alloc (Nat.le_refl _) _⟩

theorem cur_any (C : Nat → Int) (p : Nat) (i : Int) (w : World) (hp : PlanAt w p C) (h : Right C) :
    Calls Tryd.prog 23 #[.pointer (some ⟨p, 0, none⟩), .int .i64 i] w fun r w' => r = .returned (.int .i64 (plInbox C i 1)) ∧ Below w.heap.size w w' := by
  obtain ⟨x0, x1, x2⟩ := hp.r0
  obtain ⟨c0, c1, c2, c3, c4, c6, c7, s, e, a, b, d, z⟩ := bds h
  clear h
  go_enter Tryd.func23, Tryd.ntmps23
  go_wp2_with fail
  refine (place_any 3 (plE C) (C 0) i 1 _ ⟨by omega, by omega, by omega, by omega, by omega, by omega, by omega⟩).mono ?_
  rintro r w' ⟨rfl, rfl⟩
  rw [show placeR 3 (plE C) (C 0) i 1 = plInbox C i 1 from rfl]
  go_wp2
  go_ret
  exact ⟨rfl, (Below.refl _ _).alloc (Nat.le_refl _) _⟩

theorem over_any (C : Nat → Int) (p : Nat) (i : Int) (w : World) (hp : PlanAt w p C) (h : Right C) :
    Calls Tryd.prog 24 #[.pointer (some ⟨p, 0, none⟩), .int .i64 i] w fun r w' => r = .returned (.int .i64 (plInbox C i 2)) ∧ Below w.heap.size w w' := by
  obtain ⟨x0, x1, x2⟩ := hp.r0
  obtain ⟨c0, c1, c2, c3, c4, c6, c7, s, e, a, b, d, z⟩ := bds h
  clear h
  go_enter Tryd.func24, Tryd.ntmps24
  go_wp2_with fail
  refine (place_any 3 (plE C) (C 0) i 2 _ ⟨by omega, by omega, by omega, by omega, by omega, by omega, by omega⟩).mono ?_
  rintro r w' ⟨rfl, rfl⟩
  rw [show placeR 3 (plE C) (C 0) i 2 = plInbox C i 2 from rfl]
  go_wp2
  go_ret
  exact ⟨rfl, (Below.refl _ _).alloc (Nat.le_refl _) _⟩

theorem state_any (C : Nat → Int) (p : Nat) (i : Int) (w : World) (hp : PlanAt w p C) (h : Right C) :
    Calls Tryd.prog 27 #[.pointer (some ⟨p, 0, none⟩), .int .i64 i] w fun r w' => r = .returned (.int .i64 (plNode C i 0)) ∧ Below w.heap.size w w' := by
  obtain ⟨x0, x1, x2⟩ := hp.r1
  obtain ⟨c0, c1, c2, c3, c4, c6, c7, s, e, a, b, d, z⟩ := bds h
  clear h
  go_enter Tryd.func27, Tryd.ntmps27
  go_wp2_with fail
  refine (place_any (plA C) 4 (C 3) i 0 _ ⟨by omega, by omega, by omega, by omega, by omega, by omega, by omega⟩).mono ?_
  rintro r w' ⟨rfl, rfl⟩
  rw [show placeR (plA C) 4 (C 3) i 0 = plNode C i 0 from rfl]
  go_wp2
  go_ret
  exact ⟨rfl, (Below.refl _ _).alloc (Nat.le_refl _) _⟩

theorem home_any (C : Nat → Int) (p : Nat) (i : Int) (w : World) (hp : PlanAt w p C) (h : Right C) :
    Calls Tryd.prog 28 #[.pointer (some ⟨p, 0, none⟩), .int .i64 i] w fun r w' => r = .returned (.int .i64 (plNode C i 1)) ∧ Below w.heap.size w w' := by
  obtain ⟨x0, x1, x2⟩ := hp.r1
  obtain ⟨c0, c1, c2, c3, c4, c6, c7, s, e, a, b, d, z⟩ := bds h
  clear h
  go_enter Tryd.func28, Tryd.ntmps28
  go_wp2_with fail
  refine (place_any (plA C) 4 (C 3) i 1 _ ⟨by omega, by omega, by omega, by omega, by omega, by omega, by omega⟩).mono ?_
  rintro r w' ⟨rfl, rfl⟩
  rw [show placeR (plA C) 4 (C 3) i 1 = plNode C i 1 from rfl]
  go_wp2
  go_ret
  exact ⟨rfl, (Below.refl _ _).alloc (Nat.le_refl _) _⟩

theorem user_any (C : Nat → Int) (p : Nat) (i : Int) (w : World) (hp : PlanAt w p C) (h : Right C) :
    Calls Tryd.prog 29 #[.pointer (some ⟨p, 0, none⟩), .int .i64 i] w fun r w' => r = .returned (.int .i64 (plNode C i 2)) ∧ Below w.heap.size w w' := by
  obtain ⟨x0, x1, x2⟩ := hp.r1
  obtain ⟨c0, c1, c2, c3, c4, c6, c7, s, e, a, b, d, z⟩ := bds h
  clear h
  go_enter Tryd.func29, Tryd.ntmps29
  go_wp2_with fail
  refine (place_any (plA C) 4 (C 3) i 2 _ ⟨by omega, by omega, by omega, by omega, by omega, by omega, by omega⟩).mono ?_
  rintro r w' ⟨rfl, rfl⟩
  rw [show placeR (plA C) 4 (C 3) i 2 = plNode C i 2 from rfl]
  go_wp2
  go_ret
  exact ⟨rfl, (Below.refl _ _).alloc (Nat.le_refl _) _⟩

theorem nodeLink_any (C : Nat → Int) (p : Nat) (i : Int) (w : World) (hp : PlanAt w p C) (h : Right C) :
    Calls Tryd.prog 30 #[.pointer (some ⟨p, 0, none⟩), .int .i64 i] w fun r w' => r = .returned (.int .i64 (plNode C i 3)) ∧ Below w.heap.size w w' := by
  obtain ⟨x0, x1, x2⟩ := hp.r1
  obtain ⟨c0, c1, c2, c3, c4, c6, c7, s, e, a, b, d, z⟩ := bds h
  clear h
  go_enter Tryd.func30, Tryd.ntmps30
  go_wp2_with fail
  refine (place_any (plA C) 4 (C 3) i 3 _ ⟨by omega, by omega, by omega, by omega, by omega, by omega, by omega⟩).mono ?_
  rintro r w' ⟨rfl, rfl⟩
  rw [show placeR (plA C) 4 (C 3) i 3 = plNode C i 3 from rfl]
  go_wp2
  go_ret
  exact ⟨rfl, (Below.refl _ _).alloc (Nat.le_refl _) _⟩

theorem key_any (C : Nat → Int) (p : Nat) (i : Int) (w : World) (hp : PlanAt w p C) (h : Right C) :
    Calls Tryd.prog 31 #[.pointer (some ⟨p, 0, none⟩), .int .i64 i] w fun r w' => r = .returned (.int .i64 (plTick C i 0)) ∧ Below w.heap.size w w' := by
  obtain ⟨x0, x1, x2⟩ := hp.r2
  obtain ⟨c0, c1, c2, c3, c4, c6, c7, s, e, a, b, d, z⟩ := bds h
  clear h
  go_enter Tryd.func31, Tryd.ntmps31
  go_wp2_with fail
  refine (place_any (plB C) 3 (C 4) i 0 _ ⟨by omega, by omega, by omega, by omega, by omega, by omega, by omega⟩).mono ?_
  rintro r w' ⟨rfl, rfl⟩
  rw [show placeR (plB C) 3 (C 4) i 0 = plTick C i 0 from rfl]
  go_wp2
  go_ret
  exact ⟨rfl, (Below.refl _ _).alloc (Nat.le_refl _) _⟩

theorem time_any (C : Nat → Int) (p : Nat) (i : Int) (w : World) (hp : PlanAt w p C) (h : Right C) :
    Calls Tryd.prog 32 #[.pointer (some ⟨p, 0, none⟩), .int .i64 i] w fun r w' => r = .returned (.int .i64 (plTick C i 1)) ∧ Below w.heap.size w w' := by
  obtain ⟨x0, x1, x2⟩ := hp.r2
  obtain ⟨c0, c1, c2, c3, c4, c6, c7, s, e, a, b, d, z⟩ := bds h
  clear h
  go_enter Tryd.func32, Tryd.ntmps32
  go_wp2_with fail
  refine (place_any (plB C) 3 (C 4) i 1 _ ⟨by omega, by omega, by omega, by omega, by omega, by omega, by omega⟩).mono ?_
  rintro r w' ⟨rfl, rfl⟩
  rw [show placeR (plB C) 3 (C 4) i 1 = plTick C i 1 from rfl]
  go_wp2
  go_ret
  exact ⟨rfl, (Below.refl _ _).alloc (Nat.le_refl _) _⟩

theorem ticketLink_any (C : Nat → Int) (p : Nat) (i : Int) (w : World) (hp : PlanAt w p C) (h : Right C) :
    Calls Tryd.prog 33 #[.pointer (some ⟨p, 0, none⟩), .int .i64 i] w fun r w' => r = .returned (.int .i64 (plTick C i 2)) ∧ Below w.heap.size w w' := by
  obtain ⟨x0, x1, x2⟩ := hp.r2
  obtain ⟨c0, c1, c2, c3, c4, c6, c7, s, e, a, b, d, z⟩ := bds h
  clear h
  go_enter Tryd.func33, Tryd.ntmps33
  go_wp2_with fail
  refine (place_any (plB C) 3 (C 4) i 2 _ ⟨by omega, by omega, by omega, by omega, by omega, by omega, by omega⟩).mono ?_
  rintro r w' ⟨rfl, rfl⟩
  rw [show placeR (plB C) 3 (C 4) i 2 = plTick C i 2 from rfl]
  go_wp2
  go_ret
  exact ⟨rfl, (Below.refl _ _).alloc (Nat.le_refl _) _⟩

theorem conn_any (C : Nat → Int) (p : Nat) (i : Int) (w : World) (hp : PlanAt w p C) (h : Right C) :
    Calls Tryd.prog 34 #[.pointer (some ⟨p, 0, none⟩), .int .i64 i] w fun r w' => r = .returned (.int .i64 (plConn C i)) ∧ Below w.heap.size w w' := by
  obtain ⟨x0, x1, x2⟩ := hp.r3
  obtain ⟨c0, c1, c2, c3, c4, c6, c7, s, e, a, b, d, z⟩ := bds h
  clear h
  go_enter Tryd.func34, Tryd.ntmps34
  go_wp2_with fail
  refine (place_any (plD C) 1 (C 7) i 0 _ ⟨by omega, by omega, by omega, by omega, by omega, by omega, by omega⟩).mono ?_
  rintro r w' ⟨rfl, rfl⟩
  rw [show placeR (plD C) 1 (C 7) i 0 = plConn C i from rfl]
  go_wp2
  go_ret
  exact ⟨rfl, (Below.refl _ _).alloc (Nat.le_refl _) _⟩

theorem clock_any (p : Value) (w : World) :
    Calls Tryd.prog 44 #[p] w fun r w' => r = .returned (.int .i64 0) ∧ w = w' := by
  go_enter Tryd.func44, Tryd.ntmps44
  go_wp2
  go_ret
  exact ⟨rfl, rfl⟩

theorem nodes_any (p : Value) (w : World) :
    Calls Tryd.prog 41 #[p] w fun r w' => r = .returned (.int .i64 1) ∧ w = w' := by
  go_enter Tryd.func41, Tryd.ntmps41
  go_wp2
  go_ret
  exact ⟨rfl, rfl⟩

theorem tickets_any (p : Value) (w : World) :
    Calls Tryd.prog 42 #[p] w fun r w' => r = .returned (.int .i64 2) ∧ w = w' := by
  go_enter Tryd.func42, Tryd.ntmps42
  go_wp2
  go_ret
  exact ⟨rfl, rfl⟩

end Go.Proofs.YtgbepebihlmedaaDoor
