/- Contracts: words taken apart (cut, StateOf and its fellows). -/
import Derived.Test.YtgbepebihlmedaaDoorW7
import Derived.Test.YtgbepebihlmedaaDoorKept
import Derived.LoopN
namespace Go.Proofs.YtgbepebihlmedaaDoor
open Go.RowKit

theorem getW_bd (v s t : Int) (m : Int) (hm : pw t = m) : 0 ≤ getW v s t ∧ getW v s t < m := by
  subst hm
  unfold getW
  have p := pw_pos t
  split
  · exact low_bd _ _
  · omega

set_option maxHeartbeats 1000000 in
theorem cut_state (v : Int) (b : Nat) (w : World) (hv : U64 v) (hb : b < w.heap.size) (c0 : w.cell? ⟨b, 0, none⟩ = some (.int .i64 32)) (c1 : w.cell? ⟨b, 1, none⟩ = some (.int .i64 30)) (c2 : w.cell? ⟨b, 2, none⟩ = some (.int .i64 2)) :
    Calls Tryd.prog 58 #[.int .u64 v, .slice (some ⟨b, 0, none⟩) 3 3] w
      fun e w' => e = .returned (.agg #[.int .i64 (getW v 32 32), .int .i64 (getW v 2 30), .int .i64 (getW v 0 2), .int .i64 0]) ∧ Below w.heap.size w w' := by
  obtain ⟨hv0, hv1⟩ := hv
  obtain ⟨g0, g1⟩ := getW_bd v 32 32 4294967296 (by simp [pw])
  obtain ⟨g2, g3⟩ := getW_bd v 2 30 1073741824 (by simp [pw])
  obtain ⟨g4, g5⟩ := getW_bd v 0 2 4 (by simp [pw])
  go_enter Tryd.func58, Tryd.ntmps58
  go_wp2_with fail
  refine wp_loop_rounds 4 ?_
  rw [rounds_succ]
  go_wp2_with fail
  refine (get_any _ _ _ _ (by omega) (by omega) (by omega)).mono ?_
  rintro e w2 ⟨rfl, m, rfl⟩
  go_wp2_with fail
  rw [rounds_succ]
  go_wp2_with fail
  refine (get_any _ _ _ _ (by omega) (by omega) (by omega)).mono ?_
  rintro e w2 ⟨rfl, m, rfl⟩
  go_wp2_with fail
  rw [rounds_succ]
  go_wp2_with fail
  refine (get_any _ _ _ _ (by omega) (by omega) (by omega)).mono ?_
  rintro e w2 ⟨rfl, m, rfl⟩
  go_wp2_with fail
  rw [rounds_succ]
  go_wp2
  refine bodyPost_ret (v := .agg #[.int .i64 (getW v 32 32), .int .i64 (getW v 2 30), .int .i64 (getW v 0 2), .int .i64 0]) (by simp [results, Tryd.results58, go_sem]) rfl ⟨rfl, ?_⟩
  repeat' (with_reducible first | exact Below.refl _ _ | refine below_drewN ?_ _ | refine Below.setCell ?_ ?_ _ | refine Below.alloc ?_ ?_ _)
  all_goals simp

set_option maxHeartbeats 1000000 in
theorem cut_home (v : Int) (b : Nat) (w : World) (hv : U64 v) (hb : b < w.heap.size) (c0 : w.cell? ⟨b, 0, none⟩ = some (.int .i64 32)) (c1 : w.cell? ⟨b, 1, none⟩ = some (.int .i64 16)) (c2 : w.cell? ⟨b, 2, none⟩ = some (.int .i64 16)) :
    Calls Tryd.prog 58 #[.int .u64 v, .slice (some ⟨b, 0, none⟩) 3 3] w
      fun e w' => e = .returned (.agg #[.int .i64 (getW v 32 32), .int .i64 (getW v 16 16), .int .i64 (getW v 0 16), .int .i64 0]) ∧ Below w.heap.size w w' := by
  obtain ⟨hv0, hv1⟩ := hv
  obtain ⟨g0, g1⟩ := getW_bd v 32 32 4294967296 (by simp [pw])
  obtain ⟨g2, g3⟩ := getW_bd v 16 16 65536 (by simp [pw])
  obtain ⟨g4, g5⟩ := getW_bd v 0 16 65536 (by simp [pw])
  go_enter Tryd.func58, Tryd.ntmps58
  go_wp2_with fail
  refine wp_loop_rounds 4 ?_
  rw [rounds_succ]
  go_wp2_with fail
  refine (get_any _ _ _ _ (by omega) (by omega) (by omega)).mono ?_
  rintro e w2 ⟨rfl, m, rfl⟩
  go_wp2_with fail
  rw [rounds_succ]
  go_wp2_with fail
  refine (get_any _ _ _ _ (by omega) (by omega) (by omega)).mono ?_
  rintro e w2 ⟨rfl, m, rfl⟩
  go_wp2_with fail
  rw [rounds_succ]
  go_wp2_with fail
  refine (get_any _ _ _ _ (by omega) (by omega) (by omega)).mono ?_
  rintro e w2 ⟨rfl, m, rfl⟩
  go_wp2_with fail
  rw [rounds_succ]
  go_wp2
  refine bodyPost_ret (v := .agg #[.int .i64 (getW v 32 32), .int .i64 (getW v 16 16), .int .i64 (getW v 0 16), .int .i64 0]) (by simp [results, Tryd.results58, go_sem]) rfl ⟨rfl, ?_⟩
  repeat' (with_reducible first | exact Below.refl _ _ | refine below_drewN ?_ _ | refine Below.setCell ?_ ?_ _ | refine Below.alloc ?_ ?_ _)
  all_goals simp

set_option maxHeartbeats 1000000 in
theorem cut_head (v : Int) (b : Nat) (w : World) (hv : U64 v) (hb : b < w.heap.size) (c0 : w.cell? ⟨b, 0, none⟩ = some (.int .i64 32)) (c1 : w.cell? ⟨b, 1, none⟩ = some (.int .i64 32)) :
    Calls Tryd.prog 58 #[.int .u64 v, .slice (some ⟨b, 0, none⟩) 2 2] w
      fun e w' => e = .returned (.agg #[.int .i64 (getW v 32 32), .int .i64 (getW v 0 32), .int .i64 0, .int .i64 0]) ∧ Below w.heap.size w w' := by
  obtain ⟨hv0, hv1⟩ := hv
  obtain ⟨g0, g1⟩ := getW_bd v 32 32 4294967296 (by simp [pw])
  obtain ⟨g2, g3⟩ := getW_bd v 0 32 4294967296 (by simp [pw])
  go_enter Tryd.func58, Tryd.ntmps58
  go_wp2_with fail
  refine wp_loop_rounds 3 ?_
  rw [rounds_succ]
  go_wp2_with fail
  refine (get_any _ _ _ _ (by omega) (by omega) (by omega)).mono ?_
  rintro e w2 ⟨rfl, m, rfl⟩
  go_wp2_with fail
  rw [rounds_succ]
  go_wp2_with fail
  refine (get_any _ _ _ _ (by omega) (by omega) (by omega)).mono ?_
  rintro e w2 ⟨rfl, m, rfl⟩
  go_wp2_with fail
  rw [rounds_succ]
  go_wp2
  refine bodyPost_ret (v := .agg #[.int .i64 (getW v 32 32), .int .i64 (getW v 0 32), .int .i64 0, .int .i64 0]) (by simp [results, Tryd.results58, go_sem]) rfl ⟨rfl, ?_⟩
  repeat' (with_reducible first | exact Below.refl _ _ | refine below_drewN ?_ _ | refine Below.setCell ?_ ?_ _ | refine Below.alloc ?_ ?_ _)
  all_goals simp

set_option maxHeartbeats 1000000 in
theorem cut_conn (v : Int) (b : Nat) (w : World) (hv : U64 v) (hb : b < w.heap.size) (c0 : w.cell? ⟨b, 0, none⟩ = some (.int .i64 26)) (c1 : w.cell? ⟨b, 1, none⟩ = some (.int .i64 5)) (c2 : w.cell? ⟨b, 2, none⟩ = some (.int .i64 3)) (c3 : w.cell? ⟨b, 3, none⟩ = some (.int .i64 30)) :
    Calls Tryd.prog 58 #[.int .u64 v, .slice (some ⟨b, 0, none⟩) 4 4] w
      fun e w' => e = .returned (.agg #[.int .i64 (getW v 38 26), .int .i64 (getW v 33 5), .int .i64 (getW v 30 3), .int .i64 (getW v 0 30)]) ∧ Below w.heap.size w w' := by
  obtain ⟨hv0, hv1⟩ := hv
  obtain ⟨g0, g1⟩ := getW_bd v 38 26 67108864 (by simp [pw])
  obtain ⟨g2, g3⟩ := getW_bd v 33 5 32 (by simp [pw])
  obtain ⟨g4, g5⟩ := getW_bd v 30 3 8 (by simp [pw])
  obtain ⟨g6, g7⟩ := getW_bd v 0 30 1073741824 (by simp [pw])
  go_enter Tryd.func58, Tryd.ntmps58
  go_wp2_with fail
  refine wp_loop_rounds 5 ?_
  rw [rounds_succ]
  go_wp2_with fail
  refine (get_any _ _ _ _ (by omega) (by omega) (by omega)).mono ?_
  rintro e w2 ⟨rfl, m, rfl⟩
  go_wp2_with fail
  rw [rounds_succ]
  go_wp2_with fail
  refine (get_any _ _ _ _ (by omega) (by omega) (by omega)).mono ?_
  rintro e w2 ⟨rfl, m, rfl⟩
  go_wp2_with fail
  rw [rounds_succ]
  go_wp2_with fail
  refine (get_any _ _ _ _ (by omega) (by omega) (by omega)).mono ?_
  rintro e w2 ⟨rfl, m, rfl⟩
  go_wp2_with fail
  rw [rounds_succ]
  go_wp2_with fail
  refine (get_any _ _ _ _ (by omega) (by omega) (by omega)).mono ?_
  rintro e w2 ⟨rfl, m, rfl⟩
  go_wp2_with fail
  rw [rounds_succ]
  go_wp2
  refine bodyPost_ret (v := .agg #[.int .i64 (getW v 38 26), .int .i64 (getW v 33 5), .int .i64 (getW v 30 3), .int .i64 (getW v 0 30)]) (by simp [results, Tryd.results58, go_sem]) rfl ⟨rfl, ?_⟩
  repeat' (with_reducible first | exact Below.refl _ _ | refine below_drewN ?_ _ | refine Below.setCell ?_ ?_ _ | refine Below.alloc ?_ ?_ _)
  all_goals simp

/-- the result's own block, behind a call: as it was laid. -/
theorem res_kept {w w2 : World} {cs : Array Value} {T : TypeId} {o : Obj} (h : Below ((w.alloc (.cells cs T)).alloc o).heap.size ((w.alloc (.cells cs T)).alloc o) w2) :
    (∀ i, w2.cell? ⟨w.heap.size, i, none⟩ = cs[i]?) ∧ (∀ i, w2.frozen? ⟨w.heap.size, i, none⟩ = false) ∧ w.heap.size + 2 ≤ w2.heap.size ∧ Below w.heap.size w w2 := by
  refine ⟨fun i => ?_, fun i => ?_, ?_, below_two _ _ _ _ h⟩
  · rw [h.cell (by simp; omega)]; simp
  · rw [h.frozen (by simp; omega)]; simp
  · have := h.size; simpa using this

set_option maxHeartbeats 1000000 in
theorem state_of (v : Int) (w : World) (hv : U64 v) :
    Calls Tryd.prog 39 #[.int .u64 v] w
      fun e w' => e = .returned (.agg #[.int .i64 (getW v 32 32), .int .i64 (getW v 2 30), .int .i64 (getW v 0 2)]) ∧ Below w.heap.size w w' := by
  obtain ⟨g0, g1⟩ := getW_bd v 32 32 4294967296 (by simp [pw])
  obtain ⟨g2, g3⟩ := getW_bd v 2 30 1073741824 (by simp [pw])
  obtain ⟨g4, g5⟩ := getW_bd v 0 2 4 (by simp [pw])
  go_enter Tryd.func39, Tryd.ntmps39
  go_wp2_with fail
  refine (cut_state _ _ _ hv (by simp) (by simp) (by simp) (by simp)).mono ?_
  rintro e w2 ⟨rfl, hbel⟩
  obtain ⟨hc, hf, hz, hb⟩ := res_kept hbel
  have hlt : w.heap.size < w2.heap.size := by omega
  have hc0 := hc 0
  have hf0 := hf 0
  have hc1 := hc 1
  have hf1 := hf 1
  have hc2 := hc 2
  have hf2 := hf 2
  clear hc hf
  have HB := Lib.hid hb
  clear hbel hb
  go_wp2
  refine bodyPost_ret (v := .agg #[.int .i64 (getW v 32 32), .int .i64 (getW v 2 30), .int .i64 (getW v 0 2)]) (by simp [results, Tryd.results39, go_sem, hlt, hc0, hc1, hc2]) rfl ⟨rfl, ?_⟩
  repeat' (with_reducible first | exact HB.out | refine below_drewN ?_ _ | refine Below.setCell ?_ ?_ _ | refine Below.alloc ?_ ?_ _)
  all_goals (simp; try omega)

set_option maxHeartbeats 1000000 in
theorem head_of (v : Int) (w : World) (hv : U64 v) :
    Calls Tryd.prog 40 #[.int .u64 v] w
      fun e w' => e = .returned (.agg #[.int .i64 (getW v 32 32), .int .i64 (getW v 0 32 - 1)]) ∧ Below w.heap.size w w' := by
  obtain ⟨g0, g1⟩ := getW_bd v 32 32 4294967296 (by simp [pw])
  obtain ⟨g2, g3⟩ := getW_bd v 0 32 4294967296 (by simp [pw])
  go_enter Tryd.func40, Tryd.ntmps40
  go_wp2_with fail
  refine (cut_head _ _ _ hv (by simp) (by simp) (by simp)).mono ?_
  rintro e w2 ⟨rfl, hbel⟩
  obtain ⟨hc, hf, hz, hb⟩ := res_kept hbel
  have hlt : w.heap.size < w2.heap.size := by omega
  have hc0 := hc 0
  have hf0 := hf 0
  have hc1 := hc 1
  have hf1 := hf 1
  clear hc hf
  have HB := Lib.hid hb
  clear hbel hb
  go_wp2
  refine bodyPost_ret (v := .agg #[.int .i64 (getW v 32 32), .int .i64 (getW v 0 32 - 1)]) (by simp [results, Tryd.results40, go_sem, hlt, hc0, hc1]) rfl ⟨rfl, ?_⟩
  repeat' (with_reducible first | exact HB.out | refine below_drewN ?_ _ | refine Below.setCell ?_ ?_ _ | refine Below.alloc ?_ ?_ _)
  all_goals (simp; try omega)

end Go.Proofs.YtgbepebihlmedaaDoor
