/- Contracts: the document's numbers of a word (Numbers). -/
import Derived.Test.YtihagkngjnblaaaW9
namespace Go.Proofs.Ytihagkngjnblaaa
open Go.RowKit

theorem get_num (v s t a b : Int) (h : partB s t = true) (ha : pw s = a) (hb : pw t = b) : getW v s t = v / a % b := by
  subst ha; subst hb; exact getW_at v s t h

set_option maxHeartbeats 1000000 in
theorem numbers_state (v : Int) (b : Nat) (w : World) (hv : U64 v) (hb : b < w.heap.size) (c0 : w.cell? ⟨b, 0, none⟩ = some (.int .i64 32)) (c1 : w.cell? ⟨b, 1, none⟩ = some (.int .i64 30)) (c2 : w.cell? ⟨b, 2, none⟩ = some (.int .i64 2)) :
    Calls Try.prog 25 #[.int .u64 v, .slice (some ⟨b, 0, none⟩) 3 3] w
      fun e w' => e = .returned (.slice (some ⟨w.heap.size, 0, none⟩) 3 3) ∧ w.alloc (.cells #[.int .i64 (getW v 32 32), .int .i64 (getW v 2 30), .int .i64 (getW v 0 2)] 3) = w' := by
  obtain ⟨hv0, hv1⟩ := hv
  obtain ⟨g0, g1⟩ := getW_bd v 32 32 4294967296 (by simp [pw])
  have e0 := get_num v 32 32 4294967296 4294967296 (by decide) (by simp [pw]) (by simp [pw])
  obtain ⟨g2, g3⟩ := getW_bd v 2 30 1073741824 (by simp [pw])
  have e1 := get_num v 2 30 4 1073741824 (by decide) (by simp [pw]) (by simp [pw])
  obtain ⟨g4, g5⟩ := getW_bd v 0 2 4 (by simp [pw])
  have e2 := get_num v 0 2 1 4 (by decide) (by simp [pw]) (by simp [pw])
  have p2 : pw 2 = 4 := by simp [pw]
  have q2 : v % pw 2 = getW v 0 2 := by rw [p2, e2]; omega
  have o2 : 1 ≤ pw 2 := pw_pos 2
  have u2x : pw 2 ≤ 4294967296 := by rw [p2]; omega
  obtain ⟨d1, y1⟩ : ∃ d, v / pw 2 = d := ⟨_, rfl⟩
  have y1v : d1 = v / 4 := by rw [← y1, p2] <;> omega
  have y1a : 0 ≤ d1 := by omega
  have y1b : d1 < 18446744073709551616 := by omega
  have p1 : pw 30 = 1073741824 := by simp [pw]
  have q1 : d1 % pw 30 = getW v 2 30 := by rw [p1, e1]; omega
  have o1 : 1 ≤ pw 30 := pw_pos 30
  have u1x : pw 30 ≤ 4294967296 := by rw [p1]; omega
  obtain ⟨d2, y2⟩ : ∃ d, d1 / pw 30 = d := ⟨_, rfl⟩
  have y2v : d2 = v / 4294967296 := by rw [← y2, p1] <;> omega
  have y2a : 0 ≤ d2 := by omega
  have y2b : d2 < 18446744073709551616 := by omega
  have p0 : pw 32 = 4294967296 := by simp [pw]
  have q0 : d2 % pw 32 = getW v 32 32 := by rw [p0, e0]; omega
  have o0 : 1 ≤ pw 32 := pw_pos 32
  have u0x : pw 32 ≤ 4294967296 := by rw [p0]; omega
  obtain ⟨d3, y3⟩ : ∃ d, d2 / pw 32 = d := ⟨_, rfl⟩
  have y3v : d3 = v / 18446744073709551616 := by rw [← y3, p0] <;> omega
  have y3a : 0 ≤ d3 := by omega
  have y3b : d3 < 18446744073709551616 := by omega
  clear e0 p0 e1 p1 e2 p2 y1v y2v y3v
  have hmk : ∀ w, (Instr.makeSlice 44 (.int .i64 3) (.int .i64 3)).run Try.prog w = .ok (.slice (some ⟨w.heap.size, 0, none⟩) 3 3) (w.alloc (.cells #[.int .i64 0, .int .i64 0, .int .i64 0] 3)) := fun _ => by kernel_rfl
  go_enter Try.func25, Try.ntmps25
  go_wp2_with fail
  refine wp_loop_rounds 4 ?_
  rw [rounds_succ]
  go_wp2_with fail
  refine (power_any _ _ (by omega) (by omega)).mono ?_
  rintro e w2 ⟨rfl, rfl⟩
  go_wp2_with fail
  refine (power_any _ _ (by omega) (by omega)).mono ?_
  rintro e w2 ⟨rfl, rfl⟩
  go_wp2_with fail
  rw [rounds_succ]
  go_wp2_with fail
  refine (power_any _ _ (by omega) (by omega)).mono ?_
  rintro e w2 ⟨rfl, rfl⟩
  go_wp2_with fail
  refine (power_any _ _ (by omega) (by omega)).mono ?_
  rintro e w2 ⟨rfl, rfl⟩
  go_wp2_with fail
  rw [rounds_succ]
  go_wp2_with fail
  refine (power_any _ _ (by omega) (by omega)).mono ?_
  rintro e w2 ⟨rfl, rfl⟩
  go_wp2_with fail
  refine (power_any _ _ (by omega) (by omega)).mono ?_
  rintro e w2 ⟨rfl, rfl⟩
  go_wp2_with fail
  rw [rounds_succ]
  go_wp2
  go_ret
  exact ⟨rfl, rfl⟩

set_option maxHeartbeats 1000000 in
theorem numbers_home (v : Int) (b : Nat) (w : World) (hv : U64 v) (hb : b < w.heap.size) (c0 : w.cell? ⟨b, 0, none⟩ = some (.int .i64 32)) (c1 : w.cell? ⟨b, 1, none⟩ = some (.int .i64 16)) (c2 : w.cell? ⟨b, 2, none⟩ = some (.int .i64 16)) :
    Calls Try.prog 25 #[.int .u64 v, .slice (some ⟨b, 0, none⟩) 3 3] w
      fun e w' => e = .returned (.slice (some ⟨w.heap.size, 0, none⟩) 3 3) ∧ w.alloc (.cells #[.int .i64 (getW v 32 32), .int .i64 (getW v 16 16), .int .i64 (getW v 0 16)] 3) = w' := by
  obtain ⟨hv0, hv1⟩ := hv
  obtain ⟨g0, g1⟩ := getW_bd v 32 32 4294967296 (by simp [pw])
  have e0 := get_num v 32 32 4294967296 4294967296 (by decide) (by simp [pw]) (by simp [pw])
  obtain ⟨g2, g3⟩ := getW_bd v 16 16 65536 (by simp [pw])
  have e1 := get_num v 16 16 65536 65536 (by decide) (by simp [pw]) (by simp [pw])
  obtain ⟨g4, g5⟩ := getW_bd v 0 16 65536 (by simp [pw])
  have e2 := get_num v 0 16 1 65536 (by decide) (by simp [pw]) (by simp [pw])
  have p2 : pw 16 = 65536 := by simp [pw]
  have q2 : v % pw 16 = getW v 0 16 := by rw [p2, e2]; omega
  have o2 : 1 ≤ pw 16 := pw_pos 16
  have u2x : pw 16 ≤ 4294967296 := by rw [p2]; omega
  obtain ⟨d1, y1⟩ : ∃ d, v / pw 16 = d := ⟨_, rfl⟩
  have y1v : d1 = v / 65536 := by rw [← y1, p2] <;> omega
  have y1a : 0 ≤ d1 := by omega
  have y1b : d1 < 18446744073709551616 := by omega
  have p1 : pw 16 = 65536 := by simp [pw]
  have q1 : d1 % pw 16 = getW v 16 16 := by rw [p1, e1]; omega
  have o1 : 1 ≤ pw 16 := pw_pos 16
  have u1x : pw 16 ≤ 4294967296 := by rw [p1]; omega
  obtain ⟨d2, y2⟩ : ∃ d, d1 / pw 16 = d := ⟨_, rfl⟩
  have y2v : d2 = v / 4294967296 := by rw [← y2, p1] <;> omega
  have y2a : 0 ≤ d2 := by omega
  have y2b : d2 < 18446744073709551616 := by omega
  have p0 : pw 32 = 4294967296 := by simp [pw]
  have q0 : d2 % pw 32 = getW v 32 32 := by rw [p0, e0]; omega
  have o0 : 1 ≤ pw 32 := pw_pos 32
  have u0x : pw 32 ≤ 4294967296 := by rw [p0]; omega
  obtain ⟨d3, y3⟩ : ∃ d, d2 / pw 32 = d := ⟨_, rfl⟩
  have y3v : d3 = v / 18446744073709551616 := by rw [← y3, p0] <;> omega
  have y3a : 0 ≤ d3 := by omega
  have y3b : d3 < 18446744073709551616 := by omega
  clear e0 p0 e1 p1 e2 p2 y1v y2v y3v
  have hmk : ∀ w, (Instr.makeSlice 44 (.int .i64 3) (.int .i64 3)).run Try.prog w = .ok (.slice (some ⟨w.heap.size, 0, none⟩) 3 3) (w.alloc (.cells #[.int .i64 0, .int .i64 0, .int .i64 0] 3)) := fun _ => by kernel_rfl
  go_enter Try.func25, Try.ntmps25
  go_wp2_with fail
  refine wp_loop_rounds 4 ?_
  rw [rounds_succ]
  go_wp2_with fail
  refine (power_any _ _ (by omega) (by omega)).mono ?_
  rintro e w2 ⟨rfl, rfl⟩
  go_wp2_with fail
  refine (power_any _ _ (by omega) (by omega)).mono ?_
  rintro e w2 ⟨rfl, rfl⟩
  go_wp2_with fail
  rw [rounds_succ]
  go_wp2_with fail
  refine (power_any _ _ (by omega) (by omega)).mono ?_
  rintro e w2 ⟨rfl, rfl⟩
  go_wp2_with fail
  refine (power_any _ _ (by omega) (by omega)).mono ?_
  rintro e w2 ⟨rfl, rfl⟩
  go_wp2_with fail
  rw [rounds_succ]
  go_wp2_with fail
  refine (power_any _ _ (by omega) (by omega)).mono ?_
  rintro e w2 ⟨rfl, rfl⟩
  go_wp2_with fail
  refine (power_any _ _ (by omega) (by omega)).mono ?_
  rintro e w2 ⟨rfl, rfl⟩
  go_wp2_with fail
  rw [rounds_succ]
  go_wp2
  go_ret
  exact ⟨rfl, rfl⟩

set_option maxHeartbeats 1000000 in
theorem numbers_head (v : Int) (b : Nat) (w : World) (hv : U64 v) (hb : b < w.heap.size) (c0 : w.cell? ⟨b, 0, none⟩ = some (.int .i64 32)) (c1 : w.cell? ⟨b, 1, none⟩ = some (.int .i64 32)) :
    Calls Try.prog 25 #[.int .u64 v, .slice (some ⟨b, 0, none⟩) 2 2] w
      fun e w' => e = .returned (.slice (some ⟨w.heap.size, 0, none⟩) 2 2) ∧ w.alloc (.cells #[.int .i64 (getW v 32 32), .int .i64 (getW v 0 32)] 3) = w' := by
  obtain ⟨hv0, hv1⟩ := hv
  obtain ⟨g0, g1⟩ := getW_bd v 32 32 4294967296 (by simp [pw])
  have e0 := get_num v 32 32 4294967296 4294967296 (by decide) (by simp [pw]) (by simp [pw])
  obtain ⟨g2, g3⟩ := getW_bd v 0 32 4294967296 (by simp [pw])
  have e1 := get_num v 0 32 1 4294967296 (by decide) (by simp [pw]) (by simp [pw])
  have p1 : pw 32 = 4294967296 := by simp [pw]
  have q1 : v % pw 32 = getW v 0 32 := by rw [p1, e1]; omega
  have o1 : 1 ≤ pw 32 := pw_pos 32
  have u1x : pw 32 ≤ 4294967296 := by rw [p1]; omega
  obtain ⟨d1, y1⟩ : ∃ d, v / pw 32 = d := ⟨_, rfl⟩
  have y1v : d1 = v / 4294967296 := by rw [← y1, p1] <;> omega
  have y1a : 0 ≤ d1 := by omega
  have y1b : d1 < 18446744073709551616 := by omega
  have p0 : pw 32 = 4294967296 := by simp [pw]
  have q0 : d1 % pw 32 = getW v 32 32 := by rw [p0, e0]; omega
  have o0 : 1 ≤ pw 32 := pw_pos 32
  have u0x : pw 32 ≤ 4294967296 := by rw [p0]; omega
  obtain ⟨d2, y2⟩ : ∃ d, d1 / pw 32 = d := ⟨_, rfl⟩
  have y2v : d2 = v / 18446744073709551616 := by rw [← y2, p0] <;> omega
  have y2a : 0 ≤ d2 := by omega
  have y2b : d2 < 18446744073709551616 := by omega
  clear e0 p0 e1 p1 y1v y2v
  have hmk : ∀ w, (Instr.makeSlice 44 (.int .i64 2) (.int .i64 2)).run Try.prog w = .ok (.slice (some ⟨w.heap.size, 0, none⟩) 2 2) (w.alloc (.cells #[.int .i64 0, .int .i64 0] 3)) := fun _ => by kernel_rfl
  go_enter Try.func25, Try.ntmps25
  go_wp2_with fail
  refine wp_loop_rounds 3 ?_
  rw [rounds_succ]
  go_wp2_with fail
  refine (power_any _ _ (by omega) (by omega)).mono ?_
  rintro e w2 ⟨rfl, rfl⟩
  go_wp2_with fail
  refine (power_any _ _ (by omega) (by omega)).mono ?_
  rintro e w2 ⟨rfl, rfl⟩
  go_wp2_with fail
  rw [rounds_succ]
  go_wp2_with fail
  refine (power_any _ _ (by omega) (by omega)).mono ?_
  rintro e w2 ⟨rfl, rfl⟩
  go_wp2_with fail
  refine (power_any _ _ (by omega) (by omega)).mono ?_
  rintro e w2 ⟨rfl, rfl⟩
  go_wp2_with fail
  rw [rounds_succ]
  go_wp2
  go_ret
  exact ⟨rfl, rfl⟩

set_option maxHeartbeats 1000000 in
theorem numbers_conn (v : Int) (b : Nat) (w : World) (hv : U64 v) (hb : b < w.heap.size) (c0 : w.cell? ⟨b, 0, none⟩ = some (.int .i64 26)) (c1 : w.cell? ⟨b, 1, none⟩ = some (.int .i64 5)) (c2 : w.cell? ⟨b, 2, none⟩ = some (.int .i64 3)) (c3 : w.cell? ⟨b, 3, none⟩ = some (.int .i64 30)) :
    Calls Try.prog 25 #[.int .u64 v, .slice (some ⟨b, 0, none⟩) 4 4] w
      fun e w' => e = .returned (.slice (some ⟨w.heap.size, 0, none⟩) 4 4) ∧ w.alloc (.cells #[.int .i64 (getW v 38 26), .int .i64 (getW v 33 5), .int .i64 (getW v 30 3), .int .i64 (getW v 0 30)] 3) = w' := by
  obtain ⟨hv0, hv1⟩ := hv
  obtain ⟨g0, g1⟩ := getW_bd v 38 26 67108864 (by simp [pw])
  have e0 := get_num v 38 26 274877906944 67108864 (by decide) (by simp [pw]) (by simp [pw])
  obtain ⟨g2, g3⟩ := getW_bd v 33 5 32 (by simp [pw])
  have e1 := get_num v 33 5 8589934592 32 (by decide) (by simp [pw]) (by simp [pw])
  obtain ⟨g4, g5⟩ := getW_bd v 30 3 8 (by simp [pw])
  have e2 := get_num v 30 3 1073741824 8 (by decide) (by simp [pw]) (by simp [pw])
  obtain ⟨g6, g7⟩ := getW_bd v 0 30 1073741824 (by simp [pw])
  have e3 := get_num v 0 30 1 1073741824 (by decide) (by simp [pw]) (by simp [pw])
  have p3 : pw 30 = 1073741824 := by simp [pw]
  have q3 : v % pw 30 = getW v 0 30 := by rw [p3, e3]; omega
  have o3 : 1 ≤ pw 30 := pw_pos 30
  have u3x : pw 30 ≤ 4294967296 := by rw [p3]; omega
  obtain ⟨d1, y1⟩ : ∃ d, v / pw 30 = d := ⟨_, rfl⟩
  have y1v : d1 = v / 1073741824 := by rw [← y1, p3] <;> omega
  have y1a : 0 ≤ d1 := by omega
  have y1b : d1 < 18446744073709551616 := by omega
  have p2 : pw 3 = 8 := by simp [pw]
  have q2 : d1 % pw 3 = getW v 30 3 := by rw [p2, e2]; omega
  have o2 : 1 ≤ pw 3 := pw_pos 3
  have u2x : pw 3 ≤ 4294967296 := by rw [p2]; omega
  obtain ⟨d2, y2⟩ : ∃ d, d1 / pw 3 = d := ⟨_, rfl⟩
  have y2v : d2 = v / 8589934592 := by rw [← y2, p2] <;> omega
  have y2a : 0 ≤ d2 := by omega
  have y2b : d2 < 18446744073709551616 := by omega
  have p1 : pw 5 = 32 := by simp [pw]
  have q1 : d2 % pw 5 = getW v 33 5 := by rw [p1, e1]; omega
  have o1 : 1 ≤ pw 5 := pw_pos 5
  have u1x : pw 5 ≤ 4294967296 := by rw [p1]; omega
  obtain ⟨d3, y3⟩ : ∃ d, d2 / pw 5 = d := ⟨_, rfl⟩
  have y3v : d3 = v / 274877906944 := by rw [← y3, p1] <;> omega
  have y3a : 0 ≤ d3 := by omega
  have y3b : d3 < 18446744073709551616 := by omega
  have p0 : pw 26 = 67108864 := by simp [pw]
  have q0 : d3 % pw 26 = getW v 38 26 := by rw [p0, e0]; omega
  have o0 : 1 ≤ pw 26 := pw_pos 26
  have u0x : pw 26 ≤ 4294967296 := by rw [p0]; omega
  obtain ⟨d4, y4⟩ : ∃ d, d3 / pw 26 = d := ⟨_, rfl⟩
  have y4v : d4 = v / 18446744073709551616 := by rw [← y4, p0] <;> omega
  have y4a : 0 ≤ d4 := by omega
  have y4b : d4 < 18446744073709551616 := by omega
  clear e0 p0 e1 p1 e2 p2 e3 p3 y1v y2v y3v y4v
  have hmk : ∀ w, (Instr.makeSlice 44 (.int .i64 4) (.int .i64 4)).run Try.prog w = .ok (.slice (some ⟨w.heap.size, 0, none⟩) 4 4) (w.alloc (.cells #[.int .i64 0, .int .i64 0, .int .i64 0, .int .i64 0] 3)) := fun _ => by kernel_rfl
  go_enter Try.func25, Try.ntmps25
  go_wp2_with fail
  refine wp_loop_rounds 5 ?_
  rw [rounds_succ]
  go_wp2_with fail
  refine (power_any _ _ (by omega) (by omega)).mono ?_
  rintro e w2 ⟨rfl, rfl⟩
  go_wp2_with fail
  refine (power_any _ _ (by omega) (by omega)).mono ?_
  rintro e w2 ⟨rfl, rfl⟩
  go_wp2_with fail
  rw [rounds_succ]
  go_wp2_with fail
  refine (power_any _ _ (by omega) (by omega)).mono ?_
  rintro e w2 ⟨rfl, rfl⟩
  go_wp2_with fail
  refine (power_any _ _ (by omega) (by omega)).mono ?_
  rintro e w2 ⟨rfl, rfl⟩
  go_wp2_with fail
  rw [rounds_succ]
  go_wp2_with fail
  refine (power_any _ _ (by omega) (by omega)).mono ?_
  rintro e w2 ⟨rfl, rfl⟩
  go_wp2_with fail
  refine (power_any _ _ (by omega) (by omega)).mono ?_
  rintro e w2 ⟨rfl, rfl⟩
  go_wp2_with fail
  rw [rounds_succ]
  go_wp2_with fail
  refine (power_any _ _ (by omega) (by omega)).mono ?_
  rintro e w2 ⟨rfl, rfl⟩
  go_wp2_with fail
  refine (power_any _ _ (by omega) (by omega)).mono ?_
  rintro e w2 ⟨rfl, rfl⟩
  go_wp2_with fail
  rw [rounds_succ]
  go_wp2
  go_ret
  exact ⟨rfl, rfl⟩

end Go.Proofs.Ytihagkngjnblaaa
