/- Events: unlike events have unlike texts. -/
import Derived.Test.YtiaknnhfbfoeiaaDoorE16
namespace Go.Proofs.YtiaknnhfbfoeiaaDoor
open Go.RowKit Go.ChangeShapes Go.WideShapes
set_option maxRecDepth 100000

theorem eq_ev2 (x y : Ev) (w : World) : (binOp .eql 25 (.agg x.c) (.agg y.c)).run Tryd.prog w = .ok (.bool (x.k == y.k && (x.w == y.w && (x.o == y.o && ((x.hn == y.hn && x.hg == y.hg) && ((x.nn == y.nn && x.ng == y.ng) && (x.t == y.t && (x.a == y.a && (x.u == y.u && (x.y == y.y && x.e == y.e)))))))))) w := by
  unfold Ev.c
  rw [run_eql_struct, show (10000 : Nat) = 9999 + 1 from rfl, run_equalIn_struct w 9999 25 _ _ (by kernel_rfl) (by kernel_rfl)]
  simp [go_sem]
  by_cases h0 : x.k = y.k
  rotate_left
  · simp [h0]
  by_cases h1 : x.w = y.w
  rotate_left
  · simp [h0, h1]
  by_cases h2 : x.o = y.o
  rotate_left
  · simp [h0, h1, h2]
  by_cases h3 : x.hn = y.hn
  rotate_left
  · simp [h0, h1, h2, h3]
  by_cases h4 : x.hg = y.hg
  rotate_left
  · simp [h0, h1, h2, h3, h4]
  by_cases h5 : x.nn = y.nn
  rotate_left
  · simp [h0, h1, h2, h3, h4, h5]
  by_cases h6 : x.ng = y.ng
  rotate_left
  · simp [h0, h1, h2, h3, h4, h5, h6]
  by_cases h7 : x.t = y.t
  rotate_left
  · simp [h0, h1, h2, h3, h4, h5, h6, h7]
  by_cases h8 : x.a = y.a
  rotate_left
  · simp [h0, h1, h2, h3, h4, h5, h6, h7, h8]
  by_cases h9 : x.u = y.u
  rotate_left
  · simp [h0, h1, h2, h3, h4, h5, h6, h7, h8, h9]
  by_cases h10 : x.y = y.y
  rotate_left
  · simp [h0, h1, h2, h3, h4, h5, h6, h7, h8, h9, h10]
  by_cases h11 : x.e = y.e
  rotate_left
  · simp [h0, h1, h2, h3, h4, h5, h6, h7, h8, h9, h10, h11]
  simp [h0, h1, h2, h3, h4, h5, h6, h7, h8, h9, h10, h11]

theorem guard_ev2 (x y : Operand) (c1 c2 : Array Value) (W : World) : (eqGuard .eql 25 x y (.agg c1) (.agg c2)).run Tryd.prog W = .ok () W := by
  have h : Tryd.prog.eqGuardType Tryd.prog.depth 25 = false := by kernel_rfl
  simp [eqGuard, h]
theorem eqb_iff (x y : Ev) : eqb x y = true ↔ x = y := by
  cases x
  cases y
  unfold eqb
  simp only [Bool.and_eq_true, beq_iff_eq, Ev.mk.injEq]
  constructor
  · rintro ⟨h1, h2, h3, ⟨h4, h5⟩, ⟨h6, h7⟩, h8, h9, ha, hb, hc⟩
    exact ⟨h1, h2, h3, h4, h5, h6, h7, h8, h9, ha, hb, hc⟩
  · rintro ⟨h1, h2, h3, h4, h5, h6, h7, h8, h9, ha, hb, hc⟩
    exact ⟨h1, h2, h3, ⟨h4, h5⟩, ⟨h6, h7⟩, h8, h9, ha, hb, hc⟩

set_option maxHeartbeats 4000000 in
theorem unlike_a (x z : Ev) (hr : rightR x = false) (w : World) (hT : TabE w) : Calls Tryd.prog 5 #[.agg x.c, .agg z.c] w fun e w' => e = .returned (.bool true) ∧ Below w.heap.size w w' := by
  have cS := fun W => refright_any x W
  rw [hr] at cS
  obtain ⟨B0, hB0⟩ : ∃ B0, w.heap.size = B0 := ⟨_, rfl⟩
  obtain ⟨k, ww, o, hn, hg, nn, ng, t, a, u, y, er⟩ := x
  obtain ⟨k2, w2, o2, hn2, hg2, nn2, ng2, t2, a2, u2, y2, e2⟩ := z
  obtain ⟨W0, hW0⟩ : ∃ W0, w.alloc (.cells #[.int .i64 k, .int .i64 ww, .int .i64 o, .int .i64 hn, .int .i64 hg, .int .i64 nn, .int .i64 ng, .int .i64 t, .int .i64 a, .int .i64 u, .bool y, .int .i64 er] 25) = W0 := ⟨_, rfl⟩
  obtain ⟨W1, hW1⟩ : ∃ W1, W0.alloc (.cells #[.int .i64 k2, .int .i64 w2, .int .i64 o2, .int .i64 hn2, .int .i64 hg2, .int .i64 nn2, .int .i64 ng2, .int .i64 t2, .int .i64 a2, .int .i64 u2, .bool y2, .int .i64 e2] 25) = W1 := ⟨_, rfl⟩
  have hB1 : W0.heap.size = B0 + 1 := by rw [← hW0, ← hB0]; simp
  have l1 : Lies W1 B0 25 (Ev.c ⟨k, ww, o, hn, hg, nn, ng, t, a, u, y, er⟩) := by rw [← hW1]; exact Lies.below (by rw [← hW0, ← hB0]; exact Lies.new _ _ _) ((Below.refl _ _).alloc (Nat.le_refl _) _) (by omega)
  have l2 : Lies W1 (B0 + 1) 25 (Ev.c ⟨k2, w2, o2, hn2, hg2, nn2, ng2, t2, a2, u2, y2, e2⟩) := by rw [← hW1, ← hB1]; exact Lies.new _ _ _
  have bW : Below w.heap.size w W1 := by rw [← hW1, ← hW0]; exact ((Below.refl _ _).alloc (Nat.le_refl _) _).alloc (by simp) _
  show Calls Tryd.prog 5 #[.agg #[.int .i64 k, .int .i64 ww, .int .i64 o, .int .i64 hn, .int .i64 hg, .int .i64 nn, .int .i64 ng, .int .i64 t, .int .i64 a, .int .i64 u, .bool y, .int .i64 er], .agg #[.int .i64 k2, .int .i64 w2, .int .i64 o2, .int .i64 hn2, .int .i64 hg2, .int .i64 nn2, .int .i64 ng2, .int .i64 t2, .int .i64 a2, .int .i64 u2, .bool y2, .int .i64 e2]] w _
  go_enter Tryd.func5, Tryd.ntmps5
  go_upto_region 1 with (fail)
  try rw [hW0]
  try rw [hW1]
  try rw [hB0]
  clear hW0 hW1
  obtain ⟨f0, f1, f2, f3, f4, f5, f6, f7, f8, f9, fa, fbb⟩ := Ev.cells l1
  obtain ⟨g0, g1, g2, g3, g4, g5, g6, g7, g8, g9, ga, gbb⟩ := Ev.cells l2
  go_wp2_with fail
  clear f0 f1 f2 f3 f4 f5 f6 f7 f8 f9 fa fbb g0 g1 g2 g3 g4 g5 g6 g7 g8 g9 ga gbb
  refine (speaks_any _ (hT.keep bW)).mono ?_
  rintro e wn ⟨rfl, bb⟩
  have l1 := l1.below bb l1.lt
  have l2 := l2.below bb l2.lt
  have bW := bW.trans (bb.mono bW.size)
  clear bb
  obtain ⟨f0, f1, f2, f3, f4, f5, f6, f7, f8, f9, fa, fbb⟩ := Ev.cells l1
  obtain ⟨g0, g1, g2, g3, g4, g5, g6, g7, g8, g9, ga, gbb⟩ := Ev.cells l2
  go_wp2_with fail
  clear f0 f1 f2 f3 f4 f5 f6 f7 f8 f9 fa fbb g0 g1 g2 g3 g4 g5 g6 g7 g8 g9 ga gbb
  refine (show Calls Tryd.prog 10 #[.agg (Ev.c ⟨k, ww, o, hn, hg, nn, ng, t, a, u, y, er⟩)] _ _ from cS _).mono ?_
  rintro e wn ⟨rfl, bb⟩
  have l1 := l1.below bb l1.lt
  have l2 := l2.below bb l2.lt
  have bW := bW.trans (bb.mono bW.size)
  clear bb
  go_wp2_with fail
  refine (speaks_any _ (hT.keep bW)).mono ?_
  rintro e wn ⟨rfl, bb⟩
  have l1 := l1.below bb l1.lt
  have l2 := l2.below bb l2.lt
  have bW := bW.trans (bb.mono bW.size)
  clear bb
  go_wp2_with fail
  go_ret
  exact ⟨rfl, bW⟩

set_option maxHeartbeats 4000000 in
theorem unlike_b (x z : Ev) (hr : rightR x = true) (hz : rightR z = false) (w : World) (hT : TabE w) : Calls Tryd.prog 5 #[.agg x.c, .agg z.c] w fun e w' => e = .returned (.bool true) ∧ Below w.heap.size w w' := by
  have cS := fun W => refright_any x W
  rw [hr] at cS
  have cZ := fun W => refright_any z W
  rw [hz] at cZ
  obtain ⟨B0, hB0⟩ : ∃ B0, w.heap.size = B0 := ⟨_, rfl⟩
  obtain ⟨k, ww, o, hn, hg, nn, ng, t, a, u, y, er⟩ := x
  obtain ⟨k2, w2, o2, hn2, hg2, nn2, ng2, t2, a2, u2, y2, e2⟩ := z
  obtain ⟨W0, hW0⟩ : ∃ W0, w.alloc (.cells #[.int .i64 k, .int .i64 ww, .int .i64 o, .int .i64 hn, .int .i64 hg, .int .i64 nn, .int .i64 ng, .int .i64 t, .int .i64 a, .int .i64 u, .bool y, .int .i64 er] 25) = W0 := ⟨_, rfl⟩
  obtain ⟨W1, hW1⟩ : ∃ W1, W0.alloc (.cells #[.int .i64 k2, .int .i64 w2, .int .i64 o2, .int .i64 hn2, .int .i64 hg2, .int .i64 nn2, .int .i64 ng2, .int .i64 t2, .int .i64 a2, .int .i64 u2, .bool y2, .int .i64 e2] 25) = W1 := ⟨_, rfl⟩
  have hB1 : W0.heap.size = B0 + 1 := by rw [← hW0, ← hB0]; simp
  have l1 : Lies W1 B0 25 (Ev.c ⟨k, ww, o, hn, hg, nn, ng, t, a, u, y, er⟩) := by rw [← hW1]; exact Lies.below (by rw [← hW0, ← hB0]; exact Lies.new _ _ _) ((Below.refl _ _).alloc (Nat.le_refl _) _) (by omega)
  have l2 : Lies W1 (B0 + 1) 25 (Ev.c ⟨k2, w2, o2, hn2, hg2, nn2, ng2, t2, a2, u2, y2, e2⟩) := by rw [← hW1, ← hB1]; exact Lies.new _ _ _
  have bW : Below w.heap.size w W1 := by rw [← hW1, ← hW0]; exact ((Below.refl _ _).alloc (Nat.le_refl _) _).alloc (by simp) _
  show Calls Tryd.prog 5 #[.agg #[.int .i64 k, .int .i64 ww, .int .i64 o, .int .i64 hn, .int .i64 hg, .int .i64 nn, .int .i64 ng, .int .i64 t, .int .i64 a, .int .i64 u, .bool y, .int .i64 er], .agg #[.int .i64 k2, .int .i64 w2, .int .i64 o2, .int .i64 hn2, .int .i64 hg2, .int .i64 nn2, .int .i64 ng2, .int .i64 t2, .int .i64 a2, .int .i64 u2, .bool y2, .int .i64 e2]] w _
  go_enter Tryd.func5, Tryd.ntmps5
  go_upto_region 1 with (fail)
  try rw [hW0]
  try rw [hW1]
  try rw [hB0]
  clear hW0 hW1
  obtain ⟨f0, f1, f2, f3, f4, f5, f6, f7, f8, f9, fa, fbb⟩ := Ev.cells l1
  obtain ⟨g0, g1, g2, g3, g4, g5, g6, g7, g8, g9, ga, gbb⟩ := Ev.cells l2
  go_wp2_with fail
  clear f0 f1 f2 f3 f4 f5 f6 f7 f8 f9 fa fbb g0 g1 g2 g3 g4 g5 g6 g7 g8 g9 ga gbb
  refine (speaks_any _ (hT.keep bW)).mono ?_
  rintro e wn ⟨rfl, bb⟩
  have l1 := l1.below bb l1.lt
  have l2 := l2.below bb l2.lt
  have bW := bW.trans (bb.mono bW.size)
  clear bb
  obtain ⟨f0, f1, f2, f3, f4, f5, f6, f7, f8, f9, fa, fbb⟩ := Ev.cells l1
  obtain ⟨g0, g1, g2, g3, g4, g5, g6, g7, g8, g9, ga, gbb⟩ := Ev.cells l2
  go_wp2_with fail
  clear f0 f1 f2 f3 f4 f5 f6 f7 f8 f9 fa fbb g0 g1 g2 g3 g4 g5 g6 g7 g8 g9 ga gbb
  refine (show Calls Tryd.prog 10 #[.agg (Ev.c ⟨k, ww, o, hn, hg, nn, ng, t, a, u, y, er⟩)] _ _ from cS _).mono ?_
  rintro e wn ⟨rfl, bb⟩
  have l1 := l1.below bb l1.lt
  have l2 := l2.below bb l2.lt
  have bW := bW.trans (bb.mono bW.size)
  clear bb
  obtain ⟨f0, f1, f2, f3, f4, f5, f6, f7, f8, f9, fa, fbb⟩ := Ev.cells l1
  obtain ⟨g0, g1, g2, g3, g4, g5, g6, g7, g8, g9, ga, gbb⟩ := Ev.cells l2
  go_wp2_with fail
  clear f0 f1 f2 f3 f4 f5 f6 f7 f8 f9 fa fbb g0 g1 g2 g3 g4 g5 g6 g7 g8 g9 ga gbb
  refine (show Calls Tryd.prog 10 #[.agg (Ev.c ⟨k2, w2, o2, hn2, hg2, nn2, ng2, t2, a2, u2, y2, e2⟩)] _ _ from cZ _).mono ?_
  rintro e wn ⟨rfl, bb⟩
  have l1 := l1.below bb l1.lt
  have l2 := l2.below bb l2.lt
  have bW := bW.trans (bb.mono bW.size)
  clear bb
  go_wp2_with fail
  refine (speaks_any _ (hT.keep bW)).mono ?_
  rintro e wn ⟨rfl, bb⟩
  have l1 := l1.below bb l1.lt
  have l2 := l2.below bb l2.lt
  have bW := bW.trans (bb.mono bW.size)
  clear bb
  go_wp2_with fail
  go_ret
  exact ⟨rfl, bW⟩


end Go.Proofs.YtiaknnhfbfoeiaaDoor
