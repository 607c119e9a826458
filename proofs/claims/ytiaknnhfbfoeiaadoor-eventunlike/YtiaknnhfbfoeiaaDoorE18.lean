/- Events: unlike events have unlike texts: the law. -/
import Derived.Test.YtiaknnhfbfoeiaaDoorE17
namespace Go.Proofs.YtiaknnhfbfoeiaaDoor
open Go.RowKit Go.ChangeShapes Go.WideShapes
set_option maxRecDepth 100000

set_option maxHeartbeats 4000000 in
theorem unlike_c (x z : Ev) (hx : x.Ok) (hzo : z.Ok) (hr : rightR x = true) (hz : rightR z = true) (w : World) (hT : TabE w) : Calls Tryd.prog 5 #[.agg x.c, .agg z.c] w fun e w' => e = .returned (.bool true) ∧ Below w.heap.size w w' := by
  have cS := fun W => refright_any x W
  rw [hr] at cS
  have cZ := fun W => refright_any z W
  rw [hz] at cZ
  have cO := fun W => of_any x W
  have cP := fun W => of_any z W
  have cL := fun W h => line_any x hx W h
  have cM := fun W h => line_any z hzo W h
  have hLL : (lineC x = lineC z) ↔ x = z := ⟨fun h => line_inj (by rw [right_eq]; exact hr) (by rw [right_eq]; exact hz) h, fun h => by rw [h]⟩
  obtain ⟨LX, hLX⟩ : ∃ LX, lineC x = LX := ⟨_, rfl⟩
  obtain ⟨LZ, hLZ⟩ : ∃ LZ, lineC z = LZ := ⟨_, rfl⟩
  rw [hLX] at cL hLL
  rw [hLZ] at cM hLL
  clear hLX hLZ
  have heq : ∀ W, (binOp .eql 25 (.agg x.c) (.agg z.c)).run Tryd.prog W = .ok (.bool (decide (LX = LZ))) W := fun W => by
    rw [show decide (LX = LZ) = eqb x z from Bool.eq_iff_iff.2 (by rw [eqb_iff, decide_eq_true_eq]; exact hLL)]
    exact eq_ev2 x z W
  have hgd : ∀ p9 q9 W, (eqGuard .eql 25 p9 q9 (.agg x.c) (.agg z.c)).run Tryd.prog W = .ok () W := fun p9 q9 W => guard_ev2 p9 q9 _ _ W
  have htx : (decide ((⟨LX.toArray⟩ : ByteArray) = ⟨LZ.toArray⟩)) = decide (LX = LZ) := by
    rw [decide_eq_decide]
    constructor
    · intro h
      have := congrArg (fun b : ByteArray => b.data.toList) h
      simpa using this
    · intro h
      rw [h]
  have hEnd : ((LX == LZ) == decide (LX = LZ)) = true := by
    by_cases h : LX = LZ
    · subst h
      simp
    · simp [h]
  clear hLL htx
  obtain ⟨v9, hv9⟩ : ∃ v9, Value.agg x.c = v9 := ⟨_, rfl⟩
  obtain ⟨v12, hv12⟩ : ∃ v12, Value.agg z.c = v12 := ⟨_, rfl⟩
  rw [hv9, hv12] at heq hgd
  have HV9 := Lib.hid hv9
  have HV12 := Lib.hid hv12
  clear hv9 hv12
  obtain ⟨B0, hB0⟩ : ∃ B0, w.heap.size = B0 := ⟨_, rfl⟩
  obtain ⟨k, ww, o, hn, hg, nn, ng, t, a, u, y, er⟩ := x
  obtain ⟨k2, w2, o2, hn2, hg2, nn2, ng2, t2, a2, u2, y2, e2⟩ := z
  obtain ⟨W0, hW0⟩ : ∃ W0, w.alloc (.cells #[.int .i64 k, .int .i64 ww, .int .i64 o, .int .i64 hn, .int .i64 hg, .int .i64 nn, .int .i64 ng, .int .i64 t, .int .i64 a, .int .i64 u, .bool y, .int .i64 er] 25) = W0 := ⟨_, rfl⟩
  obtain ⟨W1, hW1⟩ : ∃ W1, W0.alloc (.cells #[.int .i64 k2, .int .i64 w2, .int .i64 o2, .int .i64 hn2, .int .i64 hg2, .int .i64 nn2, .int .i64 ng2, .int .i64 t2, .int .i64 a2, .int .i64 u2, .bool y2, .int .i64 e2] 25) = W1 := ⟨_, rfl⟩
  have hB1 : W0.heap.size = B0 + 1 := by rw [← hW0, ← hB0]; simp
  have l1 : Lies W1 B0 25 (Ev.c ⟨k, ww, o, hn, hg, nn, ng, t, a, u, y, er⟩) := by rw [← hW1]; exact Lies.below (by rw [← hW0, ← hB0]; exact Lies.new _ _ _) ((Below.refl _ _).alloc (Nat.le_refl _) _) (by omega)
  have l2 : Lies W1 (B0 + 1) 25 (Ev.c ⟨k2, w2, o2, hn2, hg2, nn2, ng2, t2, a2, u2, y2, e2⟩) := by rw [← hW1, ← hB1]; exact Lies.new _ _ _
  have bW : Below w.heap.size w W1 := by rw [← hW1, ← hW0]; exact ((Below.refl _ _).alloc (Nat.le_refl _) _).alloc (by simp) _
  show Calls Tryd.prog 5 #[.agg #[.int .i64 k, .int .i64 ww, .int .i64 o, .int .i64 hn, .int .i64 hg, .int .i64 nn, .int .i64 ng, .int .i64 t, .int .i64 a, .int .i64 u, .bool y, .int .i64 er], .agg #[.int .i64 k2, .int .i64 w2, .int .i64 o2, .int .i64 hn2, .int .i64 hg2, .int .i64 nn2, .int .i64 ng2, .int .i64 t2, .int .i64 a2, .int .i64 u2, .bool y2, .int .i64 e2]] w _
  go_enter Tryd.func5, Tryd.ntmps5
  go_upto_region 1 with (fail)
  try rw [hW0]
  try rw [hW1]
  try rw [hB0]
  clear hW0 hW1
  obtain ⟨f0, f1, f2, f3, f4, f5, f6, f7, f8, f9, fa, fbb⟩ := Ev.cells l1
  obtain ⟨g0, g1, g2, g3, g4, g5, g6, g7, g8, g9, ga, gbb⟩ := Ev.cells l2
  go_wp2_with fail
  clear f0 f1 f2 f3 f4 f5 f6 f7 f8 f9 fa fbb g0 g1 g2 g3 g4 g5 g6 g7 g8 g9 ga gbb
  refine (speaks_any _ (hT.keep bW)).mono ?_
  rintro e wn ⟨rfl, bb⟩
  have l1 := l1.below bb l1.lt
  have l2 := l2.below bb l2.lt
  have bW := bW.trans (bb.mono bW.size)
  clear bb
  obtain ⟨f0, f1, f2, f3, f4, f5, f6, f7, f8, f9, fa, fbb⟩ := Ev.cells l1
  obtain ⟨g0, g1, g2, g3, g4, g5, g6, g7, g8, g9, ga, gbb⟩ := Ev.cells l2
  go_wp2_with fail
  clear f0 f1 f2 f3 f4 f5 f6 f7 f8 f9 fa fbb g0 g1 g2 g3 g4 g5 g6 g7 g8 g9 ga gbb
  refine (show Calls Tryd.prog 10 #[.agg (Ev.c ⟨k, ww, o, hn, hg, nn, ng, t, a, u, y, er⟩)] _ _ from cS _).mono ?_
  rintro e wn ⟨rfl, bb⟩
  have l1 := l1.below bb l1.lt
  have l2 := l2.below bb l2.lt
  have bW := bW.trans (bb.mono bW.size)
  clear bb
  obtain ⟨f0, f1, f2, f3, f4, f5, f6, f7, f8, f9, fa, fbb⟩ := Ev.cells l1
  obtain ⟨g0, g1, g2, g3, g4, g5, g6, g7, g8, g9, ga, gbb⟩ := Ev.cells l2
  go_wp2_with fail
  clear f0 f1 f2 f3 f4 f5 f6 f7 f8 f9 fa fbb g0 g1 g2 g3 g4 g5 g6 g7 g8 g9 ga gbb
  refine (show Calls Tryd.prog 10 #[.agg (Ev.c ⟨k2, w2, o2, hn2, hg2, nn2, ng2, t2, a2, u2, y2, e2⟩)] _ _ from cZ _).mono ?_
  rintro e wn ⟨rfl, bb⟩
  have l1 := l1.below bb l1.lt
  have l2 := l2.below bb l2.lt
  have bW := bW.trans (bb.mono bW.size)
  clear bb
  go_upto_region 3 with (fail)
  have T2 : Turns [] wn wn.drew := (Turns.refl [] wn).drew
  have l1 := l1.turn T2 (by simp)
  have l2 := l2.turn T2 (by simp)
  have bW := bW.trans (T2.below (by simp) bW.size)
  refine wp_region_held_drew (S := fun X9 => Lies X9 B0 25 (Ev.c ⟨k, ww, o, hn, hg, nn, ng, t, a, u, y, er⟩) ∧ Lies X9 (B0 + 1) 25 (Ev.c ⟨k2, w2, o2, hn2, hg2, nn2, ng2, t2, a2, u2, y2, e2⟩)) (by kernel_rfl) (And.intro l1 l2) (fun hHeld => ?_)
  refine wpAnyH_take (i := 0) (oi := { dst := some 18, op := Go.Op.load 25 (Go.Operand.tmp 2), type := 25, pos := "law.go:83", after := #[], guard := none }) (v := ?_) rfl (by kernel_rfl) (by kernel_rfl) (by kernel_rfl) (fun _ _ _ h => h) (Or.inl ⟨by rfl, ?_⟩) hHeld ?_
  rotate_left
  · intro w hSw; obtain ⟨⟨hS0, hS1, hS2, hS3, hS4, hS5, hS6, hS7, hS8, hS9, hSa, hSb⟩, ⟨gS0, gS1, gS2, gS3, gS4, gS5, gS6, gS7, gS8, gS9, gSa, gSb⟩⟩ := And.intro (Ev.cells hSw.1) (Ev.cells hSw.2); go_simp; try with_reducible rfl
  rotate_left
  try simp only [Act.put, List.setIfInBounds_toArray, List.set_cons_zero, List.set_cons_succ]
  refine wpAnyH_take (i := 3) (oi := { dst := some 21, op := Go.Op.load 25 (Go.Operand.tmp 3), type := 25, pos := "law.go:83", after := #[], guard := none }) (v := ?_) rfl (by kernel_rfl) (by kernel_rfl) (by kernel_rfl) (fun _ _ _ h => h) (Or.inl ⟨by rfl, ?_⟩) hHeld ?_
  rotate_left
  · intro w hSw; obtain ⟨⟨hS0, hS1, hS2, hS3, hS4, hS5, hS6, hS7, hS8, hS9, hSa, hSb⟩, ⟨gS0, gS1, gS2, gS3, gS4, gS5, gS6, gS7, gS8, gS9, gSa, gSb⟩⟩ := And.intro (Ev.cells hSw.1) (Ev.cells hSw.2); go_simp; try with_reducible rfl
  rotate_left
  try simp only [Act.put, List.setIfInBounds_toArray, List.set_cons_zero, List.set_cons_succ]
  refine wpAnyH_take (i := 7) (oi := { dst := some 25, op := Go.Op.load 25 (Go.Operand.tmp 2), type := 25, pos := "law.go:83", after := #[], guard := none }) (v := ?_) rfl (by kernel_rfl) (by kernel_rfl) (by kernel_rfl) (fun _ _ _ h => h) (Or.inl ⟨by rfl, ?_⟩) hHeld ?_
  rotate_left
  · intro w hSw; obtain ⟨⟨hS0, hS1, hS2, hS3, hS4, hS5, hS6, hS7, hS8, hS9, hSa, hSb⟩, ⟨gS0, gS1, gS2, gS3, gS4, gS5, gS6, gS7, gS8, gS9, gSa, gSb⟩⟩ := And.intro (Ev.cells hSw.1) (Ev.cells hSw.2); go_simp; try with_reducible rfl
  rotate_left
  try simp only [Act.put, List.setIfInBounds_toArray, List.set_cons_zero, List.set_cons_succ]
  refine wpAnyH_take (i := 8) (oi := { dst := some 26, op := Go.Op.load 25 (Go.Operand.tmp 3), type := 25, pos := "law.go:83", after := #[], guard := none }) (v := ?_) rfl (by kernel_rfl) (by kernel_rfl) (by kernel_rfl) (fun _ _ _ h => h) (Or.inl ⟨by rfl, ?_⟩) hHeld ?_
  rotate_left
  · intro w hSw; obtain ⟨⟨hS0, hS1, hS2, hS3, hS4, hS5, hS6, hS7, hS8, hS9, hSa, hSb⟩, ⟨gS0, gS1, gS2, gS3, gS4, gS5, gS6, gS7, gS8, gS9, gSa, gSb⟩⟩ := And.intro (Ev.cells hSw.1) (Ev.cells hSw.2); go_simp; try with_reducible rfl
  rotate_left
  try simp only [Act.put, List.setIfInBounds_toArray, List.set_cons_zero, List.set_cons_succ]
  refine wpAnyH_take (i := 9) (oi := { dst := some 27, op := Go.Op.binOp Go.BinOp.eql 25 (Go.Operand.tmp 25) (Go.Operand.tmp 26) 25, type := 4, pos := "law.go:83", after := #[{ on := 7, ground := Go.Ground.data }, { on := 8, ground := Go.Ground.data }], guard := none }) (v := .bool (decide (LX = LZ))) rfl (by kernel_rfl) (by kernel_rfl) (by kernel_rfl) (fun _ _ _ h => h) (Or.inl ⟨by rfl, ?_⟩) hHeld ?_
  · intro w hSw
    have hv9 := HV9.out
    have hv12 := HV12.out
    have hv9b : Value.agg #[.int .i64 k, .int .i64 ww, .int .i64 o, .int .i64 hn, .int .i64 hg, .int .i64 nn, .int .i64 ng, .int .i64 t, .int .i64 a, .int .i64 u, .bool y, .int .i64 er] = v9 := hv9
    have hv12b : Value.agg #[.int .i64 k2, .int .i64 w2, .int .i64 o2, .int .i64 hn2, .int .i64 hg2, .int .i64 nn2, .int .i64 ng2, .int .i64 t2, .int .i64 a2, .int .i64 u2, .bool y2, .int .i64 e2] = v12 := hv12
    try rw [hv9]
    try rw [hv12]
    try rw [hv9b]
    try rw [hv12b]
    clear hv9 hv12 hv9b hv12b
    go_simp
  try simp only [Act.put, List.setIfInBounds_toArray, List.set_cons_zero, List.set_cons_succ]
  refine wpAnyH_ready (rs := [1]) (by kernel_rfl) (by simp) ?_
  refine AllReadyH.cons (o := { dst := some 19, op := Go.Op.call { callee := Go.Callee.value (Go.Operand.func 9), args := #[Go.Operand.tmp 18], argTypes := #[25] }, type := 31, pos := "law.go:83", after := #[{ on := 0, ground := Go.Ground.data }], guard := none }) rfl (fun K hK => ?_) AllReadyH.nil
  go_simp
  refine (cO _).mono ?_
  rintro e wn ⟨rfl, bb⟩
  have l1 := l1.below bb l1.lt
  have l2 := l2.below bb l2.lt
  have bW := bW.trans (bb.mono bW.size)
  go_wp2_with fail
  refine hK.out _ _ (And.intro l1 l2) (fun hHeld => ?_)
  clear hK K
  try simp only [Act.put, List.setIfInBounds_toArray, List.set_cons_zero, List.set_cons_succ]
  refine wpAnyH_ready (rs := [2]) (by kernel_rfl) (by simp) ?_
  refine AllReadyH.cons (o := { dst := some 20, op := Go.Op.call { callee := Go.Callee.value (Go.Operand.func 11), args := #[Go.Operand.tmp 19], argTypes := #[31] }, type := 9, pos := "law.go:83", after := #[{ on := 1, ground := Go.Ground.data }, { on := 1, ground := Go.Ground.chain }], guard := none }) rfl (fun K hK => ?_) AllReadyH.nil
  go_simp
  refine (cL _ (hT.keep bW)).mono ?_
  rintro e wn ⟨rfl, bb⟩
  have l1 := l1.below bb l1.lt
  have l2 := l2.below bb l2.lt
  have bW := bW.trans (bb.mono bW.size)
  go_wp2_with fail
  refine hK.out _ _ (And.intro l1 l2) (fun hHeld => ?_)
  clear hK K
  try simp only [Act.put, List.setIfInBounds_toArray, List.set_cons_zero, List.set_cons_succ]
  refine wpAnyH_ready (rs := [4]) (by kernel_rfl) (by simp) ?_
  refine AllReadyH.cons (o := { dst := some 22, op := Go.Op.call { callee := Go.Callee.value (Go.Operand.func 9), args := #[Go.Operand.tmp 21], argTypes := #[25] }, type := 31, pos := "law.go:83", after := #[{ on := 3, ground := Go.Ground.data }, { on := 2, ground := Go.Ground.chain }], guard := none }) rfl (fun K hK => ?_) AllReadyH.nil
  go_simp
  refine (cP _).mono ?_
  rintro e wn ⟨rfl, bb⟩
  have l1 := l1.below bb l1.lt
  have l2 := l2.below bb l2.lt
  have bW := bW.trans (bb.mono bW.size)
  go_wp2_with fail
  refine hK.out _ _ (And.intro l1 l2) (fun hHeld => ?_)
  clear hK K
  try simp only [Act.put, List.setIfInBounds_toArray, List.set_cons_zero, List.set_cons_succ]
  refine wpAnyH_ready (rs := [5]) (by kernel_rfl) (by simp) ?_
  refine AllReadyH.cons (o := { dst := some 23, op := Go.Op.call { callee := Go.Callee.value (Go.Operand.func 11), args := #[Go.Operand.tmp 22], argTypes := #[31] }, type := 9, pos := "law.go:83", after := #[{ on := 4, ground := Go.Ground.data }, { on := 4, ground := Go.Ground.chain }], guard := none }) rfl (fun K hK => ?_) AllReadyH.nil
  go_simp
  refine (cM _ (hT.keep bW)).mono ?_
  rintro e wn ⟨rfl, bb⟩
  have l1 := l1.below bb l1.lt
  have l2 := l2.below bb l2.lt
  have bW := bW.trans (bb.mono bW.size)
  go_wp2_with fail
  refine hK.out _ _ (And.intro l1 l2) (fun hHeld => ?_)
  clear hK K
  try simp only [Act.put, List.setIfInBounds_toArray, List.set_cons_zero, List.set_cons_succ]
  refine wpAnyH_take (i := 6) (oi := { dst := some 24, op := Go.Op.binOp Go.BinOp.eql 9 (Go.Operand.tmp 20) (Go.Operand.tmp 23) 9, type := 4, pos := "law.go:83", after := #[{ on := 2, ground := Go.Ground.data }, { on := 5, ground := Go.Ground.data }], guard := none }) (v := ?_) rfl (by kernel_rfl) (by kernel_rfl) (by kernel_rfl) (fun _ _ _ h => h) (Or.inl ⟨by rfl, ?_⟩) hHeld ?_
  rotate_left
  · intro w hSw; obtain ⟨⟨hS0, hS1, hS2, hS3, hS4, hS5, hS6, hS7, hS8, hS9, hSa, hSb⟩, ⟨gS0, gS1, gS2, gS3, gS4, gS5, gS6, gS7, gS8, gS9, gSa, gSb⟩⟩ := And.intro (Ev.cells hSw.1) (Ev.cells hSw.2); go_simp; try with_reducible rfl
  rotate_left
  try simp only [Act.put, List.setIfInBounds_toArray, List.set_cons_zero, List.set_cons_succ]
  refine wpAnyH_take (i := 10) (oi := { dst := some 28, op := Go.Op.binOp Go.BinOp.eql 4 (Go.Operand.tmp 24) (Go.Operand.tmp 27) 4, type := 4, pos := "law.go:83", after := #[{ on := 6, ground := Go.Ground.data }, { on := 9, ground := Go.Ground.data }], guard := none }) (v := ?_) rfl (by kernel_rfl) (by kernel_rfl) (by kernel_rfl) (fun _ _ _ h => h) (Or.inl ⟨by rfl, ?_⟩) hHeld ?_
  rotate_left
  · intro w hSw; obtain ⟨⟨hS0, hS1, hS2, hS3, hS4, hS5, hS6, hS7, hS8, hS9, hSa, hSb⟩, ⟨gS0, gS1, gS2, gS3, gS4, gS5, gS6, gS7, gS8, gS9, gSa, gSb⟩⟩ := And.intro (Ev.cells hSw.1) (Ev.cells hSw.2); go_simp; try with_reducible rfl
  rotate_left
  try simp only [Act.put, List.setIfInBounds_toArray, List.set_cons_zero, List.set_cons_succ]
  refine wpAnyH_take (i := 11) (oi := { dst := some 4, op := Go.Op.assign (Go.Operand.tmp 28), type := 4, pos := "law.go:83", after := #[{ on := 10, ground := Go.Ground.data }, { on := 5, ground := Go.Ground.chain }, { on := 0, ground := Go.Ground.phase }, { on := 1, ground := Go.Ground.phase }, { on := 2, ground := Go.Ground.phase }, { on := 3, ground := Go.Ground.phase }, { on := 4, ground := Go.Ground.phase }, { on := 5, ground := Go.Ground.phase }, { on := 6, ground := Go.Ground.phase }, { on := 7, ground := Go.Ground.phase }, { on := 8, ground := Go.Ground.phase }, { on := 9, ground := Go.Ground.phase }, { on := 10, ground := Go.Ground.phase }], guard := none }) (v := ?_) rfl (by kernel_rfl) (by kernel_rfl) (by kernel_rfl) (fun _ _ _ h => h) (Or.inl ⟨by rfl, ?_⟩) hHeld ?_
  rotate_left
  · intro w hSw; obtain ⟨⟨hS0, hS1, hS2, hS3, hS4, hS5, hS6, hS7, hS8, hS9, hSa, hSb⟩, ⟨gS0, gS1, gS2, gS3, gS4, gS5, gS6, gS7, gS8, gS9, gSa, gSb⟩⟩ := And.intro (Ev.cells hSw.1) (Ev.cells hSw.2); go_simp; try with_reducible rfl
  rotate_left
  try simp only [Act.put, List.setIfInBounds_toArray, List.set_cons_zero, List.set_cons_succ]
  refine wpAnyH_done (by kernel_rfl) ?_ _
  go_wp2_with fail
  go_ret
  refine ⟨?_, bW⟩
  clear hEnd heq hgd
  by_cases hq : LX = LZ
  · subst hq
    simp [Array.getD]
  · simp [hq, Array.getD]

theorem unlike_law (x z : Ev) (hx : x.Ok) (hzo : z.Ok) (w : World) (hT : TabE w) : Calls Tryd.prog 5 #[.agg x.c, .agg z.c] w fun e w' => e = .returned (.bool true) ∧ Below w.heap.size w w' := by
  cases hr : rightR x with
  | false => exact unlike_a x z hr w hT
  | true =>
    cases hz : rightR z with
    | false => exact unlike_b x z hr hz w hT
    | true => exact unlike_c x z hx hzo hr hz w hT

end Go.Proofs.YtiaknnhfbfoeiaaDoor
