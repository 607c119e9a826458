/- Events: is an event right? -/
import Derived.Test.YtiaknnhfbfoeiaaDoorE4
namespace Go.Proofs.YtiaknnhfbfoeiaaDoor
open Go.RowKit Go.ChangeShapes Go.WideShapes
set_option maxRecDepth 100000

def eqb (x y : Ev) : Bool := x.k == y.k && (x.w == y.w && (x.o == y.o && ((x.hn == y.hn && x.hg == y.hg) && ((x.nn == y.nn && x.ng == y.ng) && (x.t == y.t && (x.a == y.a && (x.u == y.u && (x.y == y.y && x.e == y.e))))))))
def Ev.rightC (x : Ev) : Bool := !(x.fl == 0) && eqb x (x.only x.fl) && x.bdK x.k.toNat
theorem Ev.fl_in {x : Ev} (h : x.fl ≠ 0) : 0 ≤ x.k ∧ x.k ≤ 5 ∧ 0 ≤ x.o ∧ x.o ≤ 7 := by
  refine Classical.byContradiction fun hn => h ?_
  have hr : x.k < 0 ∨ 5 < x.k ∨ x.o < 0 ∨ 7 < x.o := by omega
  unfold Ev.fl Ev.fl0
  simp only [if_pos hr]
  rw [if_neg]
  rintro ⟨h, _⟩
  revert h
  decide

theorem guard_ev (x y : Operand) (c1 c2 : Array Value) (W : World) : (eqGuard .eql 31 x y (.agg c1) (.agg c2)).run Tryd.prog W = .ok () W := by
  have h : Tryd.prog.eqGuardType Tryd.prog.depth 31 = false := by kernel_rfl
  simp [eqGuard, h]

set_option maxHeartbeats 4000000 in
theorem right_any (x : Ev) (w : World) (hT : TabE w) : Calls Tryd.prog 8 #[.agg x.c] w fun e w' => e = .returned (.bool x.rightC) ∧ Below w.heap.size w w' := by
  obtain ⟨k, ww, o, hn, hg, nn, ng, t, a, u, y, er⟩ := x
  show Calls Tryd.prog 8 #[.agg #[.int .i64 k, .int .i64 ww, .int .i64 o, .int .i64 hn, .int .i64 hg, .int .i64 nn, .int .i64 ng, .int .i64 t, .int .i64 a, .int .i64 u, .bool y, .int .i64 er]] w _
  obtain ⟨W1, hW1⟩ : ∃ W1, w.alloc (.cells #[.int .i64 k, .int .i64 ww, .int .i64 o, .int .i64 hn, .int .i64 hg, .int .i64 nn, .int .i64 ng, .int .i64 t, .int .i64 a, .int .i64 u, .bool y, .int .i64 er] 31) = W1 := ⟨_, rfl⟩
  have l1 : Lies W1 w.heap.size 31 (Ev.c ⟨k, ww, o, hn, hg, nn, ng, t, a, u, y, er⟩) := by rw [← hW1]; exact Lies.new _ _ _
  have b1 : Below w.heap.size w W1 := by rw [← hW1]; exact (Below.refl _ _).alloc (Nat.le_refl _) _
  obtain ⟨f0, f1, f2, f3, f4, f5, f6, f7, f8, f9, fa, fbb⟩ := Ev.cells l1
  simp only at f0 f1 f2 f3 f4 f5 f6 f7 f8 f9 fa fbb
  have hF := fields_any ⟨k, ww, o, hn, hg, nn, ng, t, a, u, y, er⟩ W1 (hT.keep b1)
  have hin := Ev.fl_in (x := ⟨k, ww, o, hn, hg, nn, ng, t, a, u, y, er⟩)
  unfold Ev.rightC
  obtain ⟨fl, hfl⟩ : ∃ fl, Ev.fl ⟨k, ww, o, hn, hg, nn, ng, t, a, u, y, er⟩ = fl := ⟨_, rfl⟩
  rw [hfl] at hF hin
  rw [hfl]
  obtain ⟨eq, heq0⟩ : ∃ eq, eqb ⟨k, ww, o, hn, hg, nn, ng, t, a, u, y, er⟩ (Ev.only ⟨k, ww, o, hn, hg, nn, ng, t, a, u, y, er⟩ fl) = eq := ⟨_, rfl⟩
  have heq : ∀ W, (binOp .eql 31 (.agg #[.int .i64 k, .int .i64 ww, .int .i64 o, .int .i64 hn, .int .i64 hg, .int .i64 nn, .int .i64 ng, .int .i64 t, .int .i64 a, .int .i64 u, .bool y, .int .i64 er]) (.agg (Ev.c (Ev.only ⟨k, ww, o, hn, hg, nn, ng, t, a, u, y, er⟩ fl)))).run Tryd.prog W = .ok (.bool eq) W := fun W => by
    rw [← heq0]
    exact eq_ev ⟨k, ww, o, hn, hg, nn, ng, t, a, u, y, er⟩ (Ev.only ⟨k, ww, o, hn, hg, nn, ng, t, a, u, y, er⟩ fl) W
  have hgd : ∀ p9 q9 W, (eqGuard .eql 31 p9 q9 (.agg #[.int .i64 k, .int .i64 ww, .int .i64 o, .int .i64 hn, .int .i64 hg, .int .i64 nn, .int .i64 ng, .int .i64 t, .int .i64 a, .int .i64 u, .bool y, .int .i64 er]) (.agg (Ev.c (Ev.only ⟨k, ww, o, hn, hg, nn, ng, t, a, u, y, er⟩ fl)))).run Tryd.prog W = .ok () W := fun p9 q9 W => guard_ev p9 q9 _ _ W
  rw [heq0]
  clear heq0 hfl
  by_cases h0 : fl = 0
  · subst h0
    clear hin heq hgd
    rw [show (!((0 : Int) == 0) && eq && Ev.bdK ⟨k, ww, o, hn, hg, nn, ng, t, a, u, y, er⟩ (Ev.k ⟨k, ww, o, hn, hg, nn, ng, t, a, u, y, er⟩).toNat) = false by simp]
    go_enter Tryd.func8, Tryd.ntmps8
    go_upto_region 1 with (fail)
    try rw [hW1]
    go_wp2_with fail
    refine (show Calls Tryd.prog 19 #[.agg (Ev.c ⟨k, ww, o, hn, hg, nn, ng, t, a, u, y, er⟩)] _ _ from hF).mono ?_
    rintro e w2 ⟨rfl, b2⟩
    go_upto_region 2 with (fail)
    have T2 : Turns [] w2 w2.drew := (Turns.refl [] w2).drew
    have l3 := (l1.below b2 l1.lt).turn T2 (by simp)
    have b3 : Below w.heap.size w w2.drew := (b1.trans (b2.mono b1.size)).trans (T2.below (by simp) (b1.trans (b2.mono b1.size)).size)
    refine wp_region_held_drew (S := fun X9 => Lies X9 w.heap.size 31 (Ev.c ⟨k, ww, o, hn, hg, nn, ng, t, a, u, y, er⟩)) (by kernel_rfl) l3 (fun hHeld => ?_)
    refine wpAnyH_take (i := 0) (oi := { dst := some 6, op := Go.Op.move (Go.Operand.tmp 3), type := 49, pos := "event.go:172", after := #[], guard := none }) (v := ?_) rfl (by kernel_rfl) (by kernel_rfl) (by kernel_rfl) (fun _ _ _ h => h) (Or.inl ⟨by rfl, ?_⟩) hHeld ?_
    rotate_left
    · intro w hSw; obtain ⟨hS0, hS1, hS2, hS3, hS4, hS5, hS6, hS7, hS8, hS9, hSa, hSb⟩ := Ev.cells hSw; go_simp; try with_reducible rfl
    rotate_left
    try simp only [Act.put, List.setIfInBounds_toArray, List.set_cons_zero, List.set_cons_succ]
    refine wpAnyH_take (i := 1) (oi := { dst := some 7, op := Go.Op.binOp Go.BinOp.neq 49 (Go.Operand.tmp 6) (Go.Operand.const (Go.Value.int Go.IntKind.u16 0)) 49, type := 4, pos := "event.go:172", after := #[{ on := 0, ground := Go.Ground.data }], guard := none }) (v := ?_) rfl (by kernel_rfl) (by kernel_rfl) (by kernel_rfl) (fun _ _ _ h => h) (Or.inl ⟨by rfl, ?_⟩) hHeld ?_
    rotate_left
    · intro w hSw; obtain ⟨hS0, hS1, hS2, hS3, hS4, hS5, hS6, hS7, hS8, hS9, hSa, hSb⟩ := Ev.cells hSw; go_simp; try with_reducible rfl
    rotate_left
    try simp only [Act.put, List.setIfInBounds_toArray, List.set_cons_zero, List.set_cons_succ]
    refine wpAnyH_take (i := 2) (oi := { dst := some 8, op := Go.Op.move (Go.Operand.tmp 7), type := 4, pos := "event.go:172", after := #[{ on := 1, ground := Go.Ground.data }], guard := none }) (v := ?_) rfl (by kernel_rfl) (by kernel_rfl) (by kernel_rfl) (fun _ _ _ h => h) (Or.inl ⟨by rfl, ?_⟩) hHeld ?_
    rotate_left
    · intro w hSw; obtain ⟨hS0, hS1, hS2, hS3, hS4, hS5, hS6, hS7, hS8, hS9, hSa, hSb⟩ := Ev.cells hSw; go_simp; try with_reducible rfl
    rotate_left
    try simp only [Act.put, List.setIfInBounds_toArray, List.set_cons_zero, List.set_cons_succ]
    refine wpAnyH_take (i := 3) (oi := { dst := some 9, op := Go.Op.load 31 (Go.Operand.tmp 1), type := 31, pos := "event.go:172", after := #[{ on := 2, ground := Go.Ground.guard }], guard := some (2, true) }) (v := undef) rfl (by kernel_rfl) (by kernel_rfl) (by kernel_rfl) (fun _ _ _ h => h) (Or.inr ⟨by rfl, by rfl⟩) hHeld ?_
    try simp only [Act.put, List.setIfInBounds_toArray, List.set_cons_zero, List.set_cons_succ]
    refine wpAnyH_take (i := 4) (oi := { dst := some 10, op := Go.Op.load 31 (Go.Operand.tmp 1), type := 31, pos := "event.go:172", after := #[{ on := 2, ground := Go.Ground.guard }], guard := some (2, true) }) (v := undef) rfl (by kernel_rfl) (by kernel_rfl) (by kernel_rfl) (fun _ _ _ h => h) (Or.inr ⟨by rfl, by rfl⟩) hHeld ?_
    try simp only [Act.put, List.setIfInBounds_toArray, List.set_cons_zero, List.set_cons_succ]
    refine wpAnyH_take (i := 5) (oi := { dst := some 11, op := Go.Op.move (Go.Operand.tmp 3), type := 49, pos := "event.go:172", after := #[{ on := 2, ground := Go.Ground.guard }], guard := some (2, true) }) (v := undef) rfl (by kernel_rfl) (by kernel_rfl) (by kernel_rfl) (fun _ _ _ h => h) (Or.inr ⟨by rfl, by rfl⟩) hHeld ?_
    try simp only [Act.put, List.setIfInBounds_toArray, List.set_cons_zero, List.set_cons_succ]
    refine wpAnyH_ready (rs := [6]) (by kernel_rfl) (by simp) ?_
    refine AllReadyH.cons (o := { dst := some 12, op := Go.Op.call { callee := Go.Callee.value (Go.Operand.func 20), args := #[Go.Operand.tmp 10, Go.Operand.tmp 11], argTypes := #[31, 49] }, type := 31, pos := "event.go:172", after := #[{ on := 4, ground := Go.Ground.data }, { on := 5, ground := Go.Ground.data }, { on := 2, ground := Go.Ground.chain }, { on := 2, ground := Go.Ground.guard }], guard := some (2, true) }) rfl (fun K hK => ?_) AllReadyH.nil
    rw [if_neg (fun h => by have h : false = true := h; cases h)]
    refine hK.out _ _ hHeld (fun hHeld => ?_)
    clear hK K
    try simp only [Act.put, List.setIfInBounds_toArray, List.set_cons_zero, List.set_cons_succ]
    refine wpAnyH_take (i := 7) (oi := { dst := some 13, op := Go.Op.binOp Go.BinOp.eql 31 (Go.Operand.tmp 9) (Go.Operand.tmp 12) 31, type := 4, pos := "event.go:172", after := #[{ on := 3, ground := Go.Ground.data }, { on := 6, ground := Go.Ground.data }, { on := 2, ground := Go.Ground.guard }], guard := some (2, true) }) (v := undef) rfl (by kernel_rfl) (by kernel_rfl) (by kernel_rfl) (fun _ _ _ h => h) (Or.inr ⟨by rfl, by rfl⟩) hHeld ?_
    try simp only [Act.put, List.setIfInBounds_toArray, List.set_cons_zero, List.set_cons_succ]
    refine wpAnyH_take (i := 8) (oi := { dst := some 14, op := Go.Op.pick (Go.Operand.tmp 8) (Go.Operand.tmp 13) (Go.Operand.const (Go.Value.bool false)), type := 4, pos := "event.go:172", after := #[{ on := 2, ground := Go.Ground.data }, { on := 7, ground := Go.Ground.data }], guard := none }) (v := ?_) rfl (by kernel_rfl) (by kernel_rfl) (by kernel_rfl) (fun _ _ _ h => h) (Or.inl ⟨by rfl, ?_⟩) hHeld ?_
    rotate_left
    · intro w hSw; obtain ⟨hS0, hS1, hS2, hS3, hS4, hS5, hS6, hS7, hS8, hS9, hSa, hSb⟩ := Ev.cells hSw; go_simp; try with_reducible rfl
    rotate_left
    try simp only [Act.put, List.setIfInBounds_toArray, List.set_cons_zero, List.set_cons_succ]
    refine wpAnyH_take (i := 9) (oi := { dst := some 15, op := Go.Op.move (Go.Operand.tmp 14), type := 4, pos := "event.go:172", after := #[{ on := 8, ground := Go.Ground.data }, { on := 6, ground := Go.Ground.chain }], guard := none }) (v := ?_) rfl (by kernel_rfl) (by kernel_rfl) (by kernel_rfl) (fun _ _ _ h => h) (Or.inl ⟨by rfl, ?_⟩) hHeld ?_
    rotate_left
    · intro w hSw; obtain ⟨hS0, hS1, hS2, hS3, hS4, hS5, hS6, hS7, hS8, hS9, hSa, hSb⟩ := Ev.cells hSw; go_simp; try with_reducible rfl
    rotate_left
    try simp only [Act.put, List.setIfInBounds_toArray, List.set_cons_zero, List.set_cons_succ]
    refine wpAnyH_take (i := 10) (oi := { dst := some 16, op := Go.Op.load 31 (Go.Operand.tmp 1), type := 31, pos := "event.go:172", after := #[{ on := 9, ground := Go.Ground.guard }], guard := some (9, true) }) (v := undef) rfl (by kernel_rfl) (by kernel_rfl) (by kernel_rfl) (fun _ _ _ h => h) (Or.inr ⟨by rfl, by rfl⟩) hHeld ?_
    try simp only [Act.put, List.setIfInBounds_toArray, List.set_cons_zero, List.set_cons_succ]
    refine wpAnyH_ready (rs := [11]) (by kernel_rfl) (by simp) ?_
    refine AllReadyH.cons (o := { dst := some 17, op := Go.Op.call { callee := Go.Callee.value (Go.Operand.func 21), args := #[Go.Operand.tmp 16], argTypes := #[31] }, type := 4, pos := "event.go:172", after := #[{ on := 10, ground := Go.Ground.data }, { on := 9, ground := Go.Ground.chain }, { on := 9, ground := Go.Ground.guard }], guard := some (9, true) }) rfl (fun K hK => ?_) AllReadyH.nil
    rw [if_neg (fun h => by have h : false = true := h; cases h)]
    refine hK.out _ _ hHeld (fun hHeld => ?_)
    clear hK K
    try simp only [Act.put, List.setIfInBounds_toArray, List.set_cons_zero, List.set_cons_succ]
    refine wpAnyH_take (i := 12) (oi := { dst := some 18, op := Go.Op.pick (Go.Operand.tmp 15) (Go.Operand.tmp 17) (Go.Operand.const (Go.Value.bool false)), type := 4, pos := "event.go:172", after := #[{ on := 9, ground := Go.Ground.data }, { on := 11, ground := Go.Ground.data }], guard := none }) (v := ?_) rfl (by kernel_rfl) (by kernel_rfl) (by kernel_rfl) (fun _ _ _ h => h) (Or.inl ⟨by rfl, ?_⟩) hHeld ?_
    rotate_left
    · intro w hSw; obtain ⟨hS0, hS1, hS2, hS3, hS4, hS5, hS6, hS7, hS8, hS9, hSa, hSb⟩ := Ev.cells hSw; go_simp; try with_reducible rfl
    rotate_left
    try simp only [Act.put, List.setIfInBounds_toArray, List.set_cons_zero, List.set_cons_succ]
    refine wpAnyH_take (i := 13) (oi := { dst := some 2, op := Go.Op.assign (Go.Operand.tmp 18), type := 4, pos := "event.go:172", after := #[{ on := 12, ground := Go.Ground.data }, { on := 11, ground := Go.Ground.chain }, { on := 0, ground := Go.Ground.phase }, { on := 1, ground := Go.Ground.phase }, { on := 2, ground := Go.Ground.phase }, { on := 3, ground := Go.Ground.phase }, { on := 4, ground := Go.Ground.phase }, { on := 5, ground := Go.Ground.phase }, { on := 6, ground := Go.Ground.phase }, { on := 7, ground := Go.Ground.phase }, { on := 8, ground := Go.Ground.phase }, { on := 9, ground := Go.Ground.phase }, { on := 10, ground := Go.Ground.phase }, { on := 11, ground := Go.Ground.phase }, { on := 12, ground := Go.Ground.phase }], guard := none }) (v := ?_) rfl (by kernel_rfl) (by kernel_rfl) (by kernel_rfl) (fun _ _ _ h => h) (Or.inl ⟨by rfl, ?_⟩) hHeld ?_
    rotate_left
    · intro w hSw; obtain ⟨hS0, hS1, hS2, hS3, hS4, hS5, hS6, hS7, hS8, hS9, hSa, hSb⟩ := Ev.cells hSw; go_simp; try with_reducible rfl
    rotate_left
    try simp only [Act.put, List.setIfInBounds_toArray, List.set_cons_zero, List.set_cons_succ]
    refine wpAnyH_done (by kernel_rfl) ?_ _
    go_wp2_with fail
    go_ret
    exact ⟨rfl, b3⟩
  · have hin := hin h0
    have hb0 : (fl == 0) = false := by simpa using h0
    have hb1 : (fl != 0) = true := by simpa using h0
    have hin : 0 ≤ k ∧ k ≤ 5 ∧ 0 ≤ o ∧ o ≤ 7 := hin
    rw [hb0]
    cases eq with
    | false =>
      rw [show (!false && false && Ev.bdK ⟨k, ww, o, hn, hg, nn, ng, t, a, u, y, er⟩ (Ev.k ⟨k, ww, o, hn, hg, nn, ng, t, a, u, y, er⟩).toNat) = false by simp]
      clear hin
      go_enter Tryd.func8, Tryd.ntmps8
      go_upto_region 1 with (fail)
      try rw [hW1]
      go_wp2_with fail
      refine (show Calls Tryd.prog 19 #[.agg (Ev.c ⟨k, ww, o, hn, hg, nn, ng, t, a, u, y, er⟩)] _ _ from hF).mono ?_
      rintro e w2 ⟨rfl, b2⟩
      go_upto_region 2 with (fail)
      have T2 : Turns [] w2 w2.drew := (Turns.refl [] w2).drew
      have l3 := (l1.below b2 l1.lt).turn T2 (by simp)
      have b3 : Below w.heap.size w w2.drew := (b1.trans (b2.mono b1.size)).trans (T2.below (by simp) (b1.trans (b2.mono b1.size)).size)
      refine wp_region_held_drew (S := fun X9 => Lies X9 w.heap.size 31 (Ev.c ⟨k, ww, o, hn, hg, nn, ng, t, a, u, y, er⟩)) (by kernel_rfl) l3 (fun hHeld => ?_)
      refine wpAnyH_take (i := 0) (oi := { dst := some 6, op := Go.Op.move (Go.Operand.tmp 3), type := 49, pos := "event.go:172", after := #[], guard := none }) (v := ?_) rfl (by kernel_rfl) (by kernel_rfl) (by kernel_rfl) (fun _ _ _ h => h) (Or.inl ⟨by rfl, ?_⟩) hHeld ?_
      rotate_left
      · intro w hSw; obtain ⟨hS0, hS1, hS2, hS3, hS4, hS5, hS6, hS7, hS8, hS9, hSa, hSb⟩ := Ev.cells hSw; go_simp; try with_reducible rfl
      rotate_left
      try simp only [Act.put, List.setIfInBounds_toArray, List.set_cons_zero, List.set_cons_succ]
      refine wpAnyH_take (i := 1) (oi := { dst := some 7, op := Go.Op.binOp Go.BinOp.neq 49 (Go.Operand.tmp 6) (Go.Operand.const (Go.Value.int Go.IntKind.u16 0)) 49, type := 4, pos := "event.go:172", after := #[{ on := 0, ground := Go.Ground.data }], guard := none }) (v := ?_) rfl (by kernel_rfl) (by kernel_rfl) (by kernel_rfl) (fun _ _ _ h => h) (Or.inl ⟨by rfl, ?_⟩) hHeld ?_
      rotate_left
      · intro w hSw; obtain ⟨hS0, hS1, hS2, hS3, hS4, hS5, hS6, hS7, hS8, hS9, hSa, hSb⟩ := Ev.cells hSw; go_simp; try with_reducible rfl
      rotate_left
      try simp only [Act.put, List.setIfInBounds_toArray, List.set_cons_zero, List.set_cons_succ]
      refine wpAnyH_take (i := 2) (oi := { dst := some 8, op := Go.Op.move (Go.Operand.tmp 7), type := 4, pos := "event.go:172", after := #[{ on := 1, ground := Go.Ground.data }], guard := none }) (v := ?_) rfl (by kernel_rfl) (by kernel_rfl) (by kernel_rfl) (fun _ _ _ h => h) (Or.inl ⟨by rfl, ?_⟩) hHeld ?_
      rotate_left
      · intro w hSw; obtain ⟨hS0, hS1, hS2, hS3, hS4, hS5, hS6, hS7, hS8, hS9, hSa, hSb⟩ := Ev.cells hSw; go_simp; try with_reducible rfl
      rotate_left
      try simp only [Act.put, List.setIfInBounds_toArray, List.set_cons_zero, List.set_cons_succ]
      refine wpAnyH_take (i := 3) (oi := { dst := some 9, op := Go.Op.load 31 (Go.Operand.tmp 1), type := 31, pos := "event.go:172", after := #[{ on := 2, ground := Go.Ground.guard }], guard := some (2, true) }) (v := ?_) rfl (by kernel_rfl) (by kernel_rfl) (by kernel_rfl) (fun _ _ _ h => h) (Or.inl ⟨by rfl, ?_⟩) hHeld ?_
      rotate_left
      · intro w hSw; obtain ⟨hS0, hS1, hS2, hS3, hS4, hS5, hS6, hS7, hS8, hS9, hSa, hSb⟩ := Ev.cells hSw; go_simp; try with_reducible rfl
      rotate_left
      try simp only [Act.put, List.setIfInBounds_toArray, List.set_cons_zero, List.set_cons_succ]
      refine wpAnyH_take (i := 4) (oi := { dst := some 10, op := Go.Op.load 31 (Go.Operand.tmp 1), type := 31, pos := "event.go:172", after := #[{ on := 2, ground := Go.Ground.guard }], guard := some (2, true) }) (v := ?_) rfl (by kernel_rfl) (by kernel_rfl) (by kernel_rfl) (fun _ _ _ h => h) (Or.inl ⟨by rfl, ?_⟩) hHeld ?_
      rotate_left
      · intro w hSw; obtain ⟨hS0, hS1, hS2, hS3, hS4, hS5, hS6, hS7, hS8, hS9, hSa, hSb⟩ := Ev.cells hSw; go_simp; try with_reducible rfl
      rotate_left
      try simp only [Act.put, List.setIfInBounds_toArray, List.set_cons_zero, List.set_cons_succ]
      refine wpAnyH_take (i := 5) (oi := { dst := some 11, op := Go.Op.move (Go.Operand.tmp 3), type := 49, pos := "event.go:172", after := #[{ on := 2, ground := Go.Ground.guard }], guard := some (2, true) }) (v := ?_) rfl (by kernel_rfl) (by kernel_rfl) (by kernel_rfl) (fun _ _ _ h => h) (Or.inl ⟨by rfl, ?_⟩) hHeld ?_
      rotate_left
      · intro w hSw; obtain ⟨hS0, hS1, hS2, hS3, hS4, hS5, hS6, hS7, hS8, hS9, hSa, hSb⟩ := Ev.cells hSw; go_simp; try with_reducible rfl
      rotate_left
      try simp only [Act.put, List.setIfInBounds_toArray, List.set_cons_zero, List.set_cons_succ]
      refine wpAnyH_ready (rs := [6]) (by kernel_rfl) (by simp) ?_
      refine AllReadyH.cons (o := { dst := some 12, op := Go.Op.call { callee := Go.Callee.value (Go.Operand.func 20), args := #[Go.Operand.tmp 10, Go.Operand.tmp 11], argTypes := #[31, 49] }, type := 31, pos := "event.go:172", after := #[{ on := 4, ground := Go.Ground.data }, { on := 5, ground := Go.Ground.data }, { on := 2, ground := Go.Ground.chain }, { on := 2, ground := Go.Ground.guard }], guard := some (2, true) }) rfl (fun K hK => ?_) AllReadyH.nil
      go_simp
      refine (show Calls Tryd.prog 20 #[.agg (Ev.c ⟨k, ww, o, hn, hg, nn, ng, t, a, u, y, er⟩), .int .u16 fl] _ _ from only_any ⟨k, ww, o, hn, hg, nn, ng, t, a, u, y, er⟩ fl _).mono ?_
      rintro e X9 ⟨rfl, bb⟩
      have l3 := l3.below bb l3.lt
      have b3 := b3.trans (bb.mono b3.size)
      go_wp2_with fail
      refine hK.out _ _ l3 (fun hHeld => ?_)
      clear hK K
      try simp only [Act.put, List.setIfInBounds_toArray, List.set_cons_zero, List.set_cons_succ]
      obtain ⟨v9, hv9⟩ : ∃ v9, Value.agg #[.int .i64 k, .int .i64 ww, .int .i64 o, .int .i64 hn, .int .i64 hg, .int .i64 nn, .int .i64 ng, .int .i64 t, .int .i64 a, .int .i64 u, .bool y, .int .i64 er] = v9 := ⟨_, rfl⟩
      obtain ⟨v12, hv12⟩ : ∃ v12, Value.agg (Ev.c (Ev.only ⟨k, ww, o, hn, hg, nn, ng, t, a, u, y, er⟩ fl)) = v12 := ⟨_, rfl⟩
      rw [hv9, hv12] at heq hgd
      rw [hv9, hv12]
      clear hv9 hv12
      refine wpAnyH_take (i := 7) (oi := { dst := some 13, op := Go.Op.binOp Go.BinOp.eql 31 (Go.Operand.tmp 9) (Go.Operand.tmp 12) 31, type := 4, pos := "event.go:172", after := #[{ on := 3, ground := Go.Ground.data }, { on := 6, ground := Go.Ground.data }, { on := 2, ground := Go.Ground.guard }], guard := some (2, true) }) (v := .bool false) rfl (by kernel_rfl) (by kernel_rfl) (by kernel_rfl) (fun _ _ _ h => h) (Or.inl ⟨by rfl, ?_⟩) hHeld ?_
      · intro w hSw
        go_simp
      try simp only [Act.put, List.setIfInBounds_toArray, List.set_cons_zero, List.set_cons_succ]
      refine wpAnyH_take (i := 8) (oi := { dst := some 14, op := Go.Op.pick (Go.Operand.tmp 8) (Go.Operand.tmp 13) (Go.Operand.const (Go.Value.bool false)), type := 4, pos := "event.go:172", after := #[{ on := 2, ground := Go.Ground.data }, { on := 7, ground := Go.Ground.data }], guard := none }) (v := ?_) rfl (by kernel_rfl) (by kernel_rfl) (by kernel_rfl) (fun _ _ _ h => h) (Or.inl ⟨by rfl, ?_⟩) hHeld ?_
      rotate_left
      · intro w hSw; obtain ⟨hS0, hS1, hS2, hS3, hS4, hS5, hS6, hS7, hS8, hS9, hSa, hSb⟩ := Ev.cells hSw; go_simp; try with_reducible rfl
      rotate_left
      try simp only [Act.put, List.setIfInBounds_toArray, List.set_cons_zero, List.set_cons_succ]
      refine wpAnyH_take (i := 9) (oi := { dst := some 15, op := Go.Op.move (Go.Operand.tmp 14), type := 4, pos := "event.go:172", after := #[{ on := 8, ground := Go.Ground.data }, { on := 6, ground := Go.Ground.chain }], guard := none }) (v := ?_) rfl (by kernel_rfl) (by kernel_rfl) (by kernel_rfl) (fun _ _ _ h => h) (Or.inl ⟨by rfl, ?_⟩) hHeld ?_
      rotate_left
      · intro w hSw; obtain ⟨hS0, hS1, hS2, hS3, hS4, hS5, hS6, hS7, hS8, hS9, hSa, hSb⟩ := Ev.cells hSw; go_simp; try with_reducible rfl
      rotate_left
      try simp only [Act.put, List.setIfInBounds_toArray, List.set_cons_zero, List.set_cons_succ]
      refine wpAnyH_take (i := 10) (oi := { dst := some 16, op := Go.Op.load 31 (Go.Operand.tmp 1), type := 31, pos := "event.go:172", after := #[{ on := 9, ground := Go.Ground.guard }], guard := some (9, true) }) (v := undef) rfl (by kernel_rfl) (by kernel_rfl) (by kernel_rfl) (fun _ _ _ h => h) (Or.inr ⟨by rfl, by rfl⟩) hHeld ?_
      try simp only [Act.put, List.setIfInBounds_toArray, List.set_cons_zero, List.set_cons_succ]
      refine wpAnyH_ready (rs := [11]) (by kernel_rfl) (by simp) ?_
      refine AllReadyH.cons (o := { dst := some 17, op := Go.Op.call { callee := Go.Callee.value (Go.Operand.func 21), args := #[Go.Operand.tmp 16], argTypes := #[31] }, type := 4, pos := "event.go:172", after := #[{ on := 10, ground := Go.Ground.data }, { on := 9, ground := Go.Ground.chain }, { on := 9, ground := Go.Ground.guard }], guard := some (9, true) }) rfl (fun K hK => ?_) AllReadyH.nil
      rw [if_neg (fun h => by have h : false = true := h; cases h)]
      refine hK.out _ _ hHeld (fun hHeld => ?_)
      clear hK K
      try simp only [Act.put, List.setIfInBounds_toArray, List.set_cons_zero, List.set_cons_succ]
      refine wpAnyH_take (i := 12) (oi := { dst := some 18, op := Go.Op.pick (Go.Operand.tmp 15) (Go.Operand.tmp 17) (Go.Operand.const (Go.Value.bool false)), type := 4, pos := "event.go:172", after := #[{ on := 9, ground := Go.Ground.data }, { on := 11, ground := Go.Ground.data }], guard := none }) (v := ?_) rfl (by kernel_rfl) (by kernel_rfl) (by kernel_rfl) (fun _ _ _ h => h) (Or.inl ⟨by rfl, ?_⟩) hHeld ?_
      rotate_left
      · intro w hSw; obtain ⟨hS0, hS1, hS2, hS3, hS4, hS5, hS6, hS7, hS8, hS9, hSa, hSb⟩ := Ev.cells hSw; go_simp; try with_reducible rfl
      rotate_left
      try simp only [Act.put, List.setIfInBounds_toArray, List.set_cons_zero, List.set_cons_succ]
      refine wpAnyH_take (i := 13) (oi := { dst := some 2, op := Go.Op.assign (Go.Operand.tmp 18), type := 4, pos := "event.go:172", after := #[{ on := 12, ground := Go.Ground.data }, { on := 11, ground := Go.Ground.chain }, { on := 0, ground := Go.Ground.phase }, { on := 1, ground := Go.Ground.phase }, { on := 2, ground := Go.Ground.phase }, { on := 3, ground := Go.Ground.phase }, { on := 4, ground := Go.Ground.phase }, { on := 5, ground := Go.Ground.phase }, { on := 6, ground := Go.Ground.phase }, { on := 7, ground := Go.Ground.phase }, { on := 8, ground := Go.Ground.phase }, { on := 9, ground := Go.Ground.phase }, { on := 10, ground := Go.Ground.phase }, { on := 11, ground := Go.Ground.phase }, { on := 12, ground := Go.Ground.phase }], guard := none }) (v := ?_) rfl (by kernel_rfl) (by kernel_rfl) (by kernel_rfl) (fun _ _ _ h => h) (Or.inl ⟨by rfl, ?_⟩) hHeld ?_
      rotate_left
      · intro w hSw; obtain ⟨hS0, hS1, hS2, hS3, hS4, hS5, hS6, hS7, hS8, hS9, hSa, hSb⟩ := Ev.cells hSw; go_simp; try with_reducible rfl
      rotate_left
      try simp only [Act.put, List.setIfInBounds_toArray, List.set_cons_zero, List.set_cons_succ]
      refine wpAnyH_done (by kernel_rfl) ?_ _
      go_wp2_with fail
      go_ret
      exact ⟨rfl, b3⟩
    | true =>
      obtain ⟨kk, hkk'⟩ : ∃ kk, k.toNat = kk := ⟨_, rfl⟩
      have hkk : kk < 6 := by omega
      have hkx : k = (kk : Nat) := by omega
      rw [show (!false && true && Ev.bdK ⟨k, ww, o, hn, hg, nn, ng, t, a, u, y, er⟩ (Ev.k ⟨k, ww, o, hn, hg, nn, ng, t, a, u, y, er⟩).toNat) = Ev.bdK ⟨k, ww, o, hn, hg, nn, ng, t, a, u, y, er⟩ kk by rw [← hkk']; rfl]
      have HKX := Lib.hid hkx
      obtain ⟨bd, hbd⟩ : ∃ bd, Ev.bdK ⟨k, ww, o, hn, hg, nn, ng, t, a, u, y, er⟩ kk = bd := ⟨_, rfl⟩
      rw [hbd]
      have HBD := Lib.hid hbd
      clear hin hkk' hkx hbd
      go_enter Tryd.func8, Tryd.ntmps8
      go_upto_region 1 with (fail)
      try rw [hW1]
      go_wp2_with fail
      refine (show Calls Tryd.prog 19 #[.agg (Ev.c ⟨k, ww, o, hn, hg, nn, ng, t, a, u, y, er⟩)] _ _ from hF).mono ?_
      rintro e w2 ⟨rfl, b2⟩
      go_upto_region 2 with (fail)
      have T2 : Turns [] w2 w2.drew := (Turns.refl [] w2).drew
      have l3 := (l1.below b2 l1.lt).turn T2 (by simp)
      have b3 : Below w.heap.size w w2.drew := (b1.trans (b2.mono b1.size)).trans (T2.below (by simp) (b1.trans (b2.mono b1.size)).size)
      refine wp_region_held_drew (S := fun X9 => Lies X9 w.heap.size 31 (Ev.c ⟨k, ww, o, hn, hg, nn, ng, t, a, u, y, er⟩)) (by kernel_rfl) l3 (fun hHeld => ?_)
      refine wpAnyH_take (i := 0) (oi := { dst := some 6, op := Go.Op.move (Go.Operand.tmp 3), type := 49, pos := "event.go:172", after := #[], guard := none }) (v := ?_) rfl (by kernel_rfl) (by kernel_rfl) (by kernel_rfl) (fun _ _ _ h => h) (Or.inl ⟨by rfl, ?_⟩) hHeld ?_
      rotate_left
      · intro w hSw; obtain ⟨hS0, hS1, hS2, hS3, hS4, hS5, hS6, hS7, hS8, hS9, hSa, hSb⟩ := Ev.cells hSw; go_simp; try with_reducible rfl
      rotate_left
      try simp only [Act.put, List.setIfInBounds_toArray, List.set_cons_zero, List.set_cons_succ]
      refine wpAnyH_take (i := 1) (oi := { dst := some 7, op := Go.Op.binOp Go.BinOp.neq 49 (Go.Operand.tmp 6) (Go.Operand.const (Go.Value.int Go.IntKind.u16 0)) 49, type := 4, pos := "event.go:172", after := #[{ on := 0, ground := Go.Ground.data }], guard := none }) (v := ?_) rfl (by kernel_rfl) (by kernel_rfl) (by kernel_rfl) (fun _ _ _ h => h) (Or.inl ⟨by rfl, ?_⟩) hHeld ?_
      rotate_left
      · intro w hSw; obtain ⟨hS0, hS1, hS2, hS3, hS4, hS5, hS6, hS7, hS8, hS9, hSa, hSb⟩ := Ev.cells hSw; go_simp; try with_reducible rfl
      rotate_left
      try simp only [Act.put, List.setIfInBounds_toArray, List.set_cons_zero, List.set_cons_succ]
      refine wpAnyH_take (i := 2) (oi := { dst := some 8, op := Go.Op.move (Go.Operand.tmp 7), type := 4, pos := "event.go:172", after := #[{ on := 1, ground := Go.Ground.data }], guard := none }) (v := ?_) rfl (by kernel_rfl) (by kernel_rfl) (by kernel_rfl) (fun _ _ _ h => h) (Or.inl ⟨by rfl, ?_⟩) hHeld ?_
      rotate_left
      · intro w hSw; obtain ⟨hS0, hS1, hS2, hS3, hS4, hS5, hS6, hS7, hS8, hS9, hSa, hSb⟩ := Ev.cells hSw; go_simp; try with_reducible rfl
      rotate_left
      try simp only [Act.put, List.setIfInBounds_toArray, List.set_cons_zero, List.set_cons_succ]
      refine wpAnyH_take (i := 3) (oi := { dst := some 9, op := Go.Op.load 31 (Go.Operand.tmp 1), type := 31, pos := "event.go:172", after := #[{ on := 2, ground := Go.Ground.guard }], guard := some (2, true) }) (v := ?_) rfl (by kernel_rfl) (by kernel_rfl) (by kernel_rfl) (fun _ _ _ h => h) (Or.inl ⟨by rfl, ?_⟩) hHeld ?_
      rotate_left
      · intro w hSw; obtain ⟨hS0, hS1, hS2, hS3, hS4, hS5, hS6, hS7, hS8, hS9, hSa, hSb⟩ := Ev.cells hSw; go_simp; try with_reducible rfl
      rotate_left
      try simp only [Act.put, List.setIfInBounds_toArray, List.set_cons_zero, List.set_cons_succ]
      refine wpAnyH_take (i := 4) (oi := { dst := some 10, op := Go.Op.load 31 (Go.Operand.tmp 1), type := 31, pos := "event.go:172", after := #[{ on := 2, ground := Go.Ground.guard }], guard := some (2, true) }) (v := ?_) rfl (by kernel_rfl) (by kernel_rfl) (by kernel_rfl) (fun _ _ _ h => h) (Or.inl ⟨by rfl, ?_⟩) hHeld ?_
      rotate_left
      · intro w hSw; obtain ⟨hS0, hS1, hS2, hS3, hS4, hS5, hS6, hS7, hS8, hS9, hSa, hSb⟩ := Ev.cells hSw; go_simp; try with_reducible rfl
      rotate_left
      try simp only [Act.put, List.setIfInBounds_toArray, List.set_cons_zero, List.set_cons_succ]
      refine wpAnyH_take (i := 5) (oi := { dst := some 11, op := Go.Op.move (Go.Operand.tmp 3), type := 49, pos := "event.go:172", after := #[{ on := 2, ground := Go.Ground.guard }], guard := some (2, true) }) (v := ?_) rfl (by kernel_rfl) (by kernel_rfl) (by kernel_rfl) (fun _ _ _ h => h) (Or.inl ⟨by rfl, ?_⟩) hHeld ?_
      rotate_left
      · intro w hSw; obtain ⟨hS0, hS1, hS2, hS3, hS4, hS5, hS6, hS7, hS8, hS9, hSa, hSb⟩ := Ev.cells hSw; go_simp; try with_reducible rfl
      rotate_left
      try simp only [Act.put, List.setIfInBounds_toArray, List.set_cons_zero, List.set_cons_succ]
      refine wpAnyH_ready (rs := [6]) (by kernel_rfl) (by simp) ?_
      refine AllReadyH.cons (o := { dst := some 12, op := Go.Op.call { callee := Go.Callee.value (Go.Operand.func 20), args := #[Go.Operand.tmp 10, Go.Operand.tmp 11], argTypes := #[31, 49] }, type := 31, pos := "event.go:172", after := #[{ on := 4, ground := Go.Ground.data }, { on := 5, ground := Go.Ground.data }, { on := 2, ground := Go.Ground.chain }, { on := 2, ground := Go.Ground.guard }], guard := some (2, true) }) rfl (fun K hK => ?_) AllReadyH.nil
      go_simp
      refine (show Calls Tryd.prog 20 #[.agg (Ev.c ⟨k, ww, o, hn, hg, nn, ng, t, a, u, y, er⟩), .int .u16 fl] _ _ from only_any ⟨k, ww, o, hn, hg, nn, ng, t, a, u, y, er⟩ fl _).mono ?_
      rintro e X9 ⟨rfl, bb⟩
      have l3 := l3.below bb l3.lt
      have b3 := b3.trans (bb.mono b3.size)
      go_wp2_with fail
      refine hK.out _ _ l3 (fun hHeld => ?_)
      clear hK K
      try simp only [Act.put, List.setIfInBounds_toArray, List.set_cons_zero, List.set_cons_succ]
      obtain ⟨v9, hv9⟩ : ∃ v9, Value.agg #[.int .i64 k, .int .i64 ww, .int .i64 o, .int .i64 hn, .int .i64 hg, .int .i64 nn, .int .i64 ng, .int .i64 t, .int .i64 a, .int .i64 u, .bool y, .int .i64 er] = v9 := ⟨_, rfl⟩
      obtain ⟨v12, hv12⟩ : ∃ v12, Value.agg (Ev.c (Ev.only ⟨k, ww, o, hn, hg, nn, ng, t, a, u, y, er⟩ fl)) = v12 := ⟨_, rfl⟩
      rw [hv9, hv12] at heq hgd
      rw [hv9, hv12]
      clear hv9 hv12
      refine wpAnyH_take (i := 7) (oi := { dst := some 13, op := Go.Op.binOp Go.BinOp.eql 31 (Go.Operand.tmp 9) (Go.Operand.tmp 12) 31, type := 4, pos := "event.go:172", after := #[{ on := 3, ground := Go.Ground.data }, { on := 6, ground := Go.Ground.data }, { on := 2, ground := Go.Ground.guard }], guard := some (2, true) }) (v := .bool true) rfl (by kernel_rfl) (by kernel_rfl) (by kernel_rfl) (fun _ _ _ h => h) (Or.inl ⟨by rfl, ?_⟩) hHeld ?_
      · intro w hSw
        go_simp
      try simp only [Act.put, List.setIfInBounds_toArray, List.set_cons_zero, List.set_cons_succ]
      refine wpAnyH_take (i := 8) (oi := { dst := some 14, op := Go.Op.pick (Go.Operand.tmp 8) (Go.Operand.tmp 13) (Go.Operand.const (Go.Value.bool false)), type := 4, pos := "event.go:172", after := #[{ on := 2, ground := Go.Ground.data }, { on := 7, ground := Go.Ground.data }], guard := none }) (v := ?_) rfl (by kernel_rfl) (by kernel_rfl) (by kernel_rfl) (fun _ _ _ h => h) (Or.inl ⟨by rfl, ?_⟩) hHeld ?_
      rotate_left
      · intro w hSw; obtain ⟨hS0, hS1, hS2, hS3, hS4, hS5, hS6, hS7, hS8, hS9, hSa, hSb⟩ := Ev.cells hSw; go_simp; try with_reducible rfl
      rotate_left
      try simp only [Act.put, List.setIfInBounds_toArray, List.set_cons_zero, List.set_cons_succ]
      refine wpAnyH_take (i := 9) (oi := { dst := some 15, op := Go.Op.move (Go.Operand.tmp 14), type := 4, pos := "event.go:172", after := #[{ on := 8, ground := Go.Ground.data }, { on := 6, ground := Go.Ground.chain }], guard := none }) (v := ?_) rfl (by kernel_rfl) (by kernel_rfl) (by kernel_rfl) (fun _ _ _ h => h) (Or.inl ⟨by rfl, ?_⟩) hHeld ?_
      rotate_left
      · intro w hSw; obtain ⟨hS0, hS1, hS2, hS3, hS4, hS5, hS6, hS7, hS8, hS9, hSa, hSb⟩ := Ev.cells hSw; go_simp; try with_reducible rfl
      rotate_left
      try simp only [Act.put, List.setIfInBounds_toArray, List.set_cons_zero, List.set_cons_succ]
      refine wpAnyH_take (i := 10) (oi := { dst := some 16, op := Go.Op.load 31 (Go.Operand.tmp 1), type := 31, pos := "event.go:172", after := #[{ on := 9, ground := Go.Ground.guard }], guard := some (9, true) }) (v := ?_) rfl (by kernel_rfl) (by kernel_rfl) (by kernel_rfl) (fun _ _ _ h => h) (Or.inl ⟨by rfl, ?_⟩) hHeld ?_
      rotate_left
      · intro w hSw; obtain ⟨hS0, hS1, hS2, hS3, hS4, hS5, hS6, hS7, hS8, hS9, hSa, hSb⟩ := Ev.cells hSw; go_simp; try with_reducible rfl
      rotate_left
      try simp only [Act.put, List.setIfInBounds_toArray, List.set_cons_zero, List.set_cons_succ]
      refine wpAnyH_ready (rs := [11]) (by kernel_rfl) (by simp) ?_
      refine AllReadyH.cons (o := { dst := some 17, op := Go.Op.call { callee := Go.Callee.value (Go.Operand.func 21), args := #[Go.Operand.tmp 16], argTypes := #[31] }, type := 4, pos := "event.go:172", after := #[{ on := 10, ground := Go.Ground.data }, { on := 9, ground := Go.Ground.chain }, { on := 9, ground := Go.Ground.guard }], guard := some (9, true) }) rfl (fun K hK => ?_) AllReadyH.nil
      go_simp
      refine (show Calls Tryd.prog 21 #[.agg (Ev.c ⟨k, ww, o, hn, hg, nn, ng, t, a, u, y, er⟩)] _ _ from bounded_any ⟨k, ww, o, hn, hg, nn, ng, t, a, u, y, er⟩ kk hkk HKX.out _ (hT.keep b3)).mono ?_
      rintro e X8 ⟨rfl, bb⟩
      have l3 := l3.below bb l3.lt
      have b3 := b3.trans (bb.mono b3.size)
      rw [HBD.out]
      go_wp2_with fail
      refine hK.out _ _ l3 (fun hHeld => ?_)
      clear hK K
      try simp only [Act.put, List.setIfInBounds_toArray, List.set_cons_zero, List.set_cons_succ]
      refine wpAnyH_take (i := 12) (oi := { dst := some 18, op := Go.Op.pick (Go.Operand.tmp 15) (Go.Operand.tmp 17) (Go.Operand.const (Go.Value.bool false)), type := 4, pos := "event.go:172", after := #[{ on := 9, ground := Go.Ground.data }, { on := 11, ground := Go.Ground.data }], guard := none }) (v := ?_) rfl (by kernel_rfl) (by kernel_rfl) (by kernel_rfl) (fun _ _ _ h => h) (Or.inl ⟨by rfl, ?_⟩) hHeld ?_
      rotate_left
      · intro w hSw; obtain ⟨hS0, hS1, hS2, hS3, hS4, hS5, hS6, hS7, hS8, hS9, hSa, hSb⟩ := Ev.cells hSw; go_simp; try with_reducible rfl
      rotate_left
      try simp only [Act.put, List.setIfInBounds_toArray, List.set_cons_zero, List.set_cons_succ]
      refine wpAnyH_take (i := 13) (oi := { dst := some 2, op := Go.Op.assign (Go.Operand.tmp 18), type := 4, pos := "event.go:172", after := #[{ on := 12, ground := Go.Ground.data }, { on := 11, ground := Go.Ground.chain }, { on := 0, ground := Go.Ground.phase }, { on := 1, ground := Go.Ground.phase }, { on := 2, ground := Go.Ground.phase }, { on := 3, ground := Go.Ground.phase }, { on := 4, ground := Go.Ground.phase }, { on := 5, ground := Go.Ground.phase }, { on := 6, ground := Go.Ground.phase }, { on := 7, ground := Go.Ground.phase }, { on := 8, ground := Go.Ground.phase }, { on := 9, ground := Go.Ground.phase }, { on := 10, ground := Go.Ground.phase }, { on := 11, ground := Go.Ground.phase }, { on := 12, ground := Go.Ground.phase }], guard := none }) (v := ?_) rfl (by kernel_rfl) (by kernel_rfl) (by kernel_rfl) (fun _ _ _ h => h) (Or.inl ⟨by rfl, ?_⟩) hHeld ?_
      rotate_left
      · intro w hSw; obtain ⟨hS0, hS1, hS2, hS3, hS4, hS5, hS6, hS7, hS8, hS9, hSa, hSb⟩ := Ev.cells hSw; go_simp; try with_reducible rfl
      rotate_left
      try simp only [Act.put, List.setIfInBounds_toArray, List.set_cons_zero, List.set_cons_succ]
      refine wpAnyH_done (by kernel_rfl) ?_ _
      go_wp2_with fail
      go_ret
      exact ⟨rfl, b3⟩

end Go.Proofs.YtiaknnhfbfoeiaaDoor
