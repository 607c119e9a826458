/- Events: which fields an event has. -/
import Derived.Test.YtiaknnhfbfoeiaaDoorE2
namespace Go.Proofs.YtiaknnhfbfoeiaaDoor
open Go.RowKit Go.ChangeShapes Go.WideShapes
set_option maxRecDepth 100000

theorem eq_ev (x y : Ev) (w : World) : (binOp .eql 31 (.agg x.c) (.agg y.c)).run Tryd.prog w = .ok (.bool (x.k == y.k && (x.w == y.w && (x.o == y.o && ((x.hn == y.hn && x.hg == y.hg) && ((x.nn == y.nn && x.ng == y.ng) && (x.t == y.t && (x.a == y.a && (x.u == y.u && (x.y == y.y && x.e == y.e)))))))))) w := by
  unfold Ev.c
  rw [run_eql_struct, show (10000 : Nat) = 9999 + 1 from rfl, run_equalIn_struct w 9999 31 _ _ (by kernel_rfl) (by kernel_rfl)]
  simp [go_sem]
  by_cases h0 : x.k = y.k
  rotate_left
  · simp [h0]
  by_cases h1 : x.w = y.w
  rotate_left
  · simp [h0, h1]
  by_cases h2 : x.o = y.o
  rotate_left
  · simp [h0, h1, h2]
  by_cases h3 : x.hn = y.hn
  rotate_left
  · simp [h0, h1, h2, h3]
  by_cases h4 : x.hg = y.hg
  rotate_left
  · simp [h0, h1, h2, h3, h4]
  by_cases h5 : x.nn = y.nn
  rotate_left
  · simp [h0, h1, h2, h3, h4, h5]
  by_cases h6 : x.ng = y.ng
  rotate_left
  · simp [h0, h1, h2, h3, h4, h5, h6]
  by_cases h7 : x.t = y.t
  rotate_left
  · simp [h0, h1, h2, h3, h4, h5, h6, h7]
  by_cases h8 : x.a = y.a
  rotate_left
  · simp [h0, h1, h2, h3, h4, h5, h6, h7, h8]
  by_cases h9 : x.u = y.u
  rotate_left
  · simp [h0, h1, h2, h3, h4, h5, h6, h7, h8, h9]
  by_cases h10 : x.y = y.y
  rotate_left
  · simp [h0, h1, h2, h3, h4, h5, h6, h7, h8, h9, h10]
  by_cases h11 : x.e = y.e
  rotate_left
  · simp [h0, h1, h2, h3, h4, h5, h6, h7, h8, h9, h10, h11]
  simp [h0, h1, h2, h3, h4, h5, h6, h7, h8, h9, h10, h11]

/-- the fields that an event has by its kind and its operation; and by its error. -/
def Ev.fl0 (x : Ev) : Int := if x.k < 0 ∨ 5 < x.k ∨ x.o < 0 ∨ 7 < x.o then 0 else tF x.k.toNat x.o.toNat
def Ev.fl (x : Ev) : Int := if fb x.fl0 256 = true ∧ x.e ≠ 0 then bits .andNot .u16 x.fl0 24 else x.fl0

set_option maxHeartbeats 4000000 in
theorem fields_any (x : Ev) (w : World) (hT : TabE w) : Calls Tryd.prog 19 #[.agg x.c] w fun e w' => e = .returned (.int .u16 x.fl) ∧ Below w.heap.size w w' := by
  obtain ⟨k, ww, o, hn, hg, nn, ng, t, a, u, y, er⟩ := x
  show Calls Tryd.prog 19 #[.agg #[.int .i64 k, .int .i64 ww, .int .i64 o, .int .i64 hn, .int .i64 hg, .int .i64 nn, .int .i64 ng, .int .i64 t, .int .i64 a, .int .i64 u, .bool y, .int .i64 er]] w _
  have bx : ∀ ob : Obj, Below w.heap.size w (w.alloc ob) := fun ob => (Below.refl _ _).alloc (Nat.le_refl _) _
  by_cases hr : k < 0 ∨ 5 < k ∨ o < 0 ∨ 7 < o
  · have e : Ev.fl ⟨k, ww, o, hn, hg, nn, ng, t, a, u, y, er⟩ = 0 := by
      unfold Ev.fl Ev.fl0
      simp only [if_pos hr]
      rw [if_neg]
      rintro ⟨h, _⟩
      revert h
      decide
    rw [e]
    rcases (by omega : k < 0 ∨ (0 ≤ k ∧ 5 < k) ∨ (0 ≤ k ∧ k ≤ 5 ∧ o < 0) ∨ (0 ≤ k ∧ k ≤ 5 ∧ 0 ≤ o ∧ 7 < o)) with h | ⟨h, h2⟩ | ⟨h, h2, h3⟩ | ⟨h, h2, h3, h4⟩
    all_goals
      clear hr e
      go_enter Tryd.func19, Tryd.ntmps19
      go_wp2_with fail
      go_ret
      exact ⟨rfl, bx _⟩
  · obtain ⟨k, rfl⟩ := Int.eq_ofNat_of_zero_le (by omega : 0 ≤ k)
    obtain ⟨o, rfl⟩ := Int.eq_ofNat_of_zero_le (by omega : 0 ≤ o)
    have hk : k < 6 := by omega
    have ho : o < 8 := by omega
    have e0 : Ev.fl0 ⟨(k : Nat), ww, (o : Nat), hn, hg, nn, ng, t, a, u, y, er⟩ = tF k o := by
      unfold Ev.fl0
      rw [if_neg hr]
      simp
    unfold Ev.fl fb
    rw [e0]
    clear e0
    obtain ⟨W1, hW1⟩ : ∃ W1, w.alloc (.cells #[.int .i64 (k : Nat), .int .i64 ww, .int .i64 (o : Nat), .int .i64 hn, .int .i64 hg, .int .i64 nn, .int .i64 ng, .int .i64 t, .int .i64 a, .int .i64 u, .bool y, .int .i64 er] 31) = W1 := ⟨_, rfl⟩
    have l1 : Lies W1 w.heap.size 31 (Ev.c ⟨(k : Nat), ww, (o : Nat), hn, hg, nn, ng, t, a, u, y, er⟩) := by rw [← hW1]; exact Lies.new _ _ _
    have b1 : Below w.heap.size w W1 := by rw [← hW1]; exact bx _
    have f0 : W1.cell? ⟨w.heap.size, 0, none⟩ = some (.int .i64 (k : Nat)) := l1.cell 0
    have f2 : W1.cell? ⟨w.heap.size, 2, none⟩ = some (.int .i64 (o : Nat)) := l1.cell 2
    have T0 : Turns [] W1 W1.drew := (Turns.refl [] W1).drew
    have bW : Below w.heap.size w W1.drew := b1.trans (T0.below (by simp) b1.size)
    have cT := (hT.keep bW).fl k o hk ho
    have hk' : (k : Int) < 6 := by omega
    have ho' : (o : Int) < 8 := by omega
    generalize tF k o = z at *
    obtain ⟨q, hq⟩ : ∃ q, bits .and .u16 z 256 = q := ⟨_, rfl⟩
    rw [hq]
    clear bx hT b1
    by_cases hq0 : q = 0
    · subst hq0
      rw [if_neg (by simp)]
      go_enter Tryd.func19, Tryd.ntmps19
      go_upto_region 3 with (fail)
      try rw [hW1]
      refine wp_region_held_drew (S := fun X => Lies X w.heap.size 31 (Ev.c ⟨(k : Nat), ww, (o : Nat), hn, hg, nn, ng, t, a, u, y, er⟩) ∧ X.cell? ⟨gFields, k * 8 + o, none⟩ = some (.int .u16 z)) (by kernel_rfl) ⟨l1.turn T0 (by simp), cT⟩ (fun hHeld => ?_)
      refine wpAnyH_take (i := 0) (oi := { dst := some 22, op := Go.Op.fieldAddr 31 (Go.Operand.tmp 1) 0, type := 0, pos := "event.go:125", after := #[], guard := none }) (v := ?_) rfl (by kernel_rfl) (by kernel_rfl) (by kernel_rfl) (fun _ _ _ h => h) (Or.inl ⟨by rfl, ?_⟩) hHeld ?_
      rotate_left
      · intro w hSw; obtain ⟨hSw, hT9⟩ := hSw; obtain ⟨hS0, hS1, hS2, hS3, hS4, hS5, hS6, hS7, hS8, hS9, hSa, hSb⟩ := Ev.cells hSw; go_simp; try with_reducible rfl
      rotate_left
      try simp only [Act.put, List.setIfInBounds_toArray, List.set_cons_zero, List.set_cons_succ]
      refine wpAnyH_take (i := 1) (oi := { dst := some 23, op := Go.Op.load 3 (Go.Operand.tmp 22), type := 3, pos := "event.go:125", after := #[{ on := 0, ground := Go.Ground.data }], guard := none }) (v := ?_) rfl (by kernel_rfl) (by kernel_rfl) (by kernel_rfl) (fun _ _ _ h => h) (Or.inl ⟨by rfl, ?_⟩) hHeld ?_
      rotate_left
      · intro w hSw; obtain ⟨hSw, hT9⟩ := hSw; obtain ⟨hS0, hS1, hS2, hS3, hS4, hS5, hS6, hS7, hS8, hS9, hSa, hSb⟩ := Ev.cells hSw; go_simp; try with_reducible rfl
      rotate_left
      try simp only [Act.put, List.setIfInBounds_toArray, List.set_cons_zero, List.set_cons_succ]
      refine wpAnyH_take (i := 2) (oi := { dst := some 24, op := Go.Op.fieldAddr 31 (Go.Operand.tmp 1) 2, type := 0, pos := "event.go:125", after := #[], guard := none }) (v := ?_) rfl (by kernel_rfl) (by kernel_rfl) (by kernel_rfl) (fun _ _ _ h => h) (Or.inl ⟨by rfl, ?_⟩) hHeld ?_
      rotate_left
      · intro w hSw; obtain ⟨hSw, hT9⟩ := hSw; obtain ⟨hS0, hS1, hS2, hS3, hS4, hS5, hS6, hS7, hS8, hS9, hSa, hSb⟩ := Ev.cells hSw; go_simp; try with_reducible rfl
      rotate_left
      try simp only [Act.put, List.setIfInBounds_toArray, List.set_cons_zero, List.set_cons_succ]
      refine wpAnyH_take (i := 3) (oi := { dst := some 25, op := Go.Op.load 3 (Go.Operand.tmp 24), type := 3, pos := "event.go:125", after := #[{ on := 2, ground := Go.Ground.data }], guard := none }) (v := ?_) rfl (by kernel_rfl) (by kernel_rfl) (by kernel_rfl) (fun _ _ _ h => h) (Or.inl ⟨by rfl, ?_⟩) hHeld ?_
      rotate_left
      · intro w hSw; obtain ⟨hSw, hT9⟩ := hSw; obtain ⟨hS0, hS1, hS2, hS3, hS4, hS5, hS6, hS7, hS8, hS9, hSa, hSb⟩ := Ev.cells hSw; go_simp; try with_reducible rfl
      rotate_left
      try simp only [Act.put, List.setIfInBounds_toArray, List.set_cons_zero, List.set_cons_succ]
      refine wpAnyH_take (i := 4) (oi := { dst := some 26, op := Go.Op.indexAddr 66 (Go.Operand.global 2) (Go.Operand.tmp 23), type := 0, pos := "event.go:125", after := #[{ on := 1, ground := Go.Ground.data }], guard := none }) (v := ?_) rfl (by kernel_rfl) (by kernel_rfl) (by kernel_rfl) (fun _ _ _ h => h) (Or.inl ⟨by rfl, ?_⟩) hHeld ?_
      rotate_left
      · intro w hSw; obtain ⟨hSw, hT9⟩ := hSw; obtain ⟨hS0, hS1, hS2, hS3, hS4, hS5, hS6, hS7, hS8, hS9, hSa, hSb⟩ := Ev.cells hSw; go_simp; try with_reducible rfl
      rotate_left
      try simp only [Act.put, List.setIfInBounds_toArray, List.set_cons_zero, List.set_cons_succ]
      refine wpAnyH_take (i := 5) (oi := { dst := some 27, op := Go.Op.indexAddr 65 (Go.Operand.tmp 26) (Go.Operand.tmp 25), type := 0, pos := "event.go:125", after := #[{ on := 4, ground := Go.Ground.data }, { on := 3, ground := Go.Ground.data }], guard := none }) (v := ?_) rfl (by kernel_rfl) (by kernel_rfl) (by kernel_rfl) (fun _ _ _ h => h) (Or.inl ⟨by rfl, ?_⟩) hHeld ?_
      rotate_left
      · intro w hSw; obtain ⟨hSw, hT9⟩ := hSw; obtain ⟨hS0, hS1, hS2, hS3, hS4, hS5, hS6, hS7, hS8, hS9, hSa, hSb⟩ := Ev.cells hSw; go_simp; try with_reducible rfl
      rotate_left
      try simp only [Act.put, List.setIfInBounds_toArray, List.set_cons_zero, List.set_cons_succ]
      refine wpAnyH_take (i := 6) (oi := { dst := some 28, op := Go.Op.load 49 (Go.Operand.tmp 27), type := 49, pos := "event.go:125", after := #[{ on := 5, ground := Go.Ground.data }], guard := none }) (v := ?_) rfl (by kernel_rfl) (by kernel_rfl) (by kernel_rfl) (fun _ _ _ h => h) (Or.inl ⟨by rfl, ?_⟩) hHeld ?_
      rotate_left
      · intro w hSw; obtain ⟨hSw, hT9⟩ := hSw; obtain ⟨hS0, hS1, hS2, hS3, hS4, hS5, hS6, hS7, hS8, hS9, hSa, hSb⟩ := Ev.cells hSw; go_simp; try with_reducible rfl
      rotate_left
      try simp only [Act.put, List.setIfInBounds_toArray, List.set_cons_zero, List.set_cons_succ]
      refine wpAnyH_take (i := 7) (oi := { dst := some 3, op := Go.Op.assign (Go.Operand.tmp 28), type := 49, pos := "event.go:125", after := #[{ on := 6, ground := Go.Ground.data }, { on := 0, ground := Go.Ground.phase }, { on := 1, ground := Go.Ground.phase }, { on := 2, ground := Go.Ground.phase }, { on := 3, ground := Go.Ground.phase }, { on := 4, ground := Go.Ground.phase }, { on := 5, ground := Go.Ground.phase }, { on := 6, ground := Go.Ground.phase }], guard := none }) (v := ?_) rfl (by kernel_rfl) (by kernel_rfl) (by kernel_rfl) (fun _ _ _ h => h) (Or.inl ⟨by rfl, ?_⟩) hHeld ?_
      rotate_left
      · intro w hSw; obtain ⟨hSw, hT9⟩ := hSw; obtain ⟨hS0, hS1, hS2, hS3, hS4, hS5, hS6, hS7, hS8, hS9, hSa, hSb⟩ := Ev.cells hSw; go_simp; try with_reducible rfl
      rotate_left
      try simp only [Act.put, List.setIfInBounds_toArray, List.set_cons_zero, List.set_cons_succ]
      refine wpAnyH_done (by kernel_rfl) ?_ _
      have f11 : W1.drew.cell? ⟨w.heap.size, 11, none⟩ = some (.int .i64 er) := (l1.turn T0 (by simp)).cell 11
      go_wp2_with fail
      go_ret
      exact ⟨rfl, bW⟩
    · have hb : (q == 0) = false := by simpa using hq0
      rw [hb]
      by_cases he : er = 0
      · subst he
        rw [if_neg (by simp)]
        go_enter Tryd.func19, Tryd.ntmps19
        go_upto_region 3 with (fail)
        try rw [hW1]
        refine wp_region_held_drew (S := fun X => Lies X w.heap.size 31 (Ev.c ⟨(k : Nat), ww, (o : Nat), hn, hg, nn, ng, t, a, u, y, 0⟩) ∧ X.cell? ⟨gFields, k * 8 + o, none⟩ = some (.int .u16 z)) (by kernel_rfl) ⟨l1.turn T0 (by simp), cT⟩ (fun hHeld => ?_)
        refine wpAnyH_take (i := 0) (oi := { dst := some 22, op := Go.Op.fieldAddr 31 (Go.Operand.tmp 1) 0, type := 0, pos := "event.go:125", after := #[], guard := none }) (v := ?_) rfl (by kernel_rfl) (by kernel_rfl) (by kernel_rfl) (fun _ _ _ h => h) (Or.inl ⟨by rfl, ?_⟩) hHeld ?_
        rotate_left
        · intro w hSw; obtain ⟨hSw, hT9⟩ := hSw; obtain ⟨hS0, hS1, hS2, hS3, hS4, hS5, hS6, hS7, hS8, hS9, hSa, hSb⟩ := Ev.cells hSw; go_simp; try with_reducible rfl
        rotate_left
        try simp only [Act.put, List.setIfInBounds_toArray, List.set_cons_zero, List.set_cons_succ]
        refine wpAnyH_take (i := 1) (oi := { dst := some 23, op := Go.Op.load 3 (Go.Operand.tmp 22), type := 3, pos := "event.go:125", after := #[{ on := 0, ground := Go.Ground.data }], guard := none }) (v := ?_) rfl (by kernel_rfl) (by kernel_rfl) (by kernel_rfl) (fun _ _ _ h => h) (Or.inl ⟨by rfl, ?_⟩) hHeld ?_
        rotate_left
        · intro w hSw; obtain ⟨hSw, hT9⟩ := hSw; obtain ⟨hS0, hS1, hS2, hS3, hS4, hS5, hS6, hS7, hS8, hS9, hSa, hSb⟩ := Ev.cells hSw; go_simp; try with_reducible rfl
        rotate_left
        try simp only [Act.put, List.setIfInBounds_toArray, List.set_cons_zero, List.set_cons_succ]
        refine wpAnyH_take (i := 2) (oi := { dst := some 24, op := Go.Op.fieldAddr 31 (Go.Operand.tmp 1) 2, type := 0, pos := "event.go:125", after := #[], guard := none }) (v := ?_) rfl (by kernel_rfl) (by kernel_rfl) (by kernel_rfl) (fun _ _ _ h => h) (Or.inl ⟨by rfl, ?_⟩) hHeld ?_
        rotate_left
        · intro w hSw; obtain ⟨hSw, hT9⟩ := hSw; obtain ⟨hS0, hS1, hS2, hS3, hS4, hS5, hS6, hS7, hS8, hS9, hSa, hSb⟩ := Ev.cells hSw; go_simp; try with_reducible rfl
        rotate_left
        try simp only [Act.put, List.setIfInBounds_toArray, List.set_cons_zero, List.set_cons_succ]
        refine wpAnyH_take (i := 3) (oi := { dst := some 25, op := Go.Op.load 3 (Go.Operand.tmp 24), type := 3, pos := "event.go:125", after := #[{ on := 2, ground := Go.Ground.data }], guard := none }) (v := ?_) rfl (by kernel_rfl) (by kernel_rfl) (by kernel_rfl) (fun _ _ _ h => h) (Or.inl ⟨by rfl, ?_⟩) hHeld ?_
        rotate_left
        · intro w hSw; obtain ⟨hSw, hT9⟩ := hSw; obtain ⟨hS0, hS1, hS2, hS3, hS4, hS5, hS6, hS7, hS8, hS9, hSa, hSb⟩ := Ev.cells hSw; go_simp; try with_reducible rfl
        rotate_left
        try simp only [Act.put, List.setIfInBounds_toArray, List.set_cons_zero, List.set_cons_succ]
        refine wpAnyH_take (i := 4) (oi := { dst := some 26, op := Go.Op.indexAddr 66 (Go.Operand.global 2) (Go.Operand.tmp 23), type := 0, pos := "event.go:125", after := #[{ on := 1, ground := Go.Ground.data }], guard := none }) (v := ?_) rfl (by kernel_rfl) (by kernel_rfl) (by kernel_rfl) (fun _ _ _ h => h) (Or.inl ⟨by rfl, ?_⟩) hHeld ?_
        rotate_left
        · intro w hSw; obtain ⟨hSw, hT9⟩ := hSw; obtain ⟨hS0, hS1, hS2, hS3, hS4, hS5, hS6, hS7, hS8, hS9, hSa, hSb⟩ := Ev.cells hSw; go_simp; try with_reducible rfl
        rotate_left
        try simp only [Act.put, List.setIfInBounds_toArray, List.set_cons_zero, List.set_cons_succ]
        refine wpAnyH_take (i := 5) (oi := { dst := some 27, op := Go.Op.indexAddr 65 (Go.Operand.tmp 26) (Go.Operand.tmp 25), type := 0, pos := "event.go:125", after := #[{ on := 4, ground := Go.Ground.data }, { on := 3, ground := Go.Ground.data }], guard := none }) (v := ?_) rfl (by kernel_rfl) (by kernel_rfl) (by kernel_rfl) (fun _ _ _ h => h) (Or.inl ⟨by rfl, ?_⟩) hHeld ?_
        rotate_left
        · intro w hSw; obtain ⟨hSw, hT9⟩ := hSw; obtain ⟨hS0, hS1, hS2, hS3, hS4, hS5, hS6, hS7, hS8, hS9, hSa, hSb⟩ := Ev.cells hSw; go_simp; try with_reducible rfl
        rotate_left
        try simp only [Act.put, List.setIfInBounds_toArray, List.set_cons_zero, List.set_cons_succ]
        refine wpAnyH_take (i := 6) (oi := { dst := some 28, op := Go.Op.load 49 (Go.Operand.tmp 27), type := 49, pos := "event.go:125", after := #[{ on := 5, ground := Go.Ground.data }], guard := none }) (v := ?_) rfl (by kernel_rfl) (by kernel_rfl) (by kernel_rfl) (fun _ _ _ h => h) (Or.inl ⟨by rfl, ?_⟩) hHeld ?_
        rotate_left
        · intro w hSw; obtain ⟨hSw, hT9⟩ := hSw; obtain ⟨hS0, hS1, hS2, hS3, hS4, hS5, hS6, hS7, hS8, hS9, hSa, hSb⟩ := Ev.cells hSw; go_simp; try with_reducible rfl
        rotate_left
        try simp only [Act.put, List.setIfInBounds_toArray, List.set_cons_zero, List.set_cons_succ]
        refine wpAnyH_take (i := 7) (oi := { dst := some 3, op := Go.Op.assign (Go.Operand.tmp 28), type := 49, pos := "event.go:125", after := #[{ on := 6, ground := Go.Ground.data }, { on := 0, ground := Go.Ground.phase }, { on := 1, ground := Go.Ground.phase }, { on := 2, ground := Go.Ground.phase }, { on := 3, ground := Go.Ground.phase }, { on := 4, ground := Go.Ground.phase }, { on := 5, ground := Go.Ground.phase }, { on := 6, ground := Go.Ground.phase }], guard := none }) (v := ?_) rfl (by kernel_rfl) (by kernel_rfl) (by kernel_rfl) (fun _ _ _ h => h) (Or.inl ⟨by rfl, ?_⟩) hHeld ?_
        rotate_left
        · intro w hSw; obtain ⟨hSw, hT9⟩ := hSw; obtain ⟨hS0, hS1, hS2, hS3, hS4, hS5, hS6, hS7, hS8, hS9, hSa, hSb⟩ := Ev.cells hSw; go_simp; try with_reducible rfl
        rotate_left
        try simp only [Act.put, List.setIfInBounds_toArray, List.set_cons_zero, List.set_cons_succ]
        refine wpAnyH_done (by kernel_rfl) ?_ _
        have f11 : W1.drew.cell? ⟨w.heap.size, 11, none⟩ = some (.int .i64 0) := (l1.turn T0 (by simp)).cell 11
        go_wp2_with fail
        go_ret
        exact ⟨rfl, bW⟩
      · have hen : (er != 0) = true := by simpa using he
        have hqn : (q != 0) = true := by simpa using hq0
        rw [if_pos ⟨by simp, he⟩]
        obtain ⟨z2, hz2⟩ : ∃ z2, bits .andNot .u16 z 24 = z2 := ⟨_, rfl⟩
        rw [hz2]
        go_enter Tryd.func19, Tryd.ntmps19
        go_upto_region 3 with (fail)
        try rw [hW1]
        refine wp_region_held_drew (S := fun X => Lies X w.heap.size 31 (Ev.c ⟨(k : Nat), ww, (o : Nat), hn, hg, nn, ng, t, a, u, y, er⟩) ∧ X.cell? ⟨gFields, k * 8 + o, none⟩ = some (.int .u16 z)) (by kernel_rfl) ⟨l1.turn T0 (by simp), cT⟩ (fun hHeld => ?_)
        refine wpAnyH_take (i := 0) (oi := { dst := some 22, op := Go.Op.fieldAddr 31 (Go.Operand.tmp 1) 0, type := 0, pos := "event.go:125", after := #[], guard := none }) (v := ?_) rfl (by kernel_rfl) (by kernel_rfl) (by kernel_rfl) (fun _ _ _ h => h) (Or.inl ⟨by rfl, ?_⟩) hHeld ?_
        rotate_left
        · intro w hSw; obtain ⟨hSw, hT9⟩ := hSw; obtain ⟨hS0, hS1, hS2, hS3, hS4, hS5, hS6, hS7, hS8, hS9, hSa, hSb⟩ := Ev.cells hSw; go_simp; try with_reducible rfl
        rotate_left
        try simp only [Act.put, List.setIfInBounds_toArray, List.set_cons_zero, List.set_cons_succ]
        refine wpAnyH_take (i := 1) (oi := { dst := some 23, op := Go.Op.load 3 (Go.Operand.tmp 22), type := 3, pos := "event.go:125", after := #[{ on := 0, ground := Go.Ground.data }], guard := none }) (v := ?_) rfl (by kernel_rfl) (by kernel_rfl) (by kernel_rfl) (fun _ _ _ h => h) (Or.inl ⟨by rfl, ?_⟩) hHeld ?_
        rotate_left
        · intro w hSw; obtain ⟨hSw, hT9⟩ := hSw; obtain ⟨hS0, hS1, hS2, hS3, hS4, hS5, hS6, hS7, hS8, hS9, hSa, hSb⟩ := Ev.cells hSw; go_simp; try with_reducible rfl
        rotate_left
        try simp only [Act.put, List.setIfInBounds_toArray, List.set_cons_zero, List.set_cons_succ]
        refine wpAnyH_take (i := 2) (oi := { dst := some 24, op := Go.Op.fieldAddr 31 (Go.Operand.tmp 1) 2, type := 0, pos := "event.go:125", after := #[], guard := none }) (v := ?_) rfl (by kernel_rfl) (by kernel_rfl) (by kernel_rfl) (fun _ _ _ h => h) (Or.inl ⟨by rfl, ?_⟩) hHeld ?_
        rotate_left
        · intro w hSw; obtain ⟨hSw, hT9⟩ := hSw; obtain ⟨hS0, hS1, hS2, hS3, hS4, hS5, hS6, hS7, hS8, hS9, hSa, hSb⟩ := Ev.cells hSw; go_simp; try with_reducible rfl
        rotate_left
        try simp only [Act.put, List.setIfInBounds_toArray, List.set_cons_zero, List.set_cons_succ]
        refine wpAnyH_take (i := 3) (oi := { dst := some 25, op := Go.Op.load 3 (Go.Operand.tmp 24), type := 3, pos := "event.go:125", after := #[{ on := 2, ground := Go.Ground.data }], guard := none }) (v := ?_) rfl (by kernel_rfl) (by kernel_rfl) (by kernel_rfl) (fun _ _ _ h => h) (Or.inl ⟨by rfl, ?_⟩) hHeld ?_
        rotate_left
        · intro w hSw; obtain ⟨hSw, hT9⟩ := hSw; obtain ⟨hS0, hS1, hS2, hS3, hS4, hS5, hS6, hS7, hS8, hS9, hSa, hSb⟩ := Ev.cells hSw; go_simp; try with_reducible rfl
        rotate_left
        try simp only [Act.put, List.setIfInBounds_toArray, List.set_cons_zero, List.set_cons_succ]
        refine wpAnyH_take (i := 4) (oi := { dst := some 26, op := Go.Op.indexAddr 66 (Go.Operand.global 2) (Go.Operand.tmp 23), type := 0, pos := "event.go:125", after := #[{ on := 1, ground := Go.Ground.data }], guard := none }) (v := ?_) rfl (by kernel_rfl) (by kernel_rfl) (by kernel_rfl) (fun _ _ _ h => h) (Or.inl ⟨by rfl, ?_⟩) hHeld ?_
        rotate_left
        · intro w hSw; obtain ⟨hSw, hT9⟩ := hSw; obtain ⟨hS0, hS1, hS2, hS3, hS4, hS5, hS6, hS7, hS8, hS9, hSa, hSb⟩ := Ev.cells hSw; go_simp; try with_reducible rfl
        rotate_left
        try simp only [Act.put, List.setIfInBounds_toArray, List.set_cons_zero, List.set_cons_succ]
        refine wpAnyH_take (i := 5) (oi := { dst := some 27, op := Go.Op.indexAddr 65 (Go.Operand.tmp 26) (Go.Operand.tmp 25), type := 0, pos := "event.go:125", after := #[{ on := 4, ground := Go.Ground.data }, { on := 3, ground := Go.Ground.data }], guard := none }) (v := ?_) rfl (by kernel_rfl) (by kernel_rfl) (by kernel_rfl) (fun _ _ _ h => h) (Or.inl ⟨by rfl, ?_⟩) hHeld ?_
        rotate_left
        · intro w hSw; obtain ⟨hSw, hT9⟩ := hSw; obtain ⟨hS0, hS1, hS2, hS3, hS4, hS5, hS6, hS7, hS8, hS9, hSa, hSb⟩ := Ev.cells hSw; go_simp; try with_reducible rfl
        rotate_left
        try simp only [Act.put, List.setIfInBounds_toArray, List.set_cons_zero, List.set_cons_succ]
        refine wpAnyH_take (i := 6) (oi := { dst := some 28, op := Go.Op.load 49 (Go.Operand.tmp 27), type := 49, pos := "event.go:125", after := #[{ on := 5, ground := Go.Ground.data }], guard := none }) (v := ?_) rfl (by kernel_rfl) (by kernel_rfl) (by kernel_rfl) (fun _ _ _ h => h) (Or.inl ⟨by rfl, ?_⟩) hHeld ?_
        rotate_left
        · intro w hSw; obtain ⟨hSw, hT9⟩ := hSw; obtain ⟨hS0, hS1, hS2, hS3, hS4, hS5, hS6, hS7, hS8, hS9, hSa, hSb⟩ := Ev.cells hSw; go_simp; try with_reducible rfl
        rotate_left
        try simp only [Act.put, List.setIfInBounds_toArray, List.set_cons_zero, List.set_cons_succ]
        refine wpAnyH_take (i := 7) (oi := { dst := some 3, op := Go.Op.assign (Go.Operand.tmp 28), type := 49, pos := "event.go:125", after := #[{ on := 6, ground := Go.Ground.data }, { on := 0, ground := Go.Ground.phase }, { on := 1, ground := Go.Ground.phase }, { on := 2, ground := Go.Ground.phase }, { on := 3, ground := Go.Ground.phase }, { on := 4, ground := Go.Ground.phase }, { on := 5, ground := Go.Ground.phase }, { on := 6, ground := Go.Ground.phase }], guard := none }) (v := ?_) rfl (by kernel_rfl) (by kernel_rfl) (by kernel_rfl) (fun _ _ _ h => h) (Or.inl ⟨by rfl, ?_⟩) hHeld ?_
        rotate_left
        · intro w hSw; obtain ⟨hSw, hT9⟩ := hSw; obtain ⟨hS0, hS1, hS2, hS3, hS4, hS5, hS6, hS7, hS8, hS9, hSa, hSb⟩ := Ev.cells hSw; go_simp; try with_reducible rfl
        rotate_left
        try simp only [Act.put, List.setIfInBounds_toArray, List.set_cons_zero, List.set_cons_succ]
        refine wpAnyH_done (by kernel_rfl) ?_ _
        have f11 : W1.drew.cell? ⟨w.heap.size, 11, none⟩ = some (.int .i64 er) := (l1.turn T0 (by simp)).cell 11
        go_wp2_with fail
        go_ret
        exact ⟨rfl, bW⟩

end Go.Proofs.YtiaknnhfbfoeiaaDoor
