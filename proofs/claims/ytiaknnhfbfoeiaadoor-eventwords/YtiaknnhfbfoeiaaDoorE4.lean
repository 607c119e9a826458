/- Events: is no number less than it may be? -/
import Derived.Test.YtiaknnhfbfoeiaaDoorE3
import Derived.Lib.Hide
namespace Go.Proofs.YtiaknnhfbfoeiaaDoor
open Go.RowKit Go.ChangeShapes Go.WideShapes
set_option maxRecDepth 100000

/-- the fields that are asked about, by an event's kind. -/
def tN (k : Nat) : Int := [65535, 65535, 65419, 65531, 65535, 65535].getD k 0
def BD (lt : Int) (y : Ev) : Bool := decide (lt ≤ y.t) && (decide (0 ≤ y.w) && decide (0 ≤ y.hn) && decide (0 ≤ y.hg) && decide (0 ≤ y.nn) && decide (0 ≤ y.ng) && decide (0 ≤ y.a) && decide (0 ≤ y.u) && decide (0 ≤ y.e))
def Ev.bdK (x : Ev) (k : Nat) : Bool := BD (if k = 5 then -1 else 0) (x.only (tN k))
def mn (a b : Int) : Int := if b < a then b else a
theorem mn_ge {a b : Int} : decide (0 ≤ mn a b) = (decide (0 ≤ a) && decide (0 ≤ b)) := by
  unfold mn
  rw [Bool.eq_iff_iff]
  simp only [Bool.and_eq_true, decide_eq_true_eq]
  split <;> omega
theorem min8 (a b c d e f g h : Int) (ts : Array TypeId) (t : TypeId) (W : World) : (Builtin.min_ ts t #[.int .i64 a, .int .i64 b, .int .i64 c, .int .i64 d, .int .i64 e, .int .i64 f, .int .i64 g, .int .i64 h]).run Tryd.prog W = .ok (.int .i64 (mn (mn (mn (mn (mn (mn (mn a b) c) d) e) f) g) h)) W := by
  have h2 : ∀ a b W, (Builtin.min2 (.int .i64 a) (.int .i64 b)).run Tryd.prog W = .ok (.int .i64 (mn a b)) W := fun a b W => by simp [Builtin.min2, mn]
  show (List.foldlM Builtin.min2 (.int .i64 a) [.int .i64 b, .int .i64 c, .int .i64 d, .int .i64 e, .int .i64 f, .int .i64 g, .int .i64 h]).run Tryd.prog W = _
  simp only [List.foldlM_cons, List.foldlM_nil, Sem.run_bind, h2, Result.andThen_ok, Sem.run_pure]

set_option maxHeartbeats 4000000 in
theorem bounded_any (x : Ev) (k : Nat) (hk : k < 6) (hx : x.k = (k : Nat)) (w : World) (hT : TabE w) : Calls Tryd.prog 21 #[.agg x.c] w fun e w' => e = .returned (.bool (x.bdK k)) ∧ Below w.heap.size w w' := by
  obtain ⟨k', ww, o, hn, hg, nn, ng, t, a, u, y, er⟩ := x
  have hx : k' = (k : Nat) := hx
  subst hx
  unfold Ev.bdK
  show Calls Tryd.prog 21 #[.agg #[.int .i64 (k : Nat), .int .i64 ww, .int .i64 o, .int .i64 hn, .int .i64 hg, .int .i64 nn, .int .i64 ng, .int .i64 t, .int .i64 a, .int .i64 u, .bool y, .int .i64 er]] w _
  obtain ⟨W1, hW1⟩ : ∃ W1, w.alloc (.cells #[.int .i64 (k : Nat), .int .i64 ww, .int .i64 o, .int .i64 hn, .int .i64 hg, .int .i64 nn, .int .i64 ng, .int .i64 t, .int .i64 a, .int .i64 u, .bool y, .int .i64 er] 31) = W1 := ⟨_, rfl⟩
  have l1 : Lies W1 w.heap.size 31 (Ev.c ⟨(k : Nat), ww, o, hn, hg, nn, ng, t, a, u, y, er⟩) := by rw [← hW1]; exact Lies.new _ _ _
  have b1 : Below w.heap.size w W1 := by rw [← hW1]; exact (Below.refl _ _).alloc (Nat.le_refl _) _
  have f0 : W1.cell? ⟨w.heap.size, 0, none⟩ = some (.int .i64 (k : Nat)) := l1.cell 0
  have T0 : Turns [] W1 W1.drew := (Turns.refl [] W1).drew
  have b9 : Below w.heap.size w W1.drew := b1.trans (T0.below (by simp) b1.size)
  have cT := (hT.keep b9).an k hk
  have hlt8 : gAny < W1.drew.heap.size := Nat.lt_of_lt_of_le (show (3 : Nat) < 8 by decide) (hT.keep b9).lt
  have h0s : w.heap.size < W1.drew.heap.size := Nat.lt_of_lt_of_le l1.lt T0.size
  have hk' : (k : Int) < 6 := by omega
  obtain ⟨z, hz⟩ : ∃ z, tA k = z := ⟨_, rfl⟩
  obtain ⟨nz, hnz⟩ : ∃ nz, tN k = nz := ⟨_, rfl⟩
  rw [hz] at cT
  rw [hnz]
  obtain ⟨lt, hlt⟩ : ∃ lt : Int, (if k = 5 then -1 else 0) = lt := ⟨_, rfl⟩
  rw [hlt]
  have hxor : bits BinOp.xor IntKind.u16 (if IntKind.u16.signed = true then -1 else IntKind.u16.max) z = nz := by
    rw [← hz, ← hnz]
    match k, hk with
    | 0, _ | 1, _ | 2, _ | 3, _ | 4, _ | 5, _ => rfl
  clear hT b1
  have walk : ∀ bb : Bool, ((k : Int) == 5) = bb → lt = (if bb then -1 else 0) → Calls Tryd.prog 21 #[.agg #[.int .i64 (k : Nat), .int .i64 ww, .int .i64 o, .int .i64 hn, .int .i64 hg, .int .i64 nn, .int .i64 ng, .int .i64 t, .int .i64 a, .int .i64 u, .bool y, .int .i64 er]] w fun e w' => e = .returned (.bool (BD lt (Ev.only ⟨(k : Nat), ww, o, hn, hg, nn, ng, t, a, u, y, er⟩ nz))) ∧ Below w.heap.size w w' := by
    intro bb hbb hlt2
    have HL := Lib.hid hlt2
    clear hlt2 hlt
    cases bb
    all_goals
      go_enter Tryd.func21, Tryd.ntmps21
      go_upto_region 4 with (fail)
      try rw [hW1]
      go_cut [4] (fun v wc => ∃ b4, v = .pointer (some ⟨b4, 0, none⟩) ∧ Lies wc b4 31 (Ev.c (Ev.only ⟨(k : Nat), ww, o, hn, hg, nn, ng, t, a, u, y, er⟩ nz)) ∧ Below w.heap.size w wc)
      case first =>
        refine wp_region_held_drew (S := fun X => Lies X w.heap.size 31 (Ev.c ⟨(k : Nat), ww, o, hn, hg, nn, ng, t, a, u, y, er⟩) ∧ X.cell? ⟨gAny, k, none⟩ = some (.int .u16 z)) (by kernel_rfl) ⟨l1.turn T0 (by simp), cT⟩ (fun hHeld => ?_)
        refine wpAnyH_take (i := 0) (oi := { dst := some 9, op := Go.Op.load 31 (Go.Operand.tmp 1), type := 31, pos := "event.go:164", after := #[], guard := none }) (v := ?_) rfl (by kernel_rfl) (by kernel_rfl) (by kernel_rfl) (fun _ _ _ h => h) (Or.inl ⟨by rfl, ?_⟩) hHeld ?_
        rotate_left
        · intro w hSw; obtain ⟨hSw, hT9⟩ := hSw; obtain ⟨hS0, hS1, hS2, hS3, hS4, hS5, hS6, hS7, hS8, hS9, hSa, hSb⟩ := Ev.cells hSw; go_simp; try with_reducible rfl
        rotate_left
        try simp only [Act.put, List.setIfInBounds_toArray, List.set_cons_zero, List.set_cons_succ]
        refine wpAnyH_take (i := 1) (oi := { dst := some 10, op := Go.Op.fieldAddr 31 (Go.Operand.tmp 1) 0, type := 0, pos := "event.go:164", after := #[], guard := none }) (v := ?_) rfl (by kernel_rfl) (by kernel_rfl) (by kernel_rfl) (fun _ _ _ h => h) (Or.inl ⟨by rfl, ?_⟩) hHeld ?_
        rotate_left
        · intro w hSw; obtain ⟨hSw, hT9⟩ := hSw; obtain ⟨hS0, hS1, hS2, hS3, hS4, hS5, hS6, hS7, hS8, hS9, hSa, hSb⟩ := Ev.cells hSw; go_simp; try with_reducible rfl
        rotate_left
        try simp only [Act.put, List.setIfInBounds_toArray, List.set_cons_zero, List.set_cons_succ]
        refine wpAnyH_take (i := 2) (oi := { dst := some 11, op := Go.Op.load 3 (Go.Operand.tmp 10), type := 3, pos := "event.go:164", after := #[{ on := 1, ground := Go.Ground.data }], guard := none }) (v := ?_) rfl (by kernel_rfl) (by kernel_rfl) (by kernel_rfl) (fun _ _ _ h => h) (Or.inl ⟨by rfl, ?_⟩) hHeld ?_
        rotate_left
        · intro w hSw; obtain ⟨hSw, hT9⟩ := hSw; obtain ⟨hS0, hS1, hS2, hS3, hS4, hS5, hS6, hS7, hS8, hS9, hSa, hSb⟩ := Ev.cells hSw; go_simp; try with_reducible rfl
        rotate_left
        try simp only [Act.put, List.setIfInBounds_toArray, List.set_cons_zero, List.set_cons_succ]
        refine wpAnyH_take (i := 3) (oi := { dst := some 12, op := Go.Op.indexAddr 71 (Go.Operand.global 3) (Go.Operand.tmp 11), type := 0, pos := "event.go:164", after := #[{ on := 2, ground := Go.Ground.data }], guard := none }) (v := ?_) rfl (by kernel_rfl) (by kernel_rfl) (by kernel_rfl) (fun _ _ _ h => h) (Or.inl ⟨by rfl, ?_⟩) hHeld ?_
        rotate_left
        · intro w hSw; obtain ⟨hSw, hT9⟩ := hSw; obtain ⟨hS0, hS1, hS2, hS3, hS4, hS5, hS6, hS7, hS8, hS9, hSa, hSb⟩ := Ev.cells hSw; go_simp; try with_reducible rfl
        rotate_left
        try simp only [Act.put, List.setIfInBounds_toArray, List.set_cons_zero, List.set_cons_succ]
        refine wpAnyH_take (i := 4) (oi := { dst := some 13, op := Go.Op.load 49 (Go.Operand.tmp 12), type := 49, pos := "event.go:164", after := #[{ on := 3, ground := Go.Ground.data }], guard := none }) (v := ?_) rfl (by kernel_rfl) (by kernel_rfl) (by kernel_rfl) (fun _ _ _ h => h) (Or.inl ⟨by rfl, ?_⟩) hHeld ?_
        rotate_left
        · intro w hSw; obtain ⟨hSw, hT9⟩ := hSw; obtain ⟨hS0, hS1, hS2, hS3, hS4, hS5, hS6, hS7, hS8, hS9, hSa, hSb⟩ := Ev.cells hSw; go_simp; try with_reducible rfl
        rotate_left
        try simp only [Act.put, List.setIfInBounds_toArray, List.set_cons_zero, List.set_cons_succ]
        refine wpAnyH_take (i := 5) (oi := { dst := some 14, op := Go.Op.unOp Go.UnOp.xor 49 (Go.Operand.tmp 13), type := 49, pos := "event.go:164", after := #[{ on := 4, ground := Go.Ground.data }], guard := none }) (v := ?_) rfl (by kernel_rfl) (by kernel_rfl) (by kernel_rfl) (fun _ _ _ h => h) (Or.inl ⟨by rfl, ?_⟩) hHeld ?_
        rotate_left
        · intro w hSw; obtain ⟨hSw, hT9⟩ := hSw; obtain ⟨hS0, hS1, hS2, hS3, hS4, hS5, hS6, hS7, hS8, hS9, hSa, hSb⟩ := Ev.cells hSw; go_simp; try with_reducible rfl
        rotate_left
        try simp only [Act.put, List.setIfInBounds_toArray, List.set_cons_zero, List.set_cons_succ]
        try rw [hxor]
        clear T0 hW1 l1 f0 cT
        generalize W1.drew = W2 at *
        refine wpAnyH_ready (rs := [6, 7]) (by kernel_rfl) (by simp) ?_
        refine AllReadyH.cons (o := { dst := some 15, op := Go.Op.call { callee := Go.Callee.value (Go.Operand.func 20), args := #[Go.Operand.tmp 9, Go.Operand.tmp 14], argTypes := #[31, 49] }, type := 31, pos := "event.go:164", after := #[{ on := 0, ground := Go.Ground.data }, { on := 5, ground := Go.Ground.data }], guard := none }) rfl (fun K hK => ?_) (AllReadyH.cons (o := { dst := some 4, op := Go.Op.alloc 31, type := 0, pos := "event.go:164", after := #[], guard := none }) rfl (fun K hK => ?_) AllReadyH.nil)
        · go_simp
          refine (show Calls Tryd.prog 20 #[.agg (Ev.c ⟨(k : Nat), ww, o, hn, hg, nn, ng, t, a, u, y, er⟩), .int .u16 _] _ _ from only_any ⟨(k : Nat), ww, o, hn, hg, nn, ng, t, a, u, y, er⟩ _ _).mono ?_
          rintro e X9 ⟨rfl, bb⟩
          obtain ⟨l3, c3⟩ := hHeld
          have l3 := l3.below bb l3.lt
          have c3 := (bb.cell (p := ⟨gAny, k, none⟩) hlt8).trans c3
          have b9 := b9.trans (bb.mono b9.size)
          go_wp2_with fail
          refine hK.out _ _ ⟨l3, c3⟩ (fun hHeld => ?_)
          clear hK K
          try simp only [Act.put, List.setIfInBounds_toArray, List.set_cons_zero, List.set_cons_succ]
          refine wpAnyH_ready (rs := [7]) (by kernel_rfl) (by simp) ?_
          refine AllReadyH.cons (o := { dst := some 4, op := Go.Op.alloc 31, type := 0, pos := "event.go:164", after := #[], guard := none }) rfl (fun K hK => ?_) AllReadyH.nil
          go_simp
          have a4 : Turns [] X9 (X9.alloc (.cells Ev.z.c 31)) := (Turns.refl _ _).alloc _
          have l4 : Lies (X9.alloc (.cells Ev.z.c 31)) X9.heap.size 31 Ev.z.c := Lies.new _ _ _
          have l3 := l3.turn a4 (by simp)
          have c3 := (a4.cell (p := ⟨gAny, k, none⟩) (Nat.lt_of_lt_of_le hlt8 bb.size) (by simp)).trans c3
          have nb : w.heap.size ≠ X9.heap.size := by have := bb.size; have := h0s; omega
          have n3 : gAny ≠ X9.heap.size := by have := bb.size; omega
          have b9 := b9.trans (a4.below (by simp) b9.size)
          have hsz := b9.size
          show K _ (X9.alloc (.cells Ev.z.c 31))
          refine hK.out _ _ ⟨l3, c3⟩ (fun hHeld => ?_)
          clear hK K
          try simp only [Act.put, List.setIfInBounds_toArray, List.set_cons_zero, List.set_cons_succ]
          generalize hX4 : X9.alloc (.cells Ev.z.c 31) = X4 at *
          refine wpAnyH_ready (rs := [8]) (by kernel_rfl) (by simp) ?_
          refine AllReadyH.cons (o := { dst := none, op := Go.Op.store 31 (Go.Operand.tmp 4) (Go.Operand.tmp 15), type := 0, pos := "event.go:164", after := #[{ on := 7, ground := Go.Ground.data }, { on := 6, ground := Go.Ground.data }, { on := 6, ground := Go.Ground.chain }, { on := 0, ground := Go.Ground.phase }, { on := 1, ground := Go.Ground.phase }, { on := 2, ground := Go.Ground.phase }, { on := 3, ground := Go.Ground.phase }, { on := 4, ground := Go.Ground.phase }, { on := 5, ground := Go.Ground.phase }, { on := 6, ground := Go.Ground.phase }, { on := 7, ground := Go.Ground.phase }], guard := none }) rfl (fun K hK => ?_) AllReadyH.nil
          rw [if_pos (by rfl)]
          refine wp_store_mid 31 _ _ (by rfl) X9.heap.size 0 (Ev.c (Ev.only ⟨(k : Nat), ww, o, hn, hg, nn, ng, t, a, u, y, er⟩ nz)) (by rfl) (by rfl) (there_of_lies l4 (show (12 : Nat) ≤ 12 from Nat.le_refl _)) (by kernel_rfl) (Ev.one _) ?_
          obtain ⟨l5, t5, z5⟩ := Lies.sets (Ev.c (Ev.only ⟨(k : Nat), ww, o, hn, hg, nn, ng, t, a, u, y, er⟩ nz)).toList 0 _ _ l4 (by rfl)
          have b9 := b9.trans (t5.below (fun g hg => by simp at hg; have := bb.size; omega) b9.size)
          refine hK.out _ _ ⟨l3.turn t5 (by simp; exact nb), (t5.cell (p := ⟨gAny, k, none⟩) (Nat.lt_of_lt_of_le hlt8 (by have := a4.size; have := bb.size; omega)) (by simp; exact n3)).trans c3⟩ (fun hHeld => ?_)
          clear hK K
          refine wpAnyH_done (by kernel_rfl) ?_ _
          go_wp2_with fail
          go_meet
          case rel => exact ⟨_, rfl, l5, b9⟩
        · go_simp
          have a4 : Turns [] W2 (W2.alloc (.cells Ev.z.c 31)) := (Turns.refl _ _).alloc _
          have l4 : Lies (W2.alloc (.cells Ev.z.c 31)) W2.heap.size 31 Ev.z.c := Lies.new _ _ _
          obtain ⟨l3, c3⟩ := hHeld
          have l3 := l3.turn a4 (by simp)
          have c3 := (a4.cell (p := ⟨gAny, k, none⟩) hlt8 (by simp)).trans c3
          have nb : w.heap.size ≠ W2.heap.size := by omega
          have n3 : gAny ≠ W2.heap.size := by omega
          have b9 := b9.trans (a4.below (by simp) b9.size)
          show K _ (W2.alloc (.cells Ev.z.c 31))
          have hlt8 : gAny < (W2.alloc (.cells Ev.z.c 31)).heap.size := Nat.lt_of_lt_of_le hlt8 a4.size
          generalize hX4 : W2.alloc (.cells Ev.z.c 31) = X4 at *
          refine hK.out _ _ ⟨l3, c3⟩ (fun hHeld => ?_)
          clear hK K
          try simp only [Act.put, List.setIfInBounds_toArray, List.set_cons_zero, List.set_cons_succ]
          refine wpAnyH_ready (rs := [6]) (by kernel_rfl) (by simp) ?_
          refine AllReadyH.cons (o := { dst := some 15, op := Go.Op.call { callee := Go.Callee.value (Go.Operand.func 20), args := #[Go.Operand.tmp 9, Go.Operand.tmp 14], argTypes := #[31, 49] }, type := 31, pos := "event.go:164", after := #[{ on := 0, ground := Go.Ground.data }, { on := 5, ground := Go.Ground.data }], guard := none }) rfl (fun K hK => ?_) AllReadyH.nil
          go_simp
          refine (show Calls Tryd.prog 20 #[.agg (Ev.c ⟨(k : Nat), ww, o, hn, hg, nn, ng, t, a, u, y, er⟩), .int .u16 _] _ _ from only_any ⟨(k : Nat), ww, o, hn, hg, nn, ng, t, a, u, y, er⟩ _ _).mono ?_
          rintro e X9 ⟨rfl, bb⟩
          obtain ⟨l3, c3⟩ := hHeld
          have l3 := l3.below bb l3.lt
          have c3 := (bb.cell (p := ⟨gAny, k, none⟩) hlt8).trans c3
          have b9 := b9.trans (bb.mono b9.size)
          have l4 := l4.below bb l4.lt
          go_wp2_with fail
          refine hK.out _ _ ⟨l3, c3⟩ (fun hHeld => ?_)
          clear hK K
          try simp only [Act.put, List.setIfInBounds_toArray, List.set_cons_zero, List.set_cons_succ]
          refine wpAnyH_ready (rs := [8]) (by kernel_rfl) (by simp) ?_
          refine AllReadyH.cons (o := { dst := none, op := Go.Op.store 31 (Go.Operand.tmp 4) (Go.Operand.tmp 15), type := 0, pos := "event.go:164", after := #[{ on := 7, ground := Go.Ground.data }, { on := 6, ground := Go.Ground.data }, { on := 6, ground := Go.Ground.chain }, { on := 0, ground := Go.Ground.phase }, { on := 1, ground := Go.Ground.phase }, { on := 2, ground := Go.Ground.phase }, { on := 3, ground := Go.Ground.phase }, { on := 4, ground := Go.Ground.phase }, { on := 5, ground := Go.Ground.phase }, { on := 6, ground := Go.Ground.phase }, { on := 7, ground := Go.Ground.phase }], guard := none }) rfl (fun K hK => ?_) AllReadyH.nil
          rw [if_pos (by rfl)]
          refine wp_store_mid 31 _ _ (by rfl) W2.heap.size 0 (Ev.c (Ev.only ⟨(k : Nat), ww, o, hn, hg, nn, ng, t, a, u, y, er⟩ nz)) (by rfl) (by rfl) (there_of_lies l4 (show (12 : Nat) ≤ 12 from Nat.le_refl _)) (by kernel_rfl) (Ev.one _) ?_
          obtain ⟨l5, t5, z5⟩ := Lies.sets (Ev.c (Ev.only ⟨(k : Nat), ww, o, hn, hg, nn, ng, t, a, u, y, er⟩ nz)).toList 0 _ _ l4 (by rfl)
          have b9 := b9.trans (t5.below (fun g hg => by simp at hg; omega) b9.size)
          refine hK.out _ _ ⟨l3.turn t5 (by simp; exact nb), (t5.cell (p := ⟨gAny, k, none⟩) (Nat.lt_of_lt_of_le hlt8 bb.size) (by simp; exact n3)).trans c3⟩ (fun hHeld => ?_)
          clear hK K
          refine wpAnyH_done (by kernel_rfl) ?_ _
          go_wp2_with fail
          go_meet
          case rel => exact ⟨_, rfl, l5, b9⟩
      case rest =>
        obtain ⟨b4, rfl, l5, b9⟩ := hcut
        obtain ⟨e0, e1, e2, e3, e4, e5, e6, e7, e8, e9, ea, eb⟩ := Ev.cells l5
        obtain ⟨yv, hyv⟩ : ∃ yv, Ev.only ⟨(k : Nat), ww, o, hn, hg, nn, ng, t, a, u, y, er⟩ nz = yv := ⟨_, rfl⟩
        rw [hyv] at e1 e3 e4 e5 e6 e7 e8 e9 eb
        have HY := Lib.hid hyv
        clear hyv
        clear l5 e0 e2 ea
        obtain ⟨m, hm⟩ : ∃ m, mn (mn (mn (mn (mn (mn (mn yv.w yv.hn) yv.hg) yv.nn) yv.ng) yv.a) yv.u) yv.e = m := ⟨_, rfl⟩
        have hmin : ∀ ts t W, (Builtin.min_ ts t #[.int .i64 yv.w, .int .i64 yv.hn, .int .i64 yv.hg, .int .i64 yv.nn, .int .i64 yv.ng, .int .i64 yv.a, .int .i64 yv.u, .int .i64 yv.e]).run Tryd.prog W = .ok (.int .i64 m) W := fun ts t W => by rw [min8, hm]
        have hfin : (decide (0 ≤ yv.w) && decide (0 ≤ yv.hn) && decide (0 ≤ yv.hg) && decide (0 ≤ yv.nn) && decide (0 ≤ yv.ng) && decide (0 ≤ yv.a) && decide (0 ≤ yv.u) && decide (0 ≤ yv.e)) = decide (0 ≤ m) := by
          rw [← hm]
          simp only [mn_ge]
        have HL2 := Lib.hid hfin
        clear hm hfin hbb
        have hl := HL.out
        by_cases ht : lt ≤ yv.t
        all_goals
          simp at hl
          subst hl
          go_wp2_with fail
          go_ret
          exact ⟨by rw [HY.out]; unfold BD; rw [HL2.out]; simp [ht] <;> (intro h9; omega), b9⟩
  refine walk _ rfl ?_
  rw [← hlt]
  by_cases h5 : k = 5
  · subst h5; rfl
  · rw [if_neg h5]
    have : ((k : Int) == 5) = false := by simp; omega
    rw [this]
    rfl

end Go.Proofs.YtiaknnhfbfoeiaaDoor
