/- Events: numbers, handles and answers as texts; what is said goes behind what was said. -/
import Derived.Test.YtiaknnhfbfoeiaaDoorE10
import Derived.Test.YtiaknnhfbfoeiaaDoorVR
import Derived.Test.YtiaknnhfbfoeiaaDoorShelf
import Derived.Test.YtiaknnhfbfoeiaaDoorE2
namespace Go.Proofs.YtiaknnhfbfoeiaaDoor
open Go.RowKit Go.ChangeShapes Go.WideShapes
set_option maxRecDepth 100000

theorem grow_below (w : World) (k : Nat) (os : Array Obj) : Below w.heap.size w (Go.Sort.grow (w.drewN k) os) := by
  refine ⟨rfl, rfl, rfl, ?_, fun b hb => ?_⟩
  · show w.heap.size ≤ (w.heap ++ os).size
    rw [Array.size_append]
    omega
  · show (w.heap ++ os)[b]? = w.heap[b]?
    rw [Array.getElem?_append_left hb]
theorem itoa_any (n : Int) (h0 : -9223372036854775808 ≤ n) (h1 : n ≤ 9223372036854775807) (w : World) (hT : TabE w) : Calls Tryd.prog 25 #[.int .i64 n] w fun e w' => e = .returned (tx (Lib.itoa n)) ∧ Below w.heap.size w w' := by
  refine (Tryd.strconv_Itoa n h0 h1 w hT.pw).mono ?_
  rintro e w' ⟨rfl, k, os, rfl⟩
  exact ⟨rfl, grow_below w k os⟩
def hdT (a b : Int) : List UInt8 := Lib.itoa a ++ [46] ++ Lib.itoa b
def ysT (y : Bool) : List UInt8 := if y then [121, 101, 115] else [110, 111]
theorem yes_any (y : Bool) (w : World) : Calls Tryd.prog 27 #[.bool y] w fun e w' => e = .returned (tx (ysT y)) ∧ w = w' := by
  unfold ysT
  cases y
  all_goals
    go_enter Tryd.func27, Tryd.ntmps27
    go_wp2_with fail
    go_ret
    exact ⟨rfl, rfl⟩

set_option maxHeartbeats 2000000 in
theorem handle_any (a b : Int) (ha : -9223372036854775808 ≤ a ∧ a ≤ 9223372036854775807) (hb : -9223372036854775808 ≤ b ∧ b ≤ 9223372036854775807) (w : World) (hT : TabE w) : Calls Tryd.prog 26 #[.agg #[.int .i64 a, .int .i64 b]] w fun e w' => e = .returned (tx (hdT a b)) ∧ Below w.heap.size w w' := by
  unfold hdT
  obtain ⟨B0, hB0⟩ : ∃ B0, w.heap.size = B0 := ⟨_, rfl⟩
  obtain ⟨W1, hW1⟩ : ∃ W1, w.alloc (.cells #[.int .i64 a, .int .i64 b] 28) = W1 := ⟨_, rfl⟩
  have l1 : Lies W1.drew B0 28 #[.int .i64 a, .int .i64 b] := by rw [← hW1, ← hB0]; exact (Lies.new _ _ _).turn ((Turns.refl [] _).drew) (by simp)
  have bW : Below w.heap.size w W1.drew := by rw [← hW1]; exact ((Turns.refl [] w).alloc _).drew.below (by simp) (Nat.le_refl _)
  have c_a : ∀ W, TabE W → Calls Tryd.prog 25 #[.int .i64 a] W fun e w' => e = .returned (tx (Lib.itoa a)) ∧ Below W.heap.size W w' := fun W hT => itoa_any a (by omega) (by omega) W hT
  have c_b : ∀ W, TabE W → Calls Tryd.prog 25 #[.int .i64 b] W fun e w' => e = .returned (tx (Lib.itoa b)) ∧ Below W.heap.size W w' := fun W hT => itoa_any b (by omega) (by omega) W hT
  have n1 := itoa_len (n := a) (by omega) (by omega)
  have n2 := itoa_len (n := b) (by omega) (by omega)
  obtain ⟨sa, hsa⟩ : ∃ sa, Lib.itoa a = sa := ⟨_, rfl⟩
  obtain ⟨sb, hsb⟩ : ∃ sb, Lib.itoa b = sb := ⟨_, rfl⟩
  rw [hsa] at c_a n1
  rw [hsb] at c_b n2
  rw [hsa, hsb]
  have c1 := c_a
  have c2 := c_b
  clear hsa hsb ha hb c_a c_b
  have HF : Hid (((⟨sa.toArray⟩ : ByteArray) ++ ⟨#[46]⟩ ++ ⟨sb.toArray⟩) = ⟨(sa ++ [46] ++ sb).toArray⟩) := Lib.hid (by rw [show (⟨#[46]⟩ : ByteArray) = ⟨([46] : List UInt8).toArray⟩ from rfl, ba_app, ba_app])
  go_enter Tryd.func26, Tryd.ntmps26
  go_upto_region 1 with (fail)
  try rw [hW1]
  try rw [hB0]
  clear hW1
  refine wp_region_held_drew (S := fun X9 => Lies X9 B0 28 #[.int .i64 a, .int .i64 b]) (by kernel_rfl) l1 (fun hHeld => ?_)
  refine wpAnyH_take (i := 0) (oi := { dst := some 3, op := Go.Op.fieldAddr 28 (Go.Operand.tmp 1) 0, type := 0, pos := "event.go:177", after := #[], guard := none }) (v := ?_) rfl (by kernel_rfl) (by kernel_rfl) (by kernel_rfl) (fun _ _ _ h => h) (Or.inl ⟨by rfl, ?_⟩) hHeld ?_
  rotate_left
  · intro w hSw; have hS0 : w.cell? ⟨B0, 0, none⟩ = some (.int .i64 a) := hSw.cell 0; have hS1 : w.cell? ⟨B0, 1, none⟩ = some (.int .i64 b) := hSw.cell 1; go_simp; try with_reducible rfl
  rotate_left
  try simp only [Act.put, List.setIfInBounds_toArray, List.set_cons_zero, List.set_cons_succ]
  refine wpAnyH_take (i := 1) (oi := { dst := some 4, op := Go.Op.load 3 (Go.Operand.tmp 3), type := 3, pos := "event.go:177", after := #[{ on := 0, ground := Go.Ground.data }], guard := none }) (v := ?_) rfl (by kernel_rfl) (by kernel_rfl) (by kernel_rfl) (fun _ _ _ h => h) (Or.inl ⟨by rfl, ?_⟩) hHeld ?_
  rotate_left
  · intro w hSw; have hS0 : w.cell? ⟨B0, 0, none⟩ = some (.int .i64 a) := hSw.cell 0; have hS1 : w.cell? ⟨B0, 1, none⟩ = some (.int .i64 b) := hSw.cell 1; go_simp; try with_reducible rfl
  rotate_left
  try simp only [Act.put, List.setIfInBounds_toArray, List.set_cons_zero, List.set_cons_succ]
  refine wpAnyH_take (i := 4) (oi := { dst := some 7, op := Go.Op.fieldAddr 28 (Go.Operand.tmp 1) 1, type := 0, pos := "event.go:177", after := #[], guard := none }) (v := ?_) rfl (by kernel_rfl) (by kernel_rfl) (by kernel_rfl) (fun _ _ _ h => h) (Or.inl ⟨by rfl, ?_⟩) hHeld ?_
  rotate_left
  · intro w hSw; have hS0 : w.cell? ⟨B0, 0, none⟩ = some (.int .i64 a) := hSw.cell 0; have hS1 : w.cell? ⟨B0, 1, none⟩ = some (.int .i64 b) := hSw.cell 1; go_simp; try with_reducible rfl
  rotate_left
  try simp only [Act.put, List.setIfInBounds_toArray, List.set_cons_zero, List.set_cons_succ]
  refine wpAnyH_take (i := 5) (oi := { dst := some 8, op := Go.Op.load 3 (Go.Operand.tmp 7), type := 3, pos := "event.go:177", after := #[{ on := 4, ground := Go.Ground.data }], guard := none }) (v := ?_) rfl (by kernel_rfl) (by kernel_rfl) (by kernel_rfl) (fun _ _ _ h => h) (Or.inl ⟨by rfl, ?_⟩) hHeld ?_
  rotate_left
  · intro w hSw; have hS0 : w.cell? ⟨B0, 0, none⟩ = some (.int .i64 a) := hSw.cell 0; have hS1 : w.cell? ⟨B0, 1, none⟩ = some (.int .i64 b) := hSw.cell 1; go_simp; try with_reducible rfl
  rotate_left
  try simp only [Act.put, List.setIfInBounds_toArray, List.set_cons_zero, List.set_cons_succ]
  refine wpAnyH_ready (rs := [2]) (by kernel_rfl) (by simp) ?_
  refine AllReadyH.cons (o := { dst := some 5, op := Go.Op.call { callee := Go.Callee.value (Go.Operand.func 25), args := #[Go.Operand.tmp 4], argTypes := #[3] }, type := 9, pos := "event.go:177", after := #[{ on := 1, ground := Go.Ground.data }], guard := none }) rfl (fun K hK => ?_) AllReadyH.nil
  go_simp
  refine (c1 _ (hT.keep bW)).mono ?_
  rintro e wn ⟨rfl, bb⟩
  have l1 := l1.below bb l1.lt
  have bW := bW.trans (bb.mono bW.size)
  go_wp2_with fail
  refine hK.out _ _ l1 (fun hHeld => ?_)
  clear hK K
  try simp only [Act.put, List.setIfInBounds_toArray, List.set_cons_zero, List.set_cons_succ]
  have h22 : ¬ (9223372036854775807 < sa.length + 1) := by omega
  refine wpAnyH_take (i := 3) (oi := { dst := some 6, op := Go.Op.binOp Go.BinOp.add 9 (Go.Operand.tmp 5) (Go.Operand.const (Go.Value.string { data := #[46] })) 9, type := 9, pos := "event.go:177", after := #[{ on := 2, ground := Go.Ground.data }], guard := none }) (v := ?_) rfl (by kernel_rfl) (by kernel_rfl) (by kernel_rfl) (fun _ _ _ h => h) (Or.inl ⟨by rfl, ?_⟩) hHeld ?_
  rotate_left
  · intro w hSw; have hS0 : w.cell? ⟨B0, 0, none⟩ = some (.int .i64 a) := hSw.cell 0; have hS1 : w.cell? ⟨B0, 1, none⟩ = some (.int .i64 b) := hSw.cell 1; go_simp; try with_reducible rfl
  rotate_left
  try simp only [Act.put, List.setIfInBounds_toArray, List.set_cons_zero, List.set_cons_succ]
  refine wpAnyH_ready (rs := [6]) (by kernel_rfl) (by simp) ?_
  refine AllReadyH.cons (o := { dst := some 9, op := Go.Op.call { callee := Go.Callee.value (Go.Operand.func 25), args := #[Go.Operand.tmp 8], argTypes := #[3] }, type := 9, pos := "event.go:177", after := #[{ on := 5, ground := Go.Ground.data }, { on := 2, ground := Go.Ground.chain }], guard := none }) rfl (fun K hK => ?_) AllReadyH.nil
  go_simp
  refine (c2 _ (hT.keep bW)).mono ?_
  rintro e wn ⟨rfl, bb⟩
  have l1 := l1.below bb l1.lt
  have bW := bW.trans (bb.mono bW.size)
  go_wp2_with fail
  refine hK.out _ _ l1 (fun hHeld => ?_)
  clear hK K
  try simp only [Act.put, List.setIfInBounds_toArray, List.set_cons_zero, List.set_cons_succ]
  have h23 : ¬ (9223372036854775807 < sa.length + 1 + sb.length) := by omega
  refine wpAnyH_take (i := 7) (oi := { dst := some 10, op := Go.Op.binOp Go.BinOp.add 9 (Go.Operand.tmp 6) (Go.Operand.tmp 9) 9, type := 9, pos := "event.go:177", after := #[{ on := 3, ground := Go.Ground.data }, { on := 6, ground := Go.Ground.data }], guard := none }) (v := ?_) rfl (by kernel_rfl) (by kernel_rfl) (by kernel_rfl) (fun _ _ _ h => h) (Or.inl ⟨by rfl, ?_⟩) hHeld ?_
  rotate_left
  · intro w hSw; have hS0 : w.cell? ⟨B0, 0, none⟩ = some (.int .i64 a) := hSw.cell 0; have hS1 : w.cell? ⟨B0, 1, none⟩ = some (.int .i64 b) := hSw.cell 1; go_simp; try with_reducible rfl
  rotate_left
  try simp only [Act.put, List.setIfInBounds_toArray, List.set_cons_zero, List.set_cons_succ]
  refine wpAnyH_take (i := 8) (oi := { dst := some 2, op := Go.Op.assign (Go.Operand.tmp 10), type := 9, pos := "event.go:177", after := #[{ on := 7, ground := Go.Ground.data }, { on := 6, ground := Go.Ground.chain }, { on := 0, ground := Go.Ground.phase }, { on := 1, ground := Go.Ground.phase }, { on := 2, ground := Go.Ground.phase }, { on := 3, ground := Go.Ground.phase }, { on := 4, ground := Go.Ground.phase }, { on := 5, ground := Go.Ground.phase }, { on := 6, ground := Go.Ground.phase }, { on := 7, ground := Go.Ground.phase }], guard := none }) (v := ?_) rfl (by kernel_rfl) (by kernel_rfl) (by kernel_rfl) (fun _ _ _ h => h) (Or.inl ⟨by rfl, ?_⟩) hHeld ?_
  rotate_left
  · intro w hSw; have hS0 : w.cell? ⟨B0, 0, none⟩ = some (.int .i64 a) := hSw.cell 0; have hS1 : w.cell? ⟨B0, 1, none⟩ = some (.int .i64 b) := hSw.cell 1; go_simp; try with_reducible rfl
  rotate_left
  try simp only [Act.put, List.setIfInBounds_toArray, List.set_cons_zero, List.set_cons_succ]
  refine wpAnyH_done (by kernel_rfl) ?_ _
  go_wp2_with fail
  go_ret
  exact ⟨congrArg (fun b => Ending.returned (.string b)) HF.out, bW⟩

set_option maxHeartbeats 2000000 in
theorem refhandle_any (a b : Int) (ha : -9223372036854775808 ≤ a ∧ a ≤ 9223372036854775807) (hb : -9223372036854775808 ≤ b ∧ b ≤ 9223372036854775807) (w : World) : Calls Tryd.prog 31 #[.agg #[.int .i64 a, .int .i64 b]] w fun e w' => e = .returned (tx (hdT a b)) ∧ Below w.heap.size w w' := by
  unfold hdT
  obtain ⟨B0, hB0⟩ : ∃ B0, w.heap.size = B0 := ⟨_, rfl⟩
  obtain ⟨W1, hW1⟩ : ∃ W1, w.alloc (.cells #[.int .i64 a, .int .i64 b] 23) = W1 := ⟨_, rfl⟩
  have l1 : Lies W1.drew B0 23 #[.int .i64 a, .int .i64 b] := by rw [← hW1, ← hB0]; exact (Lies.new _ _ _).turn ((Turns.refl [] _).drew) (by simp)
  have bW : Below w.heap.size w W1.drew := by rw [← hW1]; exact ((Turns.refl [] w).alloc _).drew.below (by simp) (Nat.le_refl _)
  have c_a : ∀ W, Calls Tryd.prog 29 #[.int .i64 a] W fun e w' => e = .returned (tx (Lib.itoa a)) ∧ Below W.heap.size W w' := fun W => decimal_any _ a (Nat.lt_succ_self _) (by omega) (by omega) W
  have c_b : ∀ W, Calls Tryd.prog 29 #[.int .i64 b] W fun e w' => e = .returned (tx (Lib.itoa b)) ∧ Below W.heap.size W w' := fun W => decimal_any _ b (Nat.lt_succ_self _) (by omega) (by omega) W
  have n1 := itoa_len (n := a) (by omega) (by omega)
  have n2 := itoa_len (n := b) (by omega) (by omega)
  obtain ⟨sa, hsa⟩ : ∃ sa, Lib.itoa a = sa := ⟨_, rfl⟩
  obtain ⟨sb, hsb⟩ : ∃ sb, Lib.itoa b = sb := ⟨_, rfl⟩
  rw [hsa] at c_a n1
  rw [hsb] at c_b n2
  rw [hsa, hsb]
  have c1 := c_a
  have c2 := c_b
  clear hsa hsb ha hb c_a c_b
  have HF : Hid (((⟨sa.toArray⟩ : ByteArray) ++ ⟨#[46]⟩ ++ ⟨sb.toArray⟩) = ⟨(sa ++ [46] ++ sb).toArray⟩) := Lib.hid (by rw [show (⟨#[46]⟩ : ByteArray) = ⟨([46] : List UInt8).toArray⟩ from rfl, ba_app, ba_app])
  go_enter Tryd.func31, Tryd.ntmps31
  go_upto_region 1 with (fail)
  try rw [hW1]
  try rw [hB0]
  clear hW1
  refine wp_region_held_drew (S := fun X9 => Lies X9 B0 23 #[.int .i64 a, .int .i64 b]) (by kernel_rfl) l1 (fun hHeld => ?_)
  refine wpAnyH_take (i := 0) (oi := { dst := some 3, op := Go.Op.fieldAddr 23 (Go.Operand.tmp 1) 0, type := 0, pos := "ref.go:125", after := #[], guard := none }) (v := ?_) rfl (by kernel_rfl) (by kernel_rfl) (by kernel_rfl) (fun _ _ _ h => h) (Or.inl ⟨by rfl, ?_⟩) hHeld ?_
  rotate_left
  · intro w hSw; have hS0 : w.cell? ⟨B0, 0, none⟩ = some (.int .i64 a) := hSw.cell 0; have hS1 : w.cell? ⟨B0, 1, none⟩ = some (.int .i64 b) := hSw.cell 1; go_simp; try with_reducible rfl
  rotate_left
  try simp only [Act.put, List.setIfInBounds_toArray, List.set_cons_zero, List.set_cons_succ]
  refine wpAnyH_take (i := 1) (oi := { dst := some 4, op := Go.Op.load 3 (Go.Operand.tmp 3), type := 3, pos := "ref.go:125", after := #[{ on := 0, ground := Go.Ground.data }], guard := none }) (v := ?_) rfl (by kernel_rfl) (by kernel_rfl) (by kernel_rfl) (fun _ _ _ h => h) (Or.inl ⟨by rfl, ?_⟩) hHeld ?_
  rotate_left
  · intro w hSw; have hS0 : w.cell? ⟨B0, 0, none⟩ = some (.int .i64 a) := hSw.cell 0; have hS1 : w.cell? ⟨B0, 1, none⟩ = some (.int .i64 b) := hSw.cell 1; go_simp; try with_reducible rfl
  rotate_left
  try simp only [Act.put, List.setIfInBounds_toArray, List.set_cons_zero, List.set_cons_succ]
  refine wpAnyH_take (i := 4) (oi := { dst := some 7, op := Go.Op.fieldAddr 23 (Go.Operand.tmp 1) 1, type := 0, pos := "ref.go:125", after := #[], guard := none }) (v := ?_) rfl (by kernel_rfl) (by kernel_rfl) (by kernel_rfl) (fun _ _ _ h => h) (Or.inl ⟨by rfl, ?_⟩) hHeld ?_
  rotate_left
  · intro w hSw; have hS0 : w.cell? ⟨B0, 0, none⟩ = some (.int .i64 a) := hSw.cell 0; have hS1 : w.cell? ⟨B0, 1, none⟩ = some (.int .i64 b) := hSw.cell 1; go_simp; try with_reducible rfl
  rotate_left
  try simp only [Act.put, List.setIfInBounds_toArray, List.set_cons_zero, List.set_cons_succ]
  refine wpAnyH_take (i := 5) (oi := { dst := some 8, op := Go.Op.load 3 (Go.Operand.tmp 7), type := 3, pos := "ref.go:125", after := #[{ on := 4, ground := Go.Ground.data }], guard := none }) (v := ?_) rfl (by kernel_rfl) (by kernel_rfl) (by kernel_rfl) (fun _ _ _ h => h) (Or.inl ⟨by rfl, ?_⟩) hHeld ?_
  rotate_left
  · intro w hSw; have hS0 : w.cell? ⟨B0, 0, none⟩ = some (.int .i64 a) := hSw.cell 0; have hS1 : w.cell? ⟨B0, 1, none⟩ = some (.int .i64 b) := hSw.cell 1; go_simp; try with_reducible rfl
  rotate_left
  try simp only [Act.put, List.setIfInBounds_toArray, List.set_cons_zero, List.set_cons_succ]
  refine wpAnyH_ready (rs := [2]) (by kernel_rfl) (by simp) ?_
  refine AllReadyH.cons (o := { dst := some 5, op := Go.Op.call { callee := Go.Callee.value (Go.Operand.func 29), args := #[Go.Operand.tmp 4], argTypes := #[3] }, type := 9, pos := "ref.go:125", after := #[{ on := 1, ground := Go.Ground.data }], guard := none }) rfl (fun K hK => ?_) AllReadyH.nil
  go_simp
  refine (c1 _).mono ?_
  rintro e wn ⟨rfl, bb⟩
  have l1 := l1.below bb l1.lt
  have bW := bW.trans (bb.mono bW.size)
  go_wp2_with fail
  refine hK.out _ _ l1 (fun hHeld => ?_)
  clear hK K
  try simp only [Act.put, List.setIfInBounds_toArray, List.set_cons_zero, List.set_cons_succ]
  have h22 : ¬ (9223372036854775807 < sa.length + 1) := by omega
  refine wpAnyH_take (i := 3) (oi := { dst := some 6, op := Go.Op.binOp Go.BinOp.add 9 (Go.Operand.tmp 5) (Go.Operand.const (Go.Value.string { data := #[46] })) 9, type := 9, pos := "ref.go:125", after := #[{ on := 2, ground := Go.Ground.data }], guard := none }) (v := ?_) rfl (by kernel_rfl) (by kernel_rfl) (by kernel_rfl) (fun _ _ _ h => h) (Or.inl ⟨by rfl, ?_⟩) hHeld ?_
  rotate_left
  · intro w hSw; have hS0 : w.cell? ⟨B0, 0, none⟩ = some (.int .i64 a) := hSw.cell 0; have hS1 : w.cell? ⟨B0, 1, none⟩ = some (.int .i64 b) := hSw.cell 1; go_simp; try with_reducible rfl
  rotate_left
  try simp only [Act.put, List.setIfInBounds_toArray, List.set_cons_zero, List.set_cons_succ]
  refine wpAnyH_ready (rs := [6]) (by kernel_rfl) (by simp) ?_
  refine AllReadyH.cons (o := { dst := some 9, op := Go.Op.call { callee := Go.Callee.value (Go.Operand.func 29), args := #[Go.Operand.tmp 8], argTypes := #[3] }, type := 9, pos := "ref.go:125", after := #[{ on := 5, ground := Go.Ground.data }, { on := 2, ground := Go.Ground.chain }], guard := none }) rfl (fun K hK => ?_) AllReadyH.nil
  go_simp
  refine (c2 _).mono ?_
  rintro e wn ⟨rfl, bb⟩
  have l1 := l1.below bb l1.lt
  have bW := bW.trans (bb.mono bW.size)
  go_wp2_with fail
  refine hK.out _ _ l1 (fun hHeld => ?_)
  clear hK K
  try simp only [Act.put, List.setIfInBounds_toArray, List.set_cons_zero, List.set_cons_succ]
  have h23 : ¬ (9223372036854775807 < sa.length + 1 + sb.length) := by omega
  refine wpAnyH_take (i := 7) (oi := { dst := some 10, op := Go.Op.binOp Go.BinOp.add 9 (Go.Operand.tmp 6) (Go.Operand.tmp 9) 9, type := 9, pos := "ref.go:125", after := #[{ on := 3, ground := Go.Ground.data }, { on := 6, ground := Go.Ground.data }], guard := none }) (v := ?_) rfl (by kernel_rfl) (by kernel_rfl) (by kernel_rfl) (fun _ _ _ h => h) (Or.inl ⟨by rfl, ?_⟩) hHeld ?_
  rotate_left
  · intro w hSw; have hS0 : w.cell? ⟨B0, 0, none⟩ = some (.int .i64 a) := hSw.cell 0; have hS1 : w.cell? ⟨B0, 1, none⟩ = some (.int .i64 b) := hSw.cell 1; go_simp; try with_reducible rfl
  rotate_left
  try simp only [Act.put, List.setIfInBounds_toArray, List.set_cons_zero, List.set_cons_succ]
  refine wpAnyH_take (i := 8) (oi := { dst := some 2, op := Go.Op.assign (Go.Operand.tmp 10), type := 9, pos := "ref.go:125", after := #[{ on := 7, ground := Go.Ground.data }, { on := 6, ground := Go.Ground.chain }, { on := 0, ground := Go.Ground.phase }, { on := 1, ground := Go.Ground.phase }, { on := 2, ground := Go.Ground.phase }, { on := 3, ground := Go.Ground.phase }, { on := 4, ground := Go.Ground.phase }, { on := 5, ground := Go.Ground.phase }, { on := 6, ground := Go.Ground.phase }, { on := 7, ground := Go.Ground.phase }], guard := none }) (v := ?_) rfl (by kernel_rfl) (by kernel_rfl) (by kernel_rfl) (fun _ _ _ h => h) (Or.inl ⟨by rfl, ?_⟩) hHeld ?_
  rotate_left
  · intro w hSw; have hS0 : w.cell? ⟨B0, 0, none⟩ = some (.int .i64 a) := hSw.cell 0; have hS1 : w.cell? ⟨B0, 1, none⟩ = some (.int .i64 b) := hSw.cell 1; go_simp; try with_reducible rfl
  rotate_left
  try simp only [Act.put, List.setIfInBounds_toArray, List.set_cons_zero, List.set_cons_succ]
  refine wpAnyH_done (by kernel_rfl) ?_ _
  go_wp2_with fail
  go_ret
  exact ⟨congrArg (fun b => Ending.returned (.string b)) HF.out, bW⟩

/-- what is said so far. -/
structure Sy (W : World) (B hb lb : Nat) (l : Int) (v : Value) (ts : List (List UInt8)) : Prop where
  has : Lies W hb 49 #[.int .u16 l]
  lst : Lies W lb 47 #[v]
  row : VRow W B 9 v (ts.map tx)
def pc (b : Bool) (s : List UInt8) : List (List UInt8) := if b then [s] else []
theorem str_info : (Tryd.prog.info? 9).map (fun i => (i.zero, i.size, i.bytes)) = some (some (.string ⟨#[]⟩), 1, 16) := by kernel_rfl
set_option maxHeartbeats 1000000 in
theorem say_any {W : World} {B hb lb : Nat} {l : Int} {v : Value} {ts : List (List UInt8)} (f : Int) (s : List UInt8) (h : Sy W B hb lb l v ts) (hB : B ≤ W.heap.size) (hBl : B ≤ lb) (hl : ts.length ≤ 100) :
    Calls Tryd.prog 24 #[.int .u16 f, tx s, .pointer (some ⟨hb, 0, none⟩), .pointer (some ⟨lb, 0, none⟩)] W fun e w' => (∃ u, e = .returned u) ∧ ∃ v', Sy w' B hb lb l v' (ts ++ pc (fb l f) s) ∧ Turns (lb :: v.ownBlock.toList) W w' ∧ Below B W w' := by
  obtain ⟨h1, h2, h3⟩ := h
  have c1 : W.cell? ⟨hb, 0, none⟩ = some (.int .u16 l) := h1.cell 0
  have c2 : W.cell? ⟨lb, 0, none⟩ = some v := h2.cell 0
  unfold fb
  obtain ⟨z, hz⟩ : ∃ z, bits .and .u16 l f = z := ⟨_, rfl⟩
  by_cases hz0 : z = 0
  · subst hz0
    rw [hz]
    have hs : Sy W B hb lb l v (ts ++ pc (!((0 : Int) == 0)) s) := ⟨h1, h2, by show VRow W B _ v ((ts ++ []).map tx); rw [List.append_nil]; exact h3⟩
    have HS := Lib.hid hs
    clear h1 h2 h3 hs
    go_enter Tryd.func24, Tryd.ntmps24
    go_wp2_with fail
    refine bodyPost_end (results_none rfl _ _ _) rfl ?_
    exact ⟨⟨_, rfl⟩, v, HS.out, Turns.refl _ _, Below.refl _ _⟩
  · have hq : (z != 0) = true := by simpa using hz0
    have hq2 : (!(z == 0)) = true := by simpa using hz0
    rw [hz, hq2]
    have H3 := Lib.hid (And.intro h1 (And.intro h2 h3))
    have hlt := h2.lt
    have hfz := h2.frozen 0
    clear h1 h2 h3 hq2
    go_enter Tryd.func24, Tryd.ntmps24
    have hno : lb ∉ v.ownBlock.toList := fun hm => by
      obtain ⟨_, cur, h9⟩ := H3.out.2.2.lies (g := lb) (by simpa using hm)
      exact H3.out.2.1.unlike h9 (by decide) rfl
    go_wp2_with (first | (at_builtin; refine wpList_vrow (T := 47) (E := 9) (z := .string ⟨#[]⟩) (u := tx s) (nb := 16) Tryd.underlying47 str_info (by omega) rfl rfl H3.out.2.2 hB (by rw [List.length_map]; omega) (by rfl) (.tmp 10) (.tmp 12) rfl rfl rfl ?_; intro v' W9 r1 r2; obtain ⟨A9, cp9, e9, _, _⟩ := r1.slice; subst e9; have l9 := H3.out.2.1.turn r2 hno; have c3 : W9.cell? ⟨lb, 0, none⟩ = some v := l9.cell 0; have f3 : W9.frozen? ⟨lb, 0, none⟩ = false := l9.frozen 0; have HR := Lib.hid (And.intro r1 r2); clear r1 r2 l9) | fail)
    refine bodyPost_end (results_none rfl _ _ _) rfl ?_
    obtain ⟨r1, r2⟩ := HR.out
    rw [show (ts.map tx ++ [tx s]).length = ts.length + 1 by simp] at r1
    obtain ⟨h1, h2, h3⟩ := H3.out
    have l9 := h2.turn r2 hno
    have n1 : hb ∉ v.ownBlock.toList := fun hm => by
      obtain ⟨_, cur, h9⟩ := h3.lies (g := hb) (by simpa using hm)
      exact h1.unlike h9 (by decide) rfl
    have nhl : hb ≠ lb := h1.unlike h2 (by decide)
    have tl : Turns [lb] W9 (W9.setCell ⟨lb, 0, none⟩ (.slice A9 (ts.length + 1) cp9)) := (Turns.refl _ _).setCell (.inl (by simp)) _
    have hg : ∀ g, (Value.slice A9 (ts.length + 1) cp9).ownBlock = some g → g ∉ [lb] := fun g e hm => by
      rw [List.mem_singleton] at hm
      obtain ⟨_, cur, h9⟩ := r1.lies e
      rw [hm] at h9
      exact l9.unlike h9 (by decide) rfl
    have a1 : Lies (W9.setCell ⟨lb, 0, none⟩ (.slice A9 (ts.length + 1) cp9)) hb 49 #[.int .u16 l] := (h1.turn r2 n1).turn tl (by simpa using nhl)
    have a2 : Lies (W9.setCell ⟨lb, 0, none⟩ (.slice A9 (ts.length + 1) cp9)) lb 47 #[.slice A9 (ts.length + 1) cp9] := l9.set 0 _
    have a3 : VRow (W9.setCell ⟨lb, 0, none⟩ (.slice A9 (ts.length + 1) cp9)) B 9 (.slice A9 (ts.length + 1) cp9) ((ts ++ [s]).map tx) := by
      have h := r1.turns tl hg
      rw [List.map_append]
      exact h
    have a4 : Turns (lb :: v.ownBlock.toList) W9 (W9.setCell ⟨lb, 0, none⟩ (.slice A9 (ts.length + 1) cp9)) := tl.more (fun k hk => .inl (by simp at hk; simp [hk]))
    exact ⟨⟨_, rfl⟩, _, ⟨a1, a2, a3⟩, (r2.more (fun k hk => .inl (List.mem_cons_of_mem _ hk))).trans a4, (r2.below (fun g hm => (h3.lies (g := g) (by simpa using hm)).1) hB).trans ((tl.below (B := B) (fun g hm => by rw [List.mem_singleton] at hm; omega) (Nat.le_trans hB r2.size)))⟩

end Go.Proofs.YtiaknnhfbfoeiaaDoor
