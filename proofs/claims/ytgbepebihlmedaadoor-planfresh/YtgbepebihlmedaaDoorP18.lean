/- Contract: Fresh. -/
import Derived.Test.YtgbepebihlmedaaDoorP17
set_option linter.unusedSimpArgs false
namespace Go.Proofs.YtgbepebihlmedaaDoor
open Go.RowKit

/-- the numbers of an arena in which nothing has happened. -/
def freshF (A B N T : Nat) (C : Nat → Int) : Nat → Int := fr A B T (C 6 * 4294967296) 1 1 0 (N - 1) N 0 (T - 1)

/-- behind Fresh: a new arena of these. -/
def Freshly (w : World) (Z : Nat) (f : Nat → Int) (r : Ending) (w' : World) : Prop :=
  ∃ q c, r = .returned (.pointer (some ⟨q, 0, none⟩)) ∧ Arena w' q c (nl Z f) 0 ∧ w.heap.size ≤ q ∧ w.heap.size ≤ c ∧ Below w.heap.size w w'

theorem below_turn {B X : Nat} {w u v : World} (h : Below B w u) (t : Turns [X] u v) (hX : B ≤ X) (hB : B ≤ u.heap.size) : Below B w v := h.trans (t.below (by simpa using hX) hB)

set_option maxRecDepth 100000 in
set_option maxHeartbeats 8000000 in
theorem fresh_any (C : Nat → Int) (p : Nat) (w : World) (hp : PlanAt w p C) (hr : Right C) (W L S E N T Q A B Z : Nat) (hN : Nats C W L S E N T Q) (hA : A = 3 + W * E) (hB : B = A + N * 4) (hZ : Z = B + T * 3 + Q) :
    Calls Tryd.prog 35 #[.pointer (some ⟨p, 0, none⟩)] w (Freshly w Z (freshF A B N T C)) := by
  have hbd := bds hr
  have c6b := hbd.c6
  have HN := Lib.hid hN
  have hz : plZ C = Z := by rw [hN.plZ, hZ, hB, hA]
  have hZb : Z ≤ 74691 := by have := hbd.z; omega
  have hN1 : 1 ≤ N := by have := hbd.c3; have := hN.n; omega
  have hT1 : 1 ≤ T := by have := hbd.c4; have := hN.t; omega
  have hW6 : W ≤ 64 := by have := hbd.c0; have := hN.w; omega
  have hT8 : T ≤ 8192 := by have := hbd.c4; have := hN.t; omega
  have hBZ : B + T * 3 ≤ Z := by omega
  have hNB : A + N * 4 ≤ B := by omega
  have hA3 : 3 ≤ A := by omega
  have hWA : ∀ s : Nat, s < W → 3 + s * E < A := by
    intro s hs
    have hE3 : 3 ≤ E := by have := hN.e; omega
    have : s * E + E ≤ W * E := by rw [← Nat.succ_mul]; exact Nat.mul_le_mul_right _ hs
    omega
  have HW := Lib.hid hWA
  have HA := Lib.hid hA
  have HBq := Lib.hid hB
  have HZ := Lib.hid hz
  clear hN hz hbd hA hB hZ hWA
  have hm := make_nums Z (by omega)
  have hpl := hp.lt
  go_enter Tryd.func35, Tryd.ntmps35
  go_wp2_with fail
  refine (size_any C p _ hp hr).mono ?_
  rintro r w1 ⟨rfl, b1⟩
  rw [HZ.out]
  have hp1 := hp.keep b1 hp.lt
  go_upto_region 2 with (fail)
  have ce := (Lies.new w1 55 (nums (List.replicate Z 0))).alloc (.cells #[.slice (some ⟨w1.heap.size, 0, none⟩) Z Z] 53)
  have vr := Lies.new (w1.alloc (.cells (nums (List.replicate Z 0)) 55)) 53 #[.slice (some ⟨w1.heap.size, 0, none⟩) Z Z]
  rw [show (w1.alloc (.cells (nums (List.replicate Z 0)) 55)).heap.size = w1.heap.size + 1 by simp] at vr
  have k1 : Below w1.heap.size w1 ((w1.alloc (.cells (nums (List.replicate Z 0)) 55)).alloc (.cells #[.slice (some ⟨w1.heap.size, 0, none⟩) Z Z] 53)) := ((Below.refl _ _).alloc (Nat.le_refl _) _).alloc (by simp) _
  have hp2 := hp1.keep k1 hp1.lt
  have be : Below w.heap.size w ((w1.alloc (.cells (nums (List.replicate Z 0)) 55)).alloc (.cells #[.slice (some ⟨w1.heap.size, 0, none⟩) Z Z] 53)) := b1.trans (k1.mono b1.size)
  have hX := b1.size
  have hXlt := ce.lt
  clear k1 hp1 b1 hm hp
  generalize (w1.alloc (.cells (nums (List.replicate Z 0)) 55)).alloc (.cells #[.slice (some ⟨w1.heap.size, 0, none⟩) Z Z] 53) = u0 at *
  generalize w1.heap.size = X at *
  go_wp2_with fail
  refine (head_word 0 0 _ ⟨by omega, by omega⟩).mono ?_
  rintro r u1 ⟨rfl, b1⟩
  go_upto_region 3 with (fail)
  rw [show packW [0, wrap64 1, 0, 0] headWs = 1 from head_first]
  have hXu := Nat.lt_of_lt_of_le hXlt b1.size
  have k2 : Below u0.heap.size u0 (u1.alloc (.cells #[.int .u64 1] 55)) := b1.alloc b1.size _
  have fi := Lies.new u1 55 #[.int .u64 1]
  have h0 : FrAt X (X + 1) u1.heap.size p C Z (fr A B T (C 6 * 4294967296) 0 0 0 0 0 0 0) (u1.alloc (.cells #[.int .u64 1] 55)) := by
    refine ⟨?_, vr.below k2 vr.lt, fi, hp2.keep k2 hp2.lt, by omega⟩
    have := ce.below k2 ce.lt
    rw [nl_zero, nl_congr (g := fr A B T (C 6 * 4294967296) 0 0 0 0 0 0 0) (fun i _ => (fr_start hA3).symm)] at this
    exact this
  have be0 := be.trans (k2.mono be.size)
  clear ce vr fi hp2 be k2 b1 hXlt
  generalize u1.alloc (.cells #[.int .u64 1] 55) = u2 at *
  generalize u1.heap.size = F at *
  go_wp2_with fail
  refine (head_word 0 (-1) _ ⟨by omega, by omega⟩).mono ?_
  rintro r u3 ⟨rfl, b3⟩
  rw [show wrap64 (-1 + 1) = wrap64 0 from rfl, head_none]
  have h1 := h0.next b3
  have be1 := be0.trans (b3.mono be0.size)
  clear b3 h0 be0
  have d6 := h1.pl.c 6 (by omega)
  go_wp2_with fail
  refine (state_word (C 6) 0 0 _ ⟨by omega, by omega⟩ ⟨by omega, by omega⟩ ⟨by omega, by omega⟩).mono ?_
  rintro r u4 ⟨rfl, b4⟩
  rw [state_idle _ c6b]
  have h2 := h1.next b4
  have be2 := be1.trans (b4.mono be1.size)
  clear b4 h1 be1 d6
  generalize hst : C 6 * 4294967296 = st at *
  have HST := Lib.hid hst
  have hstb : N64 st := by unfold N64; omega
  clear hst
  have d3 := h2.pl.c 3 (by omega)
  rw [HN.out.n] at d3
  go_wp2_with fail
  refine wp_region_held_drew (S := fun W' => W'.cell? ⟨p, 3, none⟩ = some (.int .i64 (N : Int))) (by kernel_rfl) d3 (fun hHeld => ?_)
  refine wpAnyH_take (i := 0) (oi := { dst := some 39, op := Go.Op.move (Go.Operand.tmp 10), type := 74, pos := "plan.go:234", after := #[], guard := none }) (v := ?_) rfl (by kernel_rfl) (by kernel_rfl) (by kernel_rfl) (fun _ _ _ h => h) (Or.inl ⟨by rfl, ?_⟩) hHeld ?_
  rotate_left
  · intro w hSw; go_simp; try with_reducible rfl
  rotate_left
  try simp only [Act.put, List.setIfInBounds_toArray, List.set_cons_zero, List.set_cons_succ]
  refine wpAnyH_take (i := 1) (oi := { dst := some 40, op := Go.Op.move (Go.Operand.tmp 0), type := 33, pos := "plan.go:234", after := #[], guard := none }) (v := ?_) rfl (by kernel_rfl) (by kernel_rfl) (by kernel_rfl) (fun _ _ _ h => h) (Or.inl ⟨by rfl, ?_⟩) hHeld ?_
  rotate_left
  · intro w hSw; go_simp; try with_reducible rfl
  rotate_left
  try simp only [Act.put, List.setIfInBounds_toArray, List.set_cons_zero, List.set_cons_succ]
  refine wpAnyH_take (i := 3) (oi := { dst := some 42, op := Go.Op.move (Go.Operand.tmp 0), type := 33, pos := "plan.go:234", after := #[], guard := none }) (v := ?_) rfl (by kernel_rfl) (by kernel_rfl) (by kernel_rfl) (fun _ _ _ h => h) (Or.inl ⟨by rfl, ?_⟩) hHeld ?_
  rotate_left
  · intro w hSw; go_simp; try with_reducible rfl
  rotate_left
  try simp only [Act.put, List.setIfInBounds_toArray, List.set_cons_zero, List.set_cons_succ]
  refine wpAnyH_take (i := 4) (oi := { dst := some 43, op := Go.Op.nilCheck (Go.Operand.tmp 42), type := 0, pos := "plan.go:234", after := #[{ on := 3, ground := Go.Ground.data }], guard := none }) (v := ?_) rfl (by kernel_rfl) (by kernel_rfl) (by kernel_rfl) (fun _ _ _ h => h) (Or.inl ⟨by rfl, ?_⟩) hHeld ?_
  rotate_left
  · intro w hSw; go_simp; try with_reducible rfl
  rotate_left
  try simp only [Act.put, List.setIfInBounds_toArray, List.set_cons_zero, List.set_cons_succ]
  refine wpAnyH_take (i := 5) (oi := { dst := some 44, op := Go.Op.fieldAddr 70 (Go.Operand.tmp 43) 0, type := 0, pos := "plan.go:234", after := #[{ on := 4, ground := Go.Ground.data }], guard := none }) (v := ?_) rfl (by kernel_rfl) (by kernel_rfl) (by kernel_rfl) (fun _ _ _ h => h) (Or.inl ⟨by rfl, ?_⟩) hHeld ?_
  rotate_left
  · intro w hSw; go_simp; try with_reducible rfl
  rotate_left
  try simp only [Act.put, List.setIfInBounds_toArray, List.set_cons_zero, List.set_cons_succ]
  refine wpAnyH_take (i := 6) (oi := { dst := some 45, op := Go.Op.fieldAddr 26 (Go.Operand.tmp 44) 3, type := 0, pos := "plan.go:234", after := #[{ on := 5, ground := Go.Ground.data }], guard := none }) (v := ?_) rfl (by kernel_rfl) (by kernel_rfl) (by kernel_rfl) (fun _ _ _ h => h) (Or.inl ⟨by rfl, ?_⟩) hHeld ?_
  rotate_left
  · intro w hSw; go_simp; try with_reducible rfl
  rotate_left
  try simp only [Act.put, List.setIfInBounds_toArray, List.set_cons_zero, List.set_cons_succ]
  refine wpAnyH_take (i := 7) (oi := { dst := some 46, op := Go.Op.load 3 (Go.Operand.tmp 45), type := 3, pos := "plan.go:234", after := #[{ on := 6, ground := Go.Ground.data }], guard := none }) (v := ?_) rfl (by kernel_rfl) (by kernel_rfl) (by kernel_rfl) (fun _ _ _ h => h) (Or.inl ⟨by rfl, ?_⟩) hHeld ?_
  rotate_left
  · intro w hSw; go_simp; try with_reducible rfl
  rotate_left
  try simp only [Act.put, List.setIfInBounds_toArray, List.set_cons_zero, List.set_cons_succ]
  refine wpAnyH_take (i := 8) (oi := { dst := some 47, op := Go.Op.move (Go.Operand.tmp 0), type := 33, pos := "plan.go:234", after := #[], guard := none }) (v := ?_) rfl (by kernel_rfl) (by kernel_rfl) (by kernel_rfl) (fun _ _ _ h => h) (Or.inl ⟨by rfl, ?_⟩) hHeld ?_
  rotate_left
  · intro w hSw; go_simp; try with_reducible rfl
  rotate_left
  try simp only [Act.put, List.setIfInBounds_toArray, List.set_cons_zero, List.set_cons_succ]
  refine wpAnyH_take (i := 9) (oi := { dst := some 48, op := Go.Op.makeFunc (Go.Fn.func 30) #[Go.Operand.tmp 47] #[], type := 45, pos := "plan.go:234", after := #[{ on := 8, ground := Go.Ground.data }], guard := none }) (v := ?_) rfl (by kernel_rfl) (by kernel_rfl) (by kernel_rfl) (fun _ _ _ h => h) (Or.inl ⟨by rfl, ?_⟩) hHeld ?_
  rotate_left
  · intro w hSw; go_simp; try with_reducible rfl
  rotate_left
  try simp only [Act.put, List.setIfInBounds_toArray, List.set_cons_zero, List.set_cons_succ]
  refine wpAnyH_ready (rs := [2]) (by kernel_rfl) (by simp) ?_
  refine AllReadyH.cons (o := { dst := some 41, op := Go.Op.call { callee := Go.Callee.value (Go.Operand.func 41), args := #[Go.Operand.tmp 40], argTypes := #[33] }, type := 3, pos := "plan.go:234", after := #[{ on := 1, ground := Go.Ground.data }], guard := none }) rfl (fun K hK => ?_) AllReadyH.nil
  go_simp
  refine (nodes_any _ _).mono ?_
  rintro r v ⟨rfl, rfl⟩
  go_wp2_with fail
  refine hK.out _ _ d3 (fun hHeld => ?_)
  clear hK K
  try simp only [Act.put, List.setIfInBounds_toArray, List.set_cons_zero, List.set_cons_succ]
  refine wpAnyH_ready (rs := [10]) (by kernel_rfl) (by simp) ?_
  refine AllReadyH.cons (o := { dst := some 49, op := Go.Op.call { callee := Go.Callee.value (Go.Operand.tmp 39), args := #[Go.Operand.tmp 41, Go.Operand.tmp 46, Go.Operand.tmp 48], argTypes := #[3, 3, 45] }, type := 0, pos := "plan.go:234", after := #[{ on := 0, ground := Go.Ground.data }, { on := 2, ground := Go.Ground.data }, { on := 7, ground := Go.Ground.data }, { on := 9, ground := Go.Ground.data }, { on := 2, ground := Go.Ground.chain }], guard := none }) rfl (fun K hK => ?_) AllReadyH.nil
  go_simp
  refine (chain_nodes X (X + 1) F p C Z W L S E N T Q A B st 0 0 0 0 _ HN.out hr HA.out HBq.out hBZ (by omega) hN1 h2.drew).mono ?_
  rintro r u5 ⟨rfl, h3, t3⟩
  have d3' := h3.pl.c 3 (by omega)
  rw [HN.out.n] at d3'
  go_wp2_with fail
  refine hK.out _ _ d3' (fun hHeld => ?_)
  clear hK K
  try simp only [Act.put, List.setIfInBounds_toArray, List.set_cons_zero, List.set_cons_succ]
  refine wpAnyH_done (by kernel_rfl) ?_ _
  have be3 := below_turn be2.drew t3 hX (by have := be2.size; simpa using this)
  clear t3 h2 be2 d3 d3'
  have d4 := h3.pl.c 4 (by omega)
  rw [HN.out.t] at d4
  go_wp2_with fail
  refine wp_region_held_drew (S := fun W' => W'.cell? ⟨p, 4, none⟩ = some (.int .i64 (T : Int))) (by kernel_rfl) d4 (fun hHeld => ?_)
  refine wpAnyH_take (i := 0) (oi := { dst := some 50, op := Go.Op.move (Go.Operand.tmp 10), type := 74, pos := "plan.go:235", after := #[], guard := none }) (v := ?_) rfl (by kernel_rfl) (by kernel_rfl) (by kernel_rfl) (fun _ _ _ h => h) (Or.inl ⟨by rfl, ?_⟩) hHeld ?_
  rotate_left
  · intro w hSw; go_simp; try with_reducible rfl
  rotate_left
  try simp only [Act.put, List.setIfInBounds_toArray, List.set_cons_zero, List.set_cons_succ]
  refine wpAnyH_take (i := 1) (oi := { dst := some 51, op := Go.Op.move (Go.Operand.tmp 0), type := 33, pos := "plan.go:235", after := #[], guard := none }) (v := ?_) rfl (by kernel_rfl) (by kernel_rfl) (by kernel_rfl) (fun _ _ _ h => h) (Or.inl ⟨by rfl, ?_⟩) hHeld ?_
  rotate_left
  · intro w hSw; go_simp; try with_reducible rfl
  rotate_left
  try simp only [Act.put, List.setIfInBounds_toArray, List.set_cons_zero, List.set_cons_succ]
  refine wpAnyH_take (i := 3) (oi := { dst := some 53, op := Go.Op.move (Go.Operand.tmp 0), type := 33, pos := "plan.go:235", after := #[], guard := none }) (v := ?_) rfl (by kernel_rfl) (by kernel_rfl) (by kernel_rfl) (fun _ _ _ h => h) (Or.inl ⟨by rfl, ?_⟩) hHeld ?_
  rotate_left
  · intro w hSw; go_simp; try with_reducible rfl
  rotate_left
  try simp only [Act.put, List.setIfInBounds_toArray, List.set_cons_zero, List.set_cons_succ]
  refine wpAnyH_take (i := 4) (oi := { dst := some 54, op := Go.Op.nilCheck (Go.Operand.tmp 53), type := 0, pos := "plan.go:235", after := #[{ on := 3, ground := Go.Ground.data }], guard := none }) (v := ?_) rfl (by kernel_rfl) (by kernel_rfl) (by kernel_rfl) (fun _ _ _ h => h) (Or.inl ⟨by rfl, ?_⟩) hHeld ?_
  rotate_left
  · intro w hSw; go_simp; try with_reducible rfl
  rotate_left
  try simp only [Act.put, List.setIfInBounds_toArray, List.set_cons_zero, List.set_cons_succ]
  refine wpAnyH_take (i := 5) (oi := { dst := some 55, op := Go.Op.fieldAddr 70 (Go.Operand.tmp 54) 0, type := 0, pos := "plan.go:235", after := #[{ on := 4, ground := Go.Ground.data }], guard := none }) (v := ?_) rfl (by kernel_rfl) (by kernel_rfl) (by kernel_rfl) (fun _ _ _ h => h) (Or.inl ⟨by rfl, ?_⟩) hHeld ?_
  rotate_left
  · intro w hSw; go_simp; try with_reducible rfl
  rotate_left
  try simp only [Act.put, List.setIfInBounds_toArray, List.set_cons_zero, List.set_cons_succ]
  refine wpAnyH_take (i := 6) (oi := { dst := some 56, op := Go.Op.fieldAddr 26 (Go.Operand.tmp 55) 4, type := 0, pos := "plan.go:235", after := #[{ on := 5, ground := Go.Ground.data }], guard := none }) (v := ?_) rfl (by kernel_rfl) (by kernel_rfl) (by kernel_rfl) (fun _ _ _ h => h) (Or.inl ⟨by rfl, ?_⟩) hHeld ?_
  rotate_left
  · intro w hSw; go_simp; try with_reducible rfl
  rotate_left
  try simp only [Act.put, List.setIfInBounds_toArray, List.set_cons_zero, List.set_cons_succ]
  refine wpAnyH_take (i := 7) (oi := { dst := some 57, op := Go.Op.load 3 (Go.Operand.tmp 56), type := 3, pos := "plan.go:235", after := #[{ on := 6, ground := Go.Ground.data }], guard := none }) (v := ?_) rfl (by kernel_rfl) (by kernel_rfl) (by kernel_rfl) (fun _ _ _ h => h) (Or.inl ⟨by rfl, ?_⟩) hHeld ?_
  rotate_left
  · intro w hSw; go_simp; try with_reducible rfl
  rotate_left
  try simp only [Act.put, List.setIfInBounds_toArray, List.set_cons_zero, List.set_cons_succ]
  refine wpAnyH_take (i := 8) (oi := { dst := some 58, op := Go.Op.move (Go.Operand.tmp 0), type := 33, pos := "plan.go:235", after := #[], guard := none }) (v := ?_) rfl (by kernel_rfl) (by kernel_rfl) (by kernel_rfl) (fun _ _ _ h => h) (Or.inl ⟨by rfl, ?_⟩) hHeld ?_
  rotate_left
  · intro w hSw; go_simp; try with_reducible rfl
  rotate_left
  try simp only [Act.put, List.setIfInBounds_toArray, List.set_cons_zero, List.set_cons_succ]
  refine wpAnyH_take (i := 9) (oi := { dst := some 59, op := Go.Op.makeFunc (Go.Fn.func 33) #[Go.Operand.tmp 58] #[], type := 45, pos := "plan.go:235", after := #[{ on := 8, ground := Go.Ground.data }], guard := none }) (v := ?_) rfl (by kernel_rfl) (by kernel_rfl) (by kernel_rfl) (fun _ _ _ h => h) (Or.inl ⟨by rfl, ?_⟩) hHeld ?_
  rotate_left
  · intro w hSw; go_simp; try with_reducible rfl
  rotate_left
  try simp only [Act.put, List.setIfInBounds_toArray, List.set_cons_zero, List.set_cons_succ]
  refine wpAnyH_ready (rs := [2]) (by kernel_rfl) (by simp) ?_
  refine AllReadyH.cons (o := { dst := some 52, op := Go.Op.call { callee := Go.Callee.value (Go.Operand.func 42), args := #[Go.Operand.tmp 51], argTypes := #[33] }, type := 3, pos := "plan.go:235", after := #[{ on := 1, ground := Go.Ground.data }], guard := none }) rfl (fun K hK => ?_) AllReadyH.nil
  go_simp
  refine (tickets_any _ _).mono ?_
  rintro r v ⟨rfl, rfl⟩
  go_wp2_with fail
  refine hK.out _ _ d4 (fun hHeld => ?_)
  clear hK K
  try simp only [Act.put, List.setIfInBounds_toArray, List.set_cons_zero, List.set_cons_succ]
  refine wpAnyH_ready (rs := [10]) (by kernel_rfl) (by simp) ?_
  refine AllReadyH.cons (o := { dst := some 60, op := Go.Op.call { callee := Go.Callee.value (Go.Operand.tmp 50), args := #[Go.Operand.tmp 52, Go.Operand.tmp 57, Go.Operand.tmp 59], argTypes := #[3, 3, 45] }, type := 0, pos := "plan.go:235", after := #[{ on := 0, ground := Go.Ground.data }, { on := 2, ground := Go.Ground.data }, { on := 7, ground := Go.Ground.data }, { on := 9, ground := Go.Ground.data }, { on := 2, ground := Go.Ground.chain }], guard := none }) rfl (fun K hK => ?_) AllReadyH.nil
  go_simp
  refine (chain_tickets X (X + 1) F p C Z W L S E N T Q A B st 1 0 (N - 1) 0 _ HN.out hr HA.out HBq.out hBZ (by omega) hT1 h3.drew).mono ?_
  rintro r u6 ⟨rfl, h4, t4⟩
  have d4' := h4.pl.c 4 (by omega)
  rw [HN.out.t] at d4'
  go_wp2_with fail
  refine hK.out _ _ d4' (fun hHeld => ?_)
  clear hK K
  try simp only [Act.put, List.setIfInBounds_toArray, List.set_cons_zero, List.set_cons_succ]
  refine wpAnyH_done (by kernel_rfl) ?_ _
  have be4 := below_turn be3.drew t4 hX (by have := be3.size; simpa using this)
  clear t4 h3 be3 d4 d4'
  have d3 := h4.pl.c 3 (by omega)
  rw [HN.out.n] at d3
  go_wp2_with fail
  go_loopw [66] (fun a u => ∃ x : Nat, x ≤ N ∧ a = .int .i64 x ∧ FrAt X (X + 1) F p C Z (fr A B T st 1 1 0 (N - 1) x 0 (T - 1)) u ∧ Below w.heap.size w u) (fun a _ => N - (intOf a).toNat)
  case atStart => exact ⟨0, by omega, rfl, h4, be4⟩
  case round =>
    clear h4 be4 d3
    obtain ⟨x, hx, rfl, h4, be4⟩ := hrel
    by_cases hlt : x < N
    · obtain ⟨J, hJ⟩ : ∃ J, J = A + x * 4 := ⟨_, rfl⟩
      have hJZ : (J : Int) < Z := by omega
      have V := Lib.hid (show plNode C x 0 = J by rw [HN.out.node x hlt, hJ, HA.out]; push_cast; omega)
      have HJ := Lib.hid hJ
      have c0 := h4.slice
      clear hJ
      go_wp2_with fail
      go_region_held3 (fun W' => W'.cell? ⟨X + 1, 0, none⟩ = some (.slice (some ⟨X, 0, none⟩) Z Z))
        (first | exact c0 | exact e0 | exact g0)
        (first
          | (go_at_call 27
             refine (state_any C p x _ h4.drew.pl hr).mono ?_
             rintro r v1 ⟨rfl, b1⟩
             rw [V.out]
             have h5 := h4.drew.next b1
             have be5 : Below w.heap.size w v1 := be4.drew.trans (b1.mono be4.size)
             have e0 := h5.slice
             have e1 := h5.cell J (by omega)
             have e2 := h5.ce.frozen J
             have h6 := h5.set J st
             have g0 := h6.slice))
      go_wp2
      go_roundw
      case rel =>
        refine ⟨x + 1, by omega, by go_num, ?_, below_turn be5 (turns_set _ _) hX be5.size⟩
        have := h6
        rw [HJ.out, fr_state (N := N) hA3 HBq.out (by omega) (by omega)] at this
        rw [HJ.out]
        exact this
      case measure => simp [intOf]; omega
    · obtain rfl : N = x := by omega
      have d3 := h4.pl.c 0 (by omega)
      rw [HN.out.w] at d3
      go_wp2_with fail
      go_loopw [81] (fun a u => ∃ x : Nat, x ≤ W ∧ a = .int .i64 x ∧ FrAt X (X + 1) F p C Z (fr A B T st 1 1 0 (N - 1) N 0 (T - 1)) u ∧ Below w.heap.size w u) (fun a _ => W - (intOf a).toNat)
      case atStart => exact ⟨0, by omega, rfl, h4, be4⟩
      case round =>
        clear h4 be4 d3
        obtain ⟨x, hx, rfl, h4, be4⟩ := hrel
        by_cases hlt : x < W
        · obtain ⟨J, hJ⟩ : ∃ J, J = 3 + x * E := ⟨_, rfl⟩
          have hJZ : (J : Int) < Z := by have := HW.out x hlt; omega
          have V := Lib.hid (show plInbox C x 0 = J by rw [HN.out.inbox x hlt, hJ]; push_cast; omega)
          have HJ := Lib.hid hJ
          have c0 := h4.slice
          clear hJ
          go_wp2_with fail
          go_region_held3 (fun W' => W'.cell? ⟨X + 1, 0, none⟩ = some (.slice (some ⟨X, 0, none⟩) Z Z))
            (first | exact c0 | exact e0 | exact g0)
            (first
              | (go_at_call 22
                 refine (inbox_any C p x _ h4.drew.pl hr).mono ?_
                 rintro r v1 ⟨rfl, b1⟩
                 rw [V.out]
                 have h5 := h4.drew.next b1
                 have be5 : Below w.heap.size w v1 := be4.drew.trans (b1.mono be4.size)
                 have e0 := h5.slice
                 have e1 := h5.cell J (by omega)
                 have e2 := h5.ce.frozen J
                 have h6 := h5.set J 0
                 have g0 := h6.slice))
          go_wp2
          go_roundw
          case rel =>
            refine ⟨x + 1, by omega, by go_num, ?_, below_turn be5 (turns_set _ _) hX be5.size⟩
            have := h6
            rw [HJ.out, fr_shard (N := N) hA3 HBq.out _ (by omega) (HW.out x hlt)] at this
            rw [HJ.out]
            exact this
          case measure => simp [intOf]; omega
        · obtain rfl : W = x := by omega
          have c0 := h4.slice
          have hfit : ∀ y, y ∈ nl Z (fr A B T st 1 1 0 (N - 1) N 0 (T - 1)) → N64 y := by
            intro y hy
            obtain ⟨i, _, rfl⟩ := List.mem_map.1 hy
            exact fr_fit hstb (by simp [N64]) (by simp [N64]) (by omega) (by omega)
          have hrow := nums_row h4.ce hfit (by rw [nl_length]; omega)
          rw [nl_length] at hrow
          have HR := Lib.hid hrow
          clear hrow hfit
          go_wp2_with fail
          refine (of_any _ Z Z _ _ HR.out (by omega) (by omega)).mono ?_
          rintro r v9 ⟨rfl, hgiv⟩
          have HF : Freshly w Z (freshF A B N T C) (.returned (.pointer (some ⟨wr.heap.size + 1, 0, none⟩))) v9 := by
            unfold freshF
            rw [HST.out]
            exact ⟨_, _, rfl, hgiv.1, by have := be4.size; omega, be4.size, be4.trans (hgiv.2.mono be4.size)⟩
          have HFF := Lib.hid HF
          clear HF hgiv
          go_wp2
          go_ret
          exact HFF.out

end Go.Proofs.YtgbepebihlmedaaDoor
